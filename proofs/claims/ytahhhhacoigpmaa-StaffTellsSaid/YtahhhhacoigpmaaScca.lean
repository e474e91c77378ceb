/-
  Contract of the document's own Name of layer 1: is a text a word? Contract of the document's own name of layer 2. Contract of the document's own look at a group; what lies behind two boxes. Contract of the document's own there.
-/
import Derived.Test.YtahhhhacoigpmaaScbj
namespace Go.Proofs.Ytahhhhacoigpmaa
open Go.RowKit
theorem name_lex {x : List UInt8} (h : nameL x = true) : lexL x = ([⟨1, x, 0, 0⟩], 0, 0) := by
  obtain ⟨c, r, rfl, h1, h2, h3⟩ := nameL_cons h
  have hi : innB c = true := by simp [innB, h2]
  have hr : runL (c :: r) = c :: r := by
    have := runL_app (c :: r) [] (by simp [hi, h3]) (fun _ _ e => by cases e)
    simpa using this
  have ht := take_let (c := c) (r := r) 0 h2
  rw [hr, if_pos (by simp only [List.length_cons]; omega)] at ht
  show lexS (c :: r) 0 0 [] = _
  rw [lexS_tok (inn_notgap hi) ht (by simp)]
  simp [lexS]
theorem lex_name {x : List UInt8} {t : Tok} (h : lexL x = ([t], 0, 0)) (hk : t.kind = 1) (hx : t.text = x) : nameL x = true := by
  rcases lexS_own _ _ _ _ _ h (by simp) t (by simp) with ⟨h1, _⟩ | ⟨_, h2⟩
  · omega
  · rw [hx] at h2
    unfold wordL at h2
    by_cases hn : nameL x = true
    · exact hn
    · rw [if_neg hn] at h2
      cases hv : numL x with
      | none => rw [hv] at h2; simp at h2
      | some v => rw [hv] at h2; injection h2 with h2; rw [← h2] at hk; simp at hk
set_option maxHeartbeats 1000000 in
theorem refName_any (s : ByteArray) (w : World) (hs : s.size ≤ 140737488351232) : Calls Try.prog 84 #[.string s] w fun e w' => e = .returned (.bool (nameL s.data.toList)) ∧ Below w.heap.size w w' := by
  have C := fun W => Lib.hid (ref_any s W (by omega))
  rcases lexS_ends s.data.toList 0 0 [] with ⟨l, hl⟩ | ⟨k, hl⟩ | ⟨k, hl⟩
  all_goals replace hl : lexL s.data.toList = _ := hl
  · by_cases h1 : l.length = 1
    · obtain ⟨t, rfl⟩ : ∃ t, l = [t] := List.length_eq_one_iff.1 h1
      have hb : nameL s.data.toList = (decide (t.kind = 1) && decide (t.text = s.data.toList)) := by
        rw [Bool.eq_iff_iff]
        constructor
        · intro hn
          have := name_lex hn
          rw [hl] at this
          simp only [Prod.mk.injEq, List.cons.injEq, and_true] at this
          rw [this]; simp
        · intro hb
          simp only [Bool.and_eq_true, decide_eq_true_eq] at hb
          exact lex_name hl hb.1 hb.2
      have HB := Lib.hid hb
      rw [hl] at C
      clear hl hb h1
      go_enter Try.func84, Try.ntmps84
      go_wp2_with fail
      refine (C _).out.mono ?_
      rintro e w1 ⟨v, rfl, hown, hb1⟩
      simp only [List.length_cons, List.length_nil, Nat.zero_add] at hown
      obtain ⟨va, vc, rfl⟩ := own_slice hown
      have ht : Toks w1 va 1 [t] := Toks.of_own hown
      obtain ⟨b, off, t', x, rfl, hbl, htk, hx, c0, c1, c2, c3⟩ := ht.at_ (k := 0) (by omega)
      simp only [List.getElem?_cons_zero, Option.some.injEq] at htk
      subst htk
      simp only [Nat.zero_mul, Nat.add_zero] at c0 c1
      have hx' : x.toList = t.text := by rw [hx, Lib.toList_data]
      by_cases hk1 : t.kind = 1
      · have hk1' : ((t.kind : Int) == 1) = true := by rw [beq_iff_eq]; omega
        by_cases hts : t.text = s.data.toList
        · have e1 : (x.toList == s.toList) = true := by rw [beq_iff_eq, hx', hts, Lib.toList_data]
          have HF : Hid (nameL s.data.toList = true) := Lib.hid (by rw [HB.out, decide_eq_true hk1, decide_eq_true hts]; rfl)
          clear hx hx' hown ht hk1 hts HB c2 c3
          go_wp2_with fail
          go_ret
          exact ⟨ret_bool HF.out.symm, hb1⟩
        · have e1 : (x.toList == s.toList) = false := by rw [beq_eq_false_iff_ne, hx', Lib.toList_data]; exact hts
          have HF : Hid (nameL s.data.toList = false) := Lib.hid (by rw [HB.out, decide_eq_false hts, Bool.and_false])
          clear hx hx' hown ht hk1 hts HB c2 c3
          go_wp2_with fail
          go_ret
          exact ⟨ret_bool HF.out.symm, hb1⟩
      · have hk1' : ((t.kind : Int) == 1) = false := by rw [beq_eq_false_iff_ne]; omega
        have HF : Hid (nameL s.data.toList = false) := Lib.hid (by rw [HB.out, decide_eq_false hk1, Bool.false_and])
        clear hx hx' hown ht hk1 HB c1 c2 c3
        go_wp2_with fail
        go_ret
        exact ⟨ret_bool HF.out.symm, hb1⟩
    · have HF : Hid (nameL s.data.toList = false) := Lib.hid (by
        cases hn : nameL s.data.toList with
        | false => rfl
        | true =>
          have := name_lex hn
          rw [hl] at this
          simp only [Prod.mk.injEq, and_true] at this
          rw [this] at h1; simp at h1)
      have h1' : ((l.length : Int) == 1) = false := by rw [beq_eq_false_iff_ne]; omega
      rw [hl] at C
      clear hl h1
      go_enter Try.func84, Try.ntmps84
      go_wp2_with fail
      refine (C _).out.mono ?_
      rintro e w1 ⟨v, rfl, hown, hb1⟩
      simp only at hown
      obtain ⟨va, vc, rfl⟩ := own_slice hown
      clear hown
      go_wp2_with fail
      go_ret
      exact ⟨ret_bool HF.out.symm, hb1⟩
  · have HF : Hid (nameL s.data.toList = false) := Lib.hid (by
      cases hn : nameL s.data.toList with
      | false => rfl
      | true =>
        have := name_lex hn
        rw [hl] at this
        simp at this)
    rw [hl] at C
    clear hl
    go_enter Try.func84, Try.ntmps84
    go_wp2_with fail
    refine (C _).out.mono ?_
    rintro e w1 ⟨v, rfl, hown, hb1⟩
    clear hown
    go_wp2_with fail
    go_ret
    exact ⟨ret_bool HF.out.symm, hb1⟩
  · have HF : Hid (nameL s.data.toList = false) := Lib.hid (by
      cases hn : nameL s.data.toList with
      | false => rfl
      | true =>
        have := name_lex hn
        rw [hl] at this
        simp at this)
    rw [hl] at C
    clear hl
    go_enter Try.func84, Try.ntmps84
    go_wp2_with fail
    refine (C _).out.mono ?_
    rintro e w1 ⟨v, rfl, hown, hb1⟩
    clear hown
    go_wp2_with fail
    go_ret
    exact ⟨ret_bool HF.out.symm, hb1⟩
end Go.Proofs.Ytahhhhacoigpmaa

namespace Go.Proofs.Ytahhhhacoigpmaa
open Go.RowKit Go.Shelf
/-- The words that are no names, as texts. -/
def kwl : List ByteArray := kws.map fun k => ⟨k.toArray⟩
theorem kwl_list : kwl.map ByteArray.toList = kws := by
  unfold kwl
  rw [List.map_map]
  refine List.map_id'' (fun k => ?_) _
  show ByteArray.toList ⟨k.toArray⟩ = k
  rw [Lib.toList_data]
theorem kwl_mem {k : Nat} (h : k < 16) : kwl[k]!.toList ∈ kws := by
  rw [← kwl_list]
  exact List.mem_map.2 ⟨_, mem_at (l := kwl) h, rfl⟩
theorem kw_hit {s : ByteArray} {k : Nat} (h : k < 16) (hq : (s.toList == kwl[k]!.toList) = true) : nameK s.toList = false :=
  nameK_kw (by rw [eq_of_beq hq, List.contains_iff_mem]; exact kwl_mem h)
theorem kw_miss {s : ByteArray} (h : ∀ j, j < 16 → (s.toList == kwl[j]!.toList) = false) : nameK s.toList = nameL s.data.toList := by
  rw [← Lib.toList_data]
  refine nameK_no ?_
  cases hc : kws.contains s.toList with
  | false => rfl
  | true =>
    rw [List.contains_iff_mem, ← kwl_list] at hc
    obtain ⟨x, hx, hxs⟩ := List.mem_map.1 hc
    obtain ⟨j, hj, rfl⟩ := List.getElem_of_mem hx
    have := h j hj
    rw [getElem!_pos kwl j hj, hxs, beq_self_eq_true] at this
    cases this
theorem kw_more {s : ByteArray} {k : Nat} (h : ∀ j, j < k → (s.toList == kwl[j]!.toList) = false) (hk : (s.toList == kwl[k]!.toList) = false) : ∀ j, j < k + 1 → (s.toList == kwl[j]!.toList) = false := by
  intro j hj
  rcases Nat.lt_or_ge j k with h1 | h1
  · exact h j h1
  · obtain rfl : j = k := by omega
    exact hk
theorem kw_row (w : World) (T : TypeId) : Row (w.alloc (.cells (kwl.map Value.string).toArray T)) (some ⟨w.heap.size, 0, none⟩) (kwl.map Value.string) :=
  fun _ => ⟨_, 0, rfl, by simp, fun j u hu => by
    rw [Nat.zero_add]
    exact cell_blk (heap_new _ _) (by rw [List.getElem?_toArray]; exact hu)⟩
set_option maxRecDepth 100000 in
set_option maxHeartbeats 2000000 in
theorem rname_any (s : ByteArray) (w : World) (hs : s.size ≤ 140737488351232) : Calls Try.prog 70 #[.string s] w fun e w' => e = .returned (.bool (nameK s.toList)) ∧ Below w.heap.size w w' := by
  have C := fun W => Lib.hid (refName_any s W hs)
  go_enter Try.func70, Try.ntmps70
  go_wp2_with fail
  go_loopw [4] (fun i wr => ∃ k : Nat, k ≤ 16 ∧ i = .int .i64 k ∧ Hid (∀ j, j < k → (s.toList == kwl[j]!.toList) = false) ∧ Row wr (some ⟨w.heap.size, 0, none⟩) (kwl.map Value.string) ∧ Below w.heap.size w wr) (fun i _ => 16 - (intOf i).toNat)
  case atStart => exact ⟨0, Nat.zero_le _, rfl, Lib.hid (fun j hj => absurd hj (Nat.not_lt_zero _)), kw_row w _, (Below.refl _ _).alloc (Nat.le_refl _) _⟩
  case round =>
    obtain ⟨k, hk, rfl, HR, hr, hB⟩ := hrel
    by_cases hlt : k < 16
    · obtain ⟨b, off, hA, hb, hc⟩ := hr.str_at (l := kwl) (i := k) hlt
      simp only [Option.some.injEq, Addr.mk.injEq, and_true] at hA
      obtain ⟨rfl, rfl⟩ := hA
      rw [Nat.zero_add] at hc
      have hk0 : (0 : Int) ≤ (k : Int) := Int.natCast_nonneg _
      have hk1 : (k : Int) < (16 : Int) := by omega
      cases hq : (s.toList == kwl[k]!.toList) with
      | true =>
        have HF := Lib.hid (kw_hit hlt hq)
        have HRow := Lib.hid hr
        clear HR hr
        generalize kwl[k]! = x at *
        go_wp2_with fail
        go_ret
        exact ⟨ret_bool HF.out.symm, hB⟩
      | false =>
        have HR' := Lib.hid (kw_more HR.out hq)
        have HRow := Lib.hid hr
        clear HR hr
        generalize kwl[k]! = x at *
        go_wp2_with fail
        go_roundw
        case rel => exact ⟨k + 1, hlt, by go_num, HR', HRow.out, hB⟩
        case measure => simp [intOf]; omega
    · obtain rfl : k = 16 := by omega
      have HF := Lib.hid (kw_miss HR.out)
      clear HR hr
      go_wp2_with (go_at_call 84; refine (C _).out.mono ?_; rintro e w' ⟨rfl, hb'⟩)
      go_ret
      exact ⟨ret_bool HF.out.symm, hB.trans (hb'.mono hB.size)⟩
end Go.Proofs.Ytahhhhacoigpmaa

namespace Go.Proofs.Ytahhhhacoigpmaa
open Go.RowKit Go.Shelf
theorem rbox {w wr : World} {g : Gr} {cs : Array Value} {T : TypeId} (hB : Below (w.heap.size + 2) ((boxW w g).alloc (.cells cs T)) wr) :
    (wr.cell? ⟨w.heap.size, 0, none⟩ = some (.slice g.ga g.gs.length g.gc) ∧ wr.cell? ⟨w.heap.size, 1, none⟩ = some (.slice g.ea g.es.length g.ec) ∧ wr.cell? ⟨w.heap.size, 2, none⟩ = some (.slice g.ra g.rs.length g.rc) ∧ wr.cell? ⟨w.heap.size, 3, none⟩ = some (.slice g.ua g.us.length g.uc)) ∧
    ∀ j u, cs[j]? = some u → wr.cell? ⟨w.heap.size + 1, j, none⟩ = some u := by
  refine ⟨box_cells (((Below.refl _ _).alloc (by rw [box_size]; omega) _).trans (hB.mono (by omega))), fun j u hu => ?_⟩
  have hh := heap_new (boxW w g) (.cells cs T)
  rw [box_size] at hh
  exact cell_blk ((hB.block (w.heap.size + 1) (by omega)).trans hh) hu
theorem rbox_old {w wr : World} {g : Gr} {cs : Array Value} {T : TypeId} (hB : Below (w.heap.size + 2) ((boxW w g).alloc (.cells cs T)) wr) : Below w.heap.size w wr :=
  (box_below w g).trans (((Below.refl _ _).alloc (by rw [box_size]; omega) _).trans (hB.mono (by omega)))
theorem rbox_more {w w1 w2 : World} {g : Gr} {cs : Array Value} {T : TypeId} (h1 : Below (w.heap.size + 2) ((boxW w g).alloc (.cells cs T)) w1) (h2 : Below w1.heap.size w1 w2) : Below (w.heap.size + 2) ((boxW w g).alloc (.cells cs T)) w2 :=
  h1.trans (h2.mono (by have := h1.size; rw [World.size_alloc, box_size] at this; exact this))
theorem rbox_size (w : World) (g : Gr) (o : Obj) : ((boxW w g).alloc o).heap.size = w.heap.size + 2 := by rw [World.size_alloc, box_size]
theorem ahead_has {α : Type} [BEq α] [LawfulBEq α] {l : List α} {k : α} {i : Nat} (h : i ≤ l.length) : (hasB l k && aheadB l k i) = aheadB l k i := by
  cases ha : aheadB l k i with
  | false => rw [Bool.and_false]
  | true =>
    unfold aheadB at ha
    rw [decide_eq_true_eq] at ha
    rw [Bool.and_true]
    exact List.contains_iff_mem.2 (List.idxOf_lt_length_iff.1 (by omega))
theorem gns_len (g : Gr) : (gns g).length = g.gs.length := List.length_map _
set_option maxRecDepth 100000 in
set_option maxHeartbeats 2000000 in
theorem rgroup_any (w : World) (g : Gr) (i : Nat) (hI : InG w g) (hz : SzG g) (hi : i < g.gs.length) :
    Calls Try.prog 44 #[.agg #[.slice g.ga g.gs.length g.gc, .slice g.ea g.es.length g.ec, .slice g.ra g.rs.length g.rc, .slice g.ua g.us.length g.uc], .int .i64 i] w fun e w' => e = .returned (.int .i64 (groupE g i)) ∧ Below w.heap.size w w' := by
  obtain ⟨b, off, hA, hb, hc⟩ := hI.gs.at_ (k := 2) (fun _ => rfl) (by omega) hi
  have k0 := hc 0 _ rfl
  rw [Nat.add_zero] at k0
  have k1 := hc 1 _ rfl
  have HI := Lib.hid hI
  clear hI hc
  have z1 := hz.gs
  obtain ⟨hsn, hsp⟩ := hz.gp _ (mem_at hi)
  clear hz
  rw [← (box_below w g).cell (p := ⟨b, _, none⟩) hb] at k0 k1
  have i0 : (0 : Int) ≤ (i : Int) := Int.natCast_nonneg _
  have i1 : (i : Int) < (g.gs.length : Int) := by omega
  have HE : Hid (groupE g i = if nameK g.gs[i]!.name.toList then
    if aheadB (gns g) g.gs[i]!.name.toList i then 6
    else if g.gs[i]!.parent.toList == [] then 0
    else if aheadB (gns g) g.gs[i]!.parent.toList i then 0 else 10
    else 5) := Lib.hid (by unfold groupE; rw [ahead_has (by rw [gns_len]; omega)])
  have C0 := fun W => Lib.hid (rname_any g.gs[i]!.name W hsn)
  have C1 := fun W hW => Lib.hid (hasGroup_any W g g.gs[i]!.name i hW z1 (Nat.le_of_lt hi))
  have C2 := fun W hW => Lib.hid (hasGroup_any W g g.gs[i]!.parent i hW z1 (Nat.le_of_lt hi))
  generalize g.gs[i]! = p at *
  unfold boxW at k0 k1
  cases hn : nameK p.name.toList with
  | false =>
    rw [hn] at C0 HE
    clear hn
    rw [hA] at k0 k1 ⊢
    have HA := Lib.hid hA
    clear hA
    go_enter Try.func44, Try.ntmps44
    go_wp2_with fail
    refine (C0 _).out.mono ?_
    rintro e w1 ⟨rfl, hb1⟩
    rw [← HA.out] at hb1
    rw [show ((w.alloc _).alloc _).heap.size = w.heap.size + 2 from rbox_size w g _] at hb1
    go_wp2_with fail
    go_ret
    exact ⟨ret_i64 (by rw [HE.out]; rfl), rbox_old hb1⟩
  | true =>
    rw [hn] at C0 HE
    clear hn
    cases h1 : aheadB (gns g) p.name.toList i with
    | true =>
      rw [h1] at C1 HE
      clear h1
      rw [hA] at k0 k1 ⊢
      have HA := Lib.hid hA
      clear hA
      go_enter Try.func44, Try.ntmps44
      go_wp2_with fail
      refine (C0 _).out.mono ?_
      rintro e w1 ⟨rfl, hb1⟩
      rw [← HA.out] at hb1
      rw [show ((w.alloc _).alloc _).heap.size = w.heap.size + 2 from rbox_size w g _] at hb1
      obtain ⟨⟨a0, a1, a2, a3⟩, hx⟩ := rbox hb1
      have x0 : w1.cell? ⟨w.heap.size + 1, 0, none⟩ = some (.string p.name) := hx 0 _ rfl
      have x1 : w1.cell? ⟨w.heap.size + 1, 1, none⟩ = some (.string p.parent) := hx 1 _ rfl
      clear hx k0 k1
      go_wp2_with fail
      refine (C1 _ (HI.out.below (Nat.le_refl _) (rbox_old hb1))).out.mono ?_
      rintro e w2 ⟨rfl, hb2⟩
      have hB2 := rbox_more hb1 hb2
      go_wp2_with fail
      go_ret
      exact ⟨ret_i64 (by rw [HE.out]; rfl), rbox_old hB2⟩
    | false =>
      rw [h1] at C1 HE
      clear h1
      cases hp : (p.parent.toList == []) with
      | true =>
        rw [hp] at HE
        rw [hA] at k0 k1 ⊢
        have HA := Lib.hid hA
        clear hA
        go_enter Try.func44, Try.ntmps44
        go_wp2_with fail
        refine (C0 _).out.mono ?_
        rintro e w1 ⟨rfl, hb1⟩
        rw [← HA.out] at hb1
        rw [show ((w.alloc _).alloc _).heap.size = w.heap.size + 2 from rbox_size w g _] at hb1
        obtain ⟨⟨a0, a1, a2, a3⟩, hx⟩ := rbox hb1
        have x0 : w1.cell? ⟨w.heap.size + 1, 0, none⟩ = some (.string p.name) := hx 0 _ rfl
        have x1 : w1.cell? ⟨w.heap.size + 1, 1, none⟩ = some (.string p.parent) := hx 1 _ rfl
        clear hx k0 k1
        go_wp2_with fail
        refine (C1 _ (HI.out.below (Nat.le_refl _) (rbox_old hb1))).out.mono ?_
        rintro e w2 ⟨rfl, hb2⟩
        have hB2 := rbox_more hb1 hb2
        obtain ⟨⟨a0', a1', a2', a3'⟩, hx⟩ := rbox hB2
        have x1' : w2.cell? ⟨w.heap.size + 1, 1, none⟩ = some (.string p.parent) := hx 1 _ rfl
        clear hx a0 a1 a2 a3 x0 x1
        go_wp2_with fail
        go_ret
        exact ⟨ret_i64 (by rw [HE.out]; rfl), rbox_old hB2⟩
      | false =>
        rw [hp] at HE
        cases h2 : aheadB (gns g) p.parent.toList i with
        | _ =>
          rw [h2] at C2 HE
          clear h2
          rw [hA] at k0 k1 ⊢
          have HA := Lib.hid hA
          clear hA
          go_enter Try.func44, Try.ntmps44
          go_wp2_with fail
          refine (C0 _).out.mono ?_
          rintro e w1 ⟨rfl, hb1⟩
          rw [← HA.out] at hb1
          rw [show ((w.alloc _).alloc _).heap.size = w.heap.size + 2 from rbox_size w g _] at hb1
          obtain ⟨⟨a0, a1, a2, a3⟩, hx⟩ := rbox hb1
          have x0 : w1.cell? ⟨w.heap.size + 1, 0, none⟩ = some (.string p.name) := hx 0 _ rfl
          have x1 : w1.cell? ⟨w.heap.size + 1, 1, none⟩ = some (.string p.parent) := hx 1 _ rfl
          clear hx k0 k1
          go_wp2_with fail
          refine (C1 _ (HI.out.below (Nat.le_refl _) (rbox_old hb1))).out.mono ?_
          rintro e w2 ⟨rfl, hb2⟩
          have hB2 := rbox_more hb1 hb2
          obtain ⟨⟨a0', a1', a2', a3'⟩, hx⟩ := rbox hB2
          have x1' : w2.cell? ⟨w.heap.size + 1, 1, none⟩ = some (.string p.parent) := hx 1 _ rfl
          clear hx a0 a1 a2 a3 x0 x1
          go_wp2_with fail
          refine (C2 _ (HI.out.below (Nat.le_refl _) (rbox_old hB2))).out.mono ?_
          rintro e w3 ⟨rfl, hb3⟩
          have hB3 := rbox_more hB2 hb3
          clear a0' a1' a2' a3' x1'
          go_wp2_with fail
          go_ret
          exact ⟨ret_i64 (by rw [HE.out]; rfl), rbox_old hB3⟩
end Go.Proofs.Ytahhhhacoigpmaa

namespace Go.Proofs.Ytahhhhacoigpmaa
open Go.RowKit Go.Shelf
set_option maxRecDepth 100000 in
set_option maxHeartbeats 1000000 in
theorem rthere_any (w : World) (g : Gr) (s : ByteArray) (hI : InG w g) (hz : SzG g) :
    Calls Try.prog 73 #[.agg #[.slice g.ga g.gs.length g.gc, .slice g.ea g.es.length g.ec, .slice g.ra g.rs.length g.rc, .slice g.ua g.us.length g.uc], .string s] w fun e w' => e = .returned (.bool (thereB g s.toList)) ∧ Below w.heap.size w w' := by
  have HI := Lib.hid hI
  clear hI
  have z1 := hz.gs
  have z2 := hz.es
  clear hz
  have HT : Hid (thereB g s.toList = (hasB (ens g) s.toList || hasB (gns g) s.toList)) := Lib.hid rfl
  have C1 := fun W hW => Lib.hid (hasGroup_any W g s g.gs.length hW z1 (Nat.le_refl _))
  have C2 := fun W hW => Lib.hid (hasEvent_any W g s g.es.length hW z2 (Nat.le_refl _))
  rw [show aheadB (gns g) s.toList g.gs.length = hasB (gns g) s.toList from ahead_all Gp.name] at C1
  rw [show aheadB (ens g) s.toList g.es.length = hasB (ens g) s.toList from ahead_all Ev.name] at C2
  have hbx := box_below w g
  cases h1 : hasB (gns g) s.toList with
  | true =>
    rw [h1] at C1 HT
    clear h1
    go_enter Try.func73, Try.ntmps73
    go_wp2_with fail
    refine (C1 _ (HI.out.below (Nat.le_refl _) hbx)).out.mono ?_
    rintro e w1 ⟨rfl, hb1⟩
    go_wp2_with fail
    go_ret
    exact ⟨ret_bool (by rw [HT.out, Bool.or_true]), hbx.trans (hb1.mono hbx.size)⟩
  | false =>
    rw [h1] at C1 HT
    clear h1
    go_enter Try.func73, Try.ntmps73
    go_wp2_with fail
    refine (C1 _ (HI.out.below (Nat.le_refl _) hbx)).out.mono ?_
    rintro e w1 ⟨rfl, hb1⟩
    have hB1 : Below (w.heap.size + 1) (boxW w g) w1 := by rw [← box_size w g]; exact hb1
    obtain ⟨a0, a1, a2, a3⟩ := box_cells hB1
    have hbw := hbx.trans (hb1.mono hbx.size)
    go_wp2_with fail
    refine (C2 _ (HI.out.below (Nat.le_refl _) hbw)).out.mono ?_
    rintro e w2 ⟨rfl, hb2⟩
    go_wp2_with fail
    go_ret
    exact ⟨ret_bool (by rw [HT.out, Bool.or_false]), hbw.trans (hb2.mono hbw.size)⟩
end Go.Proofs.Ytahhhhacoigpmaa
