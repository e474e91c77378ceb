/-
  The document's own staff (replevinref10): how it lies in memory; place, Set, Here, holds. The document's own staff: Holders, Chain.
-/
import Derived.Test.YtahhhhacoigpmaaScbf
namespace Go.Proofs.Ytahhhhacoigpmaa.SF
open Go.RowKit Go.Shelf Go.Proofs.Ytahhhhacoigpmaa Go.Proofs.Ytahhhhacoigpmaa.B
attribute [local go_sem] Oper.semAt_some
/-- Members as a graph has them, away or not. -/
structure MkS (g : Gr) (M : List Mb) : Prop where
  len : M.length = g.us.length
  name : ∀ i : Nat, i < M.length → M[i]!.name = g.us[i]!.name
  roles : ∀ i : Nat, i < M.length → M[i]!.roles = g.us[i]!.roles
  sub : ∀ i : Nat, i < M.length → M[i]!.sub = placeG g g.us[i]!.sub.toList
  few : ∀ i : Nat, i < M.length → g.us[i]!.sub.size ≤ 140737488351232
theorem MkM.mks {g : Gr} {M : List Mb} (h : MkM g M) (hz : SzG g) : MkS g M := ⟨h.len, h.name, h.roles, h.sub, fun i hi => (hz.ur _ (mem_at (by rw [← h.len]; exact hi))).2.1⟩
theorem MkS.nms {g : Gr} {M : List Mb} (h : MkS g M) : nms M = uns g := by
  unfold SF.nms uns
  refine List.ext_getElem (by simpa using h.len) (fun i h1 h2 => ?_)
  rw [List.getElem_map, List.getElem_map]
  have h7 := h.name i (by simpa using h1)
  rw [getElem!_pos M i (by simpa using h1), getElem!_pos g.us i (by simpa using h2)] at h7
  rw [h7]
theorem MkS.place {g : Gr} {M : List Mb} (h : MkS g M) (k : Key) : placeL M k = placeG g k := by unfold placeL placeG; rw [h.nms]
theorem MkS.setA {g : Gr} {M : List Mb} (h : MkS g M) (i : Nat) (a : Bool) : MkS g (setA M i a) :=
  ⟨by rw [setA_len]; exact h.len, fun j hj => by rw [setA_len] at hj; rw [setA_name]; exact h.name j hj, fun j hj => by rw [setA_len] at hj; rw [setA_roles]; exact h.roles j hj, fun j hj => by rw [setA_len] at hj; rw [setA_sub]; exact h.sub j hj, fun j hj => by rw [setA_len] at hj; exact h.few j hj⟩
/-- The document's staff in memory. -/
structure StR (w : World) (rb : Nat) (g : Gr) (aa : Option Addr) (ac B : Nat) (M : List Mb) : Prop where
  box : w.heap[rb]? = some (.cells #[.slice g.ua M.length g.uc, .slice aa M.length ac] 77 (0, 0))
  us : Row w g.ua (g.us.flatMap usC)
  rl : ∀ u ∈ g.us, Row w u.ra (u.roles.map Value.string)
  row : w.ownsRow B 4 1 (.slice aa M.length ac) M.length (M.map fun m => Value.bool m.away)
  ms : MkS g M
section
variable {w w' : World} {rb : Nat} {g : Gr} {aa : Option Addr} {ac B : Nat} {M : List Mb}
theorem StR.lt (h : StR w rb g aa ac B M) : rb < w.heap.size := blk_lt h.box
theorem StR.below (h : StR w rb g aa ac B M) (hb : Below w.heap.size w w') : StR w' rb g aa ac B M :=
  ⟨(hb.block _ h.lt).trans h.box, h.us.below (Nat.le_refl _) hb, fun u hu => (h.rl u hu).below (Nat.le_refl _) hb, own_below h.row hb, h.ms⟩
theorem StR.c0 (h : StR w rb g aa ac B M) : w.cell? ⟨rb, 0, none⟩ = some (.slice g.ua M.length g.uc) := cell_blk (i := 0) h.box rfl
theorem StR.c1 (h : StR w rb g aa ac B M) : w.cell? ⟨rb, 1, none⟩ = some (.slice aa M.length ac) := cell_blk (i := 1) h.box rfl
theorem StR.at_ (h : StR w rb g aa ac B M) {i : Nat} (hi : i < M.length) :
    ∃ b off ra rc sub, g.ua = some ⟨b, off, none⟩ ∧ b < w.heap.size ∧ w.cell? ⟨b, off + i * 3, none⟩ = some (.string M[i]!.name) ∧ w.cell? ⟨b, off + i * 3 + 1, none⟩ = some (.slice ra M[i]!.roles.length rc) ∧ w.cell? ⟨b, off + i * 3 + 2, none⟩ = some (.string sub) ∧ Row w ra (M[i]!.roles.map Value.string) ∧ sub.size ≤ 140737488351232 ∧ M[i]!.sub = placeL M sub.toList := by
  have hi2 : i < g.us.length := by rw [← h.ms.len]; exact hi
  obtain ⟨b, off, h1, h2, h3⟩ := h.us.at_ (k := 3) (fun _ => rfl) (by omega) hi2
  have k0 := h3 0 _ rfl
  have k1 := h3 1 _ rfl
  have k2 := h3 2 _ rfl
  rw [Nat.add_zero] at k0
  have hR := h.rl _ (mem_at hi2)
  refine ⟨b, off, g.us[i]!.ra, g.us[i]!.rc, g.us[i]!.sub, h1, h2, ?_, ?_, k2, ?_, h.ms.few i hi, ?_⟩
  · rw [h.ms.name i hi]; exact k0
  · rw [h.ms.roles i hi]; exact k1
  · rw [h.ms.roles i hi]; exact hR
  · rw [h.ms.place]; exact h.ms.sub i hi
theorem StR.aw (h : StR w rb g aa ac B M) {i : Nat} (hi : i < M.length) : ∃ b, aa = some ⟨b, 0, none⟩ ∧ B ≤ b ∧ b < w.heap.size ∧ w.cell? ⟨b, i, none⟩ = some (.bool M[i]!.away) ∧ w.frozen? ⟨b, i, none⟩ = false := by
  obtain ⟨b, cap, hv, hB, hl⟩ := own_head h.row (by omega)
  injection hv with h1 h2 h3
  subst h1 h3
  refine ⟨b, rfl, hB, hl, (h.row.cellAt i (by omega)).trans ?_, h.row.frozenAt i⟩
  rw [List.getElem?_map, List.getElem?_eq_getElem hi, ← getElem!_pos M i hi]; rfl
theorem StR.set {b : Nat} (h : StR w rb g (some ⟨b, 0, none⟩) ac B M) {i : Nat} (a : Bool) (hB : g.us.flatMap usC ≠ [] → ∀ q off, g.ua = some ⟨q, off, none⟩ → q < B) (hB2 : ∀ u ∈ g.us, u.roles.map Value.string ≠ [] → ∀ q off, u.ra = some ⟨q, off, none⟩ → q < B) : StR (w.setCell ⟨b, i, none⟩ (.bool a)) rb g (some ⟨b, 0, none⟩) ac B (setA M i a) := by
  have hlen := setA_len M i a
  have hbB : B ≤ b := (h.row.lt b rfl).1
  have hcur : ∃ cur, w.heap[b]? = some (.cells cur 4 (0, 0)) := by
    rcases h.row.2 with ⟨hv, _⟩ | ⟨g', cap, cur, hv, _, hh, _⟩
    · injection hv with e _ _; cases e
    · injection hv with e _ _
      injection e with e
      injection e with e
      subst e
      exact ⟨cur, hh⟩
  obtain ⟨cur, hcur⟩ := hcur
  refine ⟨?_, ?_, fun u hu => ?_, ?_, h.ms.setA i a⟩
  · rw [hlen]
    refine (blk_other (fun e => ?_)).trans h.box
    have h7 := h.box
    rw [e, hcur] at h7
    injection h7 with h7
    injection h7 with _ e7 _
    exact absurd e7 (by decide)
  · intro hne
    obtain ⟨q, off, h1, h2, h3⟩ := h.us hne
    have := hB hne q off h1
    exact ⟨q, off, h1, by rw [World.size_setCell]; exact h2, fun j u hj => (((Below.refl B w).setCell (p := ⟨b, i, none⟩) hbB (.bool a)).cell (p := ⟨q, off + j, none⟩) this).trans (h3 j u hj)⟩
  · intro hne
    obtain ⟨q, off, h1, h2, h3⟩ := h.rl u hu hne
    have := hB2 u hu hne q off h1
    exact ⟨q, off, h1, by rw [World.size_setCell]; exact h2, fun j u hj => (((Below.refl B w).setCell (p := ⟨b, i, none⟩) hbB (.bool a)).cell (p := ⟨q, off + j, none⟩) this).trans (h3 j u hj)⟩
  · rw [hlen]
    have hst := (h.row.stored i (.bool a)).1
    have e : (M.map fun m => Value.bool m.away).set i (.bool a) = (setA M i a).map fun m => Value.bool m.away := by
      unfold SF.setA; rw [List.map_set]
    rw [e] at hst
    exact hst
end
theorem place_hit {M : List Mb} (h : OkM M) {k : Nat} (hk : k < M.length) {s : ByteArray} (he : (M[k]!.name.toList == s.toList) = true) : placeL M s.toList = (k : Int) := by
  rw [← eq_of_beq he]; exact place_at h hk
theorem place_miss {M : List Mb} {s : ByteArray} (h : ∀ j, j < M.length → (M[j]!.name.toList == s.toList) = false) : placeL M s.toList = -1 := by
  unfold placeL
  cases hh : hasB (nms M) s.toList with
  | false => rfl
  | true =>
    exfalso
    obtain ⟨m, hm, he⟩ := List.mem_map.1 (List.contains_iff_mem.1 hh)
    obtain ⟨j, hj, rfl⟩ := List.getElem_of_mem hm
    have := h j hj
    rw [getElem!_pos M j hj, he, beq_self_eq_true] at this
    cases this
theorem has_hit {l : List ByteArray} {k : Nat} (hk : k < l.length) {s : ByteArray} (he : (l[k]!.toList == s.toList) = true) : hasB (l.map (·.toList)) s.toList = true :=
  List.contains_iff_mem.2 (List.mem_map.2 ⟨l[k]!, mem_at hk, eq_of_beq he⟩)
theorem has_miss {l : List ByteArray} {s : ByteArray} (h : ∀ j, j < l.length → (l[j]!.toList == s.toList) = false) : hasB (l.map (·.toList)) s.toList = false := by
  cases hh : hasB (l.map (·.toList)) s.toList with
  | false => rfl
  | true =>
    exfalso
    obtain ⟨m, hm, he⟩ := List.mem_map.1 (List.contains_iff_mem.1 hh)
    obtain ⟨j, hj, rfl⟩ := List.getElem_of_mem hm
    have := h j hj
    rw [getElem!_pos l j hj, he, beq_self_eq_true] at this
    cases this
set_option maxHeartbeats 1000000 in
theorem rplace_any (w : World) (rb : Nat) (g : Gr) (aa : Option Addr) (ac B : Nat) (M : List Mb) (h : StR w rb g aa ac B M) (hok : OkM M) (s : ByteArray) :
    Calls Try.prog 32 #[pt rb, .string s] w fun e w' => e = .returned (.int .i64 (placeL M s.toList)) ∧ w = w' := by
  have c0 := h.c0
  have hl := h.lt
  have hN := hok.few
  have HS := Lib.hid h
  have HOK := Lib.hid hok
  clear h hok
  go_enter Try.func32, Try.ntmps32
  go_wp2_with fail
  go_loopw [5] (fun i wr => ∃ k : Nat, k ≤ M.length ∧ i = .int .i64 k ∧ wr = w ∧ Hid (∀ j : Nat, j < k → (M[j]!.name.toList == s.toList) = false)) (fun i _ => M.length - (intOf i).toNat)
  case atStart => exact ⟨0, Nat.zero_le _, rfl, rfl, Lib.hid (fun j hj => by omega)⟩
  case round =>
    obtain ⟨k, hk, rfl, hwr, HK⟩ := hrel
    subst hwr
    by_cases hlt : k < M.length
    · obtain ⟨b, off, _, _, _, hA, hb, n0, _, _, _, _, _⟩ := HS.out.at_ hlt
      rw [hA] at c0
      have hi0 : (0 : Int) ≤ (k : Int) := Int.natCast_nonneg _
      have hi1 : (k : Int) < (M.length : Int) := by omega
      clear hA
      cases he : (M[k]!.name.toList == s.toList) with
      | true =>
        have HI := Lib.hid (place_hit HOK.out hlt he)
        generalize M[k]!.name = nm at *
        go_wp2_with fail
        go_ret
        exact ⟨ret_i64 HI.out.symm, rfl⟩
      | false =>
        have HS2 := Lib.hid (all_step (p := fun m : Mb => m.name.toList == s.toList) HK.out he)
        generalize M[k]!.name = nm at *
        go_wp2_with fail
        go_roundw
        case rel => exact ⟨k + 1, hlt, by go_num, trivial, HS2⟩
        case measure => simp [intOf]; omega
    · obtain rfl : k = M.length := by omega
      have HI := Lib.hid (place_miss HK.out)
      go_wp2_with fail
      go_ret
      exact ⟨ret_i64 HI.out.symm, rfl⟩
set_option maxHeartbeats 1000000 in
theorem rhere_any (w : World) (rb : Nat) (g : Gr) (aa : Option Addr) (ac B : Nat) (M : List Mb) (h : StR w rb g aa ac B M) (hok : OkM M) (s : ByteArray) :
    Calls Try.prog 14 #[pt rb, .string s] w fun e w' => e = .returned (.bool (hereB M (placeL M s.toList))) ∧ w = w' := by
  have c1 := h.c1
  have hl := h.lt
  have C := Lib.hid (rplace_any w rb g aa ac B M h hok s)
  obtain ⟨p1, p2⟩ := place_range (M := M) s.toList
  generalize placeL M s.toList = p at *
  by_cases hp : p < 0
  · obtain rfl : p = -1 := by omega
    go_enter Try.func14, Try.ntmps14
    go_wp2_with (go_at_call 32; refine C.out.mono ?_; rintro e w' ⟨rfl, rfl⟩)
    go_ret
    exact ⟨rfl, rfl⟩
  · obtain ⟨k, rfl⟩ : ∃ k : Nat, p = (k : Int) := ⟨p.toNat, by omega⟩
    have hk : k < M.length := by omega
    obtain ⟨b, hA, _, hb, a3, _⟩ := h.aw hk
    rw [hA] at c1
    have h0 : (0 : Int) ≤ (k : Int) := Int.natCast_nonneg _
    have HE : Hid (hereB M (k : Int) = !M[k]!.away) := Lib.hid (by unfold hereB; rw [decide_eq_true h0, Int.toNat_natCast]; rfl)
    clear h hA
    generalize M[k]!.away = v at *
    rw [HE.out]
    clear HE
    go_enter Try.func14, Try.ntmps14
    go_wp2_with (go_at_call 32; refine C.out.mono ?_; rintro e w' ⟨rfl, rfl⟩)
    go_ret
    exact ⟨rfl, rfl⟩
/-- Where the rows that a staff only reads lie: below what it may write. -/
structure Lo (g : Gr) (B : Nat) : Prop where
  us : g.us.flatMap usC ≠ [] → ∀ q off, g.ua = some ⟨q, off, none⟩ → q < B
  rl : ∀ u ∈ g.us, u.roles.map Value.string ≠ [] → ∀ q off, u.ra = some ⟨q, off, none⟩ → q < B
theorem Lo.of {w : World} {g : Gr} (h : InG w g) : Lo g w.heap.size :=
  ⟨fun hne q off e => by
    obtain ⟨b, o, h1, h2, _⟩ := h.us hne
    rw [h1] at e; injection e with e; injection e with e _ _; omega,
   fun u hu hne q off e => by
    obtain ⟨b, o, h1, h2, _⟩ := h.roles u hu hne
    rw [h1] at e; injection e with e; injection e with e _ _; omega⟩
set_option maxHeartbeats 2000000 in
theorem rset_any (w : World) (rb : Nat) (g : Gr) (aa : Option Addr) (ac B : Nat) (M : List Mb) (h : StR w rb g aa ac B M) (hL : Lo g B) (hok : OkM M) (u : ByteArray) (a : Bool) :
    Calls Try.prog 12 #[pt rb, .string u, .bool a] w fun e w' => e = .returned (.int .i64 (if placeL M u.toList < 0 then 10 else 0)) ∧ StR w' rb g aa ac B (awayL M (placeL M u.toList) a) ∧ Below B w w' ∧ (∀ k, (∀ b, aa = some ⟨b, 0, none⟩ → k ≠ b) → w'.heap[k]? = w.heap[k]?) ∧ w'.heap.size = w.heap.size := by
  have CP := Lib.hid (rplace_any w rb g aa ac B M h hok u)
  obtain ⟨p1, p2⟩ := place_range (M := M) u.toList
  have c1 := h.c1
  have hsl := h.lt
  have HS := Lib.hid h
  have HL := Lib.hid hL
  clear h hL
  generalize placeL M u.toList = p at *
  by_cases hp : p < 0
  · rw [if_pos hp]
    have HE : Hid (awayL M p a = M) := Lib.hid (by unfold awayL; rw [if_pos hp])
    rw [HE.out]
    go_enter Try.func12, Try.ntmps12
    go_wp2_with (go_at_call 32; refine CP.out.mono ?_; rintro e w' ⟨rfl, rfl⟩)
    go_ret
    exact ⟨rfl, HS.out, Below.refl _ _, fun _ _ => rfl, rfl⟩
  · rw [if_neg hp]
    obtain ⟨k, rfl⟩ : ∃ k : Nat, p = (k : Int) := ⟨p.toNat, by omega⟩
    have hk : k < M.length := by omega
    have h0 : (0 : Int) ≤ (k : Int) := Int.natCast_nonneg _
    have h1 : (k : Int) < (M.length : Int) := by omega
    have HE : Hid (awayL M (k : Int) a = setA M k a) := Lib.hid (by unfold awayL; rw [if_neg hp, Int.toNat_natCast])
    rw [HE.out]
    obtain ⟨b, rfl, hbB, hbl, hc3, f3⟩ := HS.out.aw hk
    have HN := Lib.hid (HS.out.set (i := k) a HL.out.us HL.out.rl)
    clear HE
    go_enter Try.func12, Try.ntmps12
    go_wp2_with (go_at_call 32; refine CP.out.mono ?_; rintro e w' ⟨rfl, rfl⟩)
    go_ret
    exact ⟨rfl, HN.out, (Below.refl _ _).setCell (p := ⟨b, _, none⟩) hbB _, fun q hq => blk_other (hq b rfl), World.size_setCell _ _ _⟩
set_option maxHeartbeats 1000000 in
theorem rholds_any (w : World) (nm sub : ByteArray) (ra : Option Addr) (rc : Nat) (l : List ByteArray) (hr : Row w ra (l.map Value.string)) (hl : l.length ≤ 8) (r : ByteArray) :
    Calls Try.prog 34 #[.agg #[.string nm, .slice ra l.length rc, .string sub], .string r] w fun e w' => e = .returned (.bool (hasB (l.map (·.toList)) r.toList)) ∧ Below w.heap.size w w' := by
  have HX := Lib.hid (heap_new w (.cells #[.string nm, .slice ra l.length rc, .string sub] 52))
  have HB := Lib.hid ((Below.refl w.heap.size w).alloc (Nat.le_refl _) (.cells #[.string nm, .slice ra l.length rc, .string sub] 52))
  have HR := Lib.hid hr
  clear hr
  go_enter Try.func34, Try.ntmps34
  go_wp2_with fail
  go_loopw [5] (fun i wr => ∃ k : Nat, k ≤ l.length ∧ i = .int .i64 k ∧ Hid (wr.heap[w.heap.size]? = some (.cells #[.string nm, .slice ra l.length rc, .string sub] 52 (0, 0))) ∧ Hid (Below w.heap.size w wr) ∧ Hid (∀ j : Nat, j < k → (l[j]!.toList == r.toList) = false)) (fun i _ => l.length - (intOf i).toNat)
  case atStart => exact ⟨0, Nat.zero_le _, rfl, HX, HB, Lib.hid (fun j hj => by omega)⟩
  case round =>
    clear HX HB
    obtain ⟨k, hk, rfl, HX, HB, HK⟩ := hrel
    have cx := cell_blk (i := 1) HX.out rfl
    have lx := blk_lt HX.out
    by_cases hlt : k < l.length
    · obtain ⟨b, off, rfl, hb, hc⟩ := HR.out (fun e => by rw [List.map_eq_nil_iff] at e; rw [e] at hlt; simp at hlt)
      have ck := hc k (.string l[k]!) (by rw [List.getElem?_map, List.getElem?_eq_getElem hlt, getElem!_pos l k hlt]; rfl)
      rw [← HB.out.cell (p := ⟨b, _, none⟩) hb] at ck
      have hb2 : b < wr.heap.size := by have := HB.out.size; omega
      have hi0 : (0 : Int) ≤ (k : Int) := Int.natCast_nonneg _
      have hi1 : (k : Int) < (l.length : Int) := by omega
      clear hc HR hb
      cases he : (l[k]!.toList == r.toList) with
      | true =>
        have HI := Lib.hid (has_hit hlt he)
        generalize l[k]! = x at *
        go_wp2_with fail
        go_ret
        exact ⟨ret_bool HI.out.symm, HB.out⟩
      | false =>
        have HS2 := Lib.hid (all_step (p := fun x : ByteArray => x.toList == r.toList) HK.out he)
        generalize l[k]! = x at *
        go_wp2_with fail
        go_roundw
        case rel => exact ⟨k + 1, hlt, by go_num, HX, HB, HS2⟩
        case measure => simp [intOf]; omega
    · obtain rfl : k = l.length := by omega
      have HI := Lib.hid (has_miss HK.out)
      go_wp2_with fail
      go_ret
      exact ⟨ret_bool HI.out.symm, HB.out⟩
end Go.Proofs.Ytahhhhacoigpmaa.SF

namespace Go.Proofs.Ytahhhhacoigpmaa.SF
open Go.RowKit Go.Shelf Go.Proofs.Ytahhhhacoigpmaa Go.Proofs.Ytahhhhacoigpmaa.B
attribute [local go_sem] Oper.semAt_some
theorem same_bytes {a b : ByteArray} (h : a.toList = b.toList) : a = b := by
  rw [Lib.toList_data, Lib.toList_data] at h
  cases a; cases b
  exact congrArg ByteArray.mk (Array.toList_inj.1 h)
theorem own_emp0 (w : World) (T : TypeId) (z : Nat) {B : Nat} (hB : B ≤ w.heap.size) : (w.alloc (.cells #[] T)).ownsRow B T z (.slice (some ⟨w.heap.size, 0, none⟩) 0 0) 0 [] :=
  ⟨by simp, .inr ⟨w.heap.size, 0, #[], rfl, hB, heap_new _ _, by simp, by unfold maxLen; omega, by simp, by simp⟩⟩
def slN : Value → Nat
  | .slice _ n _ => n
  | _ => 0
set_option maxRecDepth 100000 in
set_option maxHeartbeats 4000000 in
theorem rholders_any (w : World) (rb : Nat) (g : Gr) (aa : Option Addr) (ac B : Nat) (M : List Mb) (h : StR w rb g aa ac B M) (hok : OkM M) (r : ByteArray) :
    Calls Try.prog 17 #[pt rb, .string r] w (NmP w M (hold M r.toList)) := by
  have hN := hok.few
  have HS := Lib.hid h
  have HRO := Lib.hid hok.roles
  have HLL : Hid (hold M r.toList = holdK M r.toList M.length) := Lib.hid rfl
  rw [HLL.out]
  clear h
  obtain ⟨ii, hii0, hii1, hii2, hii3⟩ := info_parts info_st
  have HII0 := Lib.hid hii0
  have HII1 := Lib.hid hii1
  have HII2 := Lib.hid hii2
  have HII3 := Lib.hid hii3
  clear hii0 hii1 hii2 hii3
  have V0 := Lib.hid (own_emp0 w 9 1 (Nat.le_refl _))
  have HB0 := Lib.hid ((Below.refl w.heap.size w).alloc (Nat.le_refl _) (.cells #[] 9))
  go_enter Try.func17, Try.ntmps17
  go_wp2_with fail
  go_loopw [5, 6] (fun v i wr => ∃ k : Nat, k ≤ M.length ∧ i = .int .i64 k ∧ Hid (wr.ownsRow w.heap.size 9 1 v (holdK M r.toList k).length (nmC M (holdK M r.toList k))) ∧ Hid (Below w.heap.size w wr)) (fun _ i _ => M.length - (intOf i).toNat)
  case atStart => exact ⟨0, Nat.zero_le _, rfl, V0, HB0⟩
  case round =>
    clear V0 HB0
    obtain ⟨k, hk, rfl, HV, HW⟩ := hrel
    have HSr := Lib.hid (HS.out.below HW.out)
    have c0 := HSr.out.c0
    have hl := HSr.out.lt
    by_cases hlt : k < M.length
    · have hi0 : (0 : Int) ≤ (k : Int) := Int.natCast_nonneg _
      have hi1 : (k : Int) < (M.length : Int) := by omega
      have HKS := Lib.hid (holdK_succ M r.toList k)
      obtain ⟨b, off, ra, rc, sub, hA, hb, n0, n1, n2, hrow, _, _⟩ := HSr.out.at_ hlt
      have HA := Lib.hid hA
      rw [hA] at c0
      have hkl := holdK_len M r.toList k
      obtain ⟨va, vc, hv⟩ := own_slice HV.out
      subst hv
      have CH := Lib.hid (rholds_any wr M[k]!.name sub ra rc M[k]!.roles hrow (HRO.out _ (mem_at hlt)) r)
      clear hA hrow
      have hHB : hasB (M[k]!.roles.map (·.toList)) r.toList = holdB M[k]! r.toList := rfl
      rw [hHB] at CH
      clear hHB
      cases hh : holdB M[k]! r.toList with
      | false =>
        rw [hh] at CH HKS
        rw [if_neg (by decide), List.append_nil] at HKS
        clear hh
        generalize M[k]!.name = nm at *
        generalize M[k]!.roles.length = rl at *
        generalize hak : holdK M r.toList k = ak at *
        clear hak
        go_wp2_with fail
        refine CH.out.mono ?_
        rintro e w5 ⟨rfl, hb5⟩
        have HW5 := Lib.hid (HW.out.trans (hb5.mono HW.out.size))
        have HV5 := Lib.hid (own_below HV.out hb5)
        clear hb5 HW HSr c0 n0 n1 n2 hl hb
        go_wp2_with fail
        go_roundw
        case rel => exact ⟨k + 1, hlt, by go_num, by rw [HKS.out]; exact HV5, HW5⟩
        case measure => simp [intOf]; omega
      | true =>
        rw [hh] at CH HKS
        rw [if_pos rfl] at HKS
        clear hh
        have HSN : Hid (nmC M (holdK M r.toList (k + 1)) = nmC M (holdK M r.toList k) ++ [.string M[k]!.name]) := Lib.hid (by rw [HKS.out, nmC_snoc])
        have HSL : Hid ((holdK M r.toList (k + 1)).length = (holdK M r.toList k).length + 1) := Lib.hid (by rw [HKS.out, List.length_append, List.length_singleton])
        generalize M[k]!.name = nm at *
        generalize M[k]!.roles.length = rl at *
        generalize nmC M (holdK M r.toList k) = nk at *
        generalize (holdK M r.toList k).length = lk at *
        go_wp2_with fail
        refine CH.out.mono ?_
        rintro e w5 ⟨rfl, hb5⟩
        have HW5 := Lib.hid (HW.out.trans (hb5.mono HW.out.size))
        have HV5 := Lib.hid (own_below HV.out hb5)
        have hz5 := hb5.size
        rw [← hb5.cell (p := ⟨b, off + k * 3, none⟩) hb] at n0
        rw [← hb5.cell (p := ⟨rb, 0, none⟩) hl] at c0
        have hb' : b < w5.heap.size := by omega
        have hl' : rb < w5.heap.size := by omega
        have hzw := HW5.out.size
        clear hb5 HW HSr n1 n2 hl hb HV
        go_wp2_with (at_builtin; refine wpList_append_own_at _ rfl (.tmp 26) (.tmp 35) 43 rfl w.heap.size 9 ii _ 1 16 Try.underlying43 HII0.out HII1.out HII2.out HII3.out rfl (by omega) _ _ _ rfl (HV5.out.alloc _) ⟨w5.heap.size, 0, none⟩ 1 1 [.string nm] rfl rfl (fun j u hj => by rw [Addr.add_lit, Nat.zero_add]; exact cell_blk (heap_new _ _) (by simpa using hj)) (by intro u hu; simp at hu; subst hu; rfl) (by unfold maxLen; omega) (by omega) (by rw [World.size_alloc]; omega) ?_; intro v' w1 hown' hgrow _ _; obtain ⟨pa, pc, rfl⟩ := own_slice hown'; have HG := Lib.hid hgrow; have HO := Lib.hid hown'; clear hown' hgrow)
        have HWN := Lib.hid ((HW5.out.alloc hzw (.cells #[.string nm] 9)).grown HG.out (by rw [World.size_alloc]; omega) (fun q hq => (HV5.out.lt q hq).1))
        go_roundw
        case rel => exact ⟨k + 1, hlt, by go_num, by rw [HSN.out, HSL.out]; exact HO, HWN⟩
        case measure => simp [intOf]; omega
    · obtain rfl : k = M.length := by omega
      go_wp2_with fail
      go_ret
      exact ⟨_, rfl, HV.out, HW.out⟩
theorem chain_cons {M : List Mb} (h : OkM M) {x : Nat} (hx : x < M.length) : chain M (x : Int) = x :: chain M M[x]!.sub := by
  have hs := h.sub x hx
  exact chR_one (chR h (x : Int) (by omega) (by omega)) ⟨rfl, hx, chR h _ hs.1 hs.2⟩
theorem chain_nil {M : List Mb} (h : OkM M) : chain M (-1) = [] := by
  have hr := chR h (-1) (by omega) (by omega)
  cases hc : chain M (-1) with
  | nil => rfl
  | cons x r => rw [hc] at hr; have := hr.1; omega
set_option maxRecDepth 100000 in
set_option maxHeartbeats 4000000 in
theorem rchain_any (w : World) (rb : Nat) (g : Gr) (aa : Option Addr) (ac B : Nat) (M : List Mb) (h : StR w rb g aa ac B M) (hok : OkM M) (u : ByteArray) :
    Calls Try.prog 19 #[pt rb, .string u] w (NmP w M (chain M (placeL M u.toList))) := by
  have hN := hok.few
  have hcl := chain_len M (placeL M u.toList)
  have HS := Lib.hid h
  have HOK := Lib.hid hok
  clear h hok
  obtain ⟨ii, hii0, hii1, hii2, hii3⟩ := info_parts info_st
  have HII0 := Lib.hid hii0
  have HII1 := Lib.hid hii1
  have HII2 := Lib.hid hii2
  have HII3 := Lib.hid hii3
  clear hii0 hii1 hii2 hii3
  have V0 := Lib.hid (own_emp0 w 9 1 (Nat.le_refl _))
  have HB0 := Lib.hid ((Below.refl w.heap.size w).alloc (Nat.le_refl _) (.cells #[] 9))
  obtain ⟨CH, hCH⟩ : ∃ c, c = chain M (placeL M u.toList) := ⟨_, rfl⟩
  rw [← hCH] at hcl ⊢
  have HCH := Lib.hid hCH
  clear hCH
  go_enter Try.func19, Try.ntmps19
  go_wp2_with fail
  go_loopw [1, 5] (fun s v wr => ∃ (t : ByteArray) (pre : List Nat), s = .string t ∧ pre.length ≤ CH.length ∧ slN v = pre.length ∧ Hid (pre ++ chain M (placeL M t.toList) = CH) ∧ Hid (wr.ownsRow w.heap.size 9 1 v pre.length (nmC M pre)) ∧ Hid (Below w.heap.size w wr)) (fun _ v _ => CH.length - slN v)
  case atStart => exact ⟨u, [], rfl, Nat.zero_le _, rfl, Lib.hid (by rw [List.nil_append]; exact HCH.out.symm), V0, HB0⟩
  case round =>
    clear V0 HB0
    obtain ⟨t, pre, rfl, hpl, hsl, HP, HV, HW⟩ := hrel
    have HSr := Lib.hid (HS.out.below HW.out)
    have CP := Lib.hid (rplace_any wr rb g aa ac B M HSr.out HOK.out t)
    obtain ⟨p1, p2⟩ := place_range (M := M) t.toList
    obtain ⟨va, vc, hv⟩ := own_slice HV.out
    subst hv
    by_cases hp : placeL M t.toList < 0
    · have hp1 : placeL M t.toList = -1 := by omega
      rw [hp1] at CP HP
      have HE : Hid (pre = CH) := Lib.hid (by have h := HP.out; rw [chain_nil HOK.out, List.append_nil] at h; exact h)
      clear hp hp1 p1 p2
      go_wp2_with fail
      refine CP.out.mono ?_
      rintro e w' ⟨rfl, hww⟩
      subst hww
      go_wp2_with fail
      go_ret
      exact ⟨_, rfl, by rw [← HE.out]; exact HV.out, HW.out⟩
    · obtain ⟨k, hk⟩ : ∃ k : Nat, placeL M t.toList = (k : Int) := ⟨(placeL M t.toList).toNat, by omega⟩
      have hpn := place_name (M := M) (u := t.toList) (by omega)
      rw [hk, Int.toNat_natCast] at hpn
      obtain ⟨hkl, hnm⟩ := hpn
      have hnm := same_bytes hnm
      rw [hk] at CP HP
      have HP2 : Hid ((pre ++ [k]) ++ chain M M[k]!.sub = CH) := Lib.hid (by have h := HP.out; rw [chain_cons HOK.out hkl] at h; rw [← h]; simp)
      have hlen : pre.length < CH.length := by rw [← HP2.out]; simp
      have HNC : Hid (nmC M (pre ++ [k]) = nmC M pre ++ [.string t]) := Lib.hid (by rw [nmC_snoc, hnm])
      have hzw := HW.out.size
      have hi0 : (0 : Int) ≤ (k : Int) := Int.natCast_nonneg _
      have hi1 : (k : Int) < (M.length : Int) := by omega
      have HPK := Lib.hid hk
      clear hp p1 p2 hk hnm HP
      generalize hnk : nmC M pre = nk at *
      clear hnk
      go_wp2_with fail
      refine CP.out.mono ?_
      rintro e w' ⟨rfl, hww⟩
      subst hww
      go_wp2_with (at_builtin; refine wpList_append_own_at _ rfl (.tmp 11) (.tmp 13) 43 rfl w.heap.size 9 ii _ 1 16 Try.underlying43 HII0.out HII1.out HII2.out HII3.out rfl (by omega) _ _ _ rfl (HV.out.alloc _) ⟨wr.heap.size, 0, none⟩ 1 1 [.string t] rfl rfl (fun j u hj => by rw [Addr.add_lit, Nat.zero_add]; exact cell_blk (heap_new _ _) (by simpa using hj)) (by intro u hu; simp at hu; subst hu; rfl) (by unfold maxLen; omega) (by omega) (by rw [World.size_alloc]; omega) ?_; intro v' w1 hown' hgrow _ _; obtain ⟨pa, pc, rfl⟩ := own_slice hown'; have HG := Lib.hid hgrow; have HO := Lib.hid hown'; clear hown' hgrow)
      have HWN := Lib.hid ((HW.out.alloc hzw (.cells #[.string t] 9)).grown HG.out (by rw [World.size_alloc]; omega) (fun q hq => (HV.out.lt q hq).1))
      have HSN := Lib.hid (HS.out.below (below_draws HWN.out 1))
      have CP1 := Lib.hid ((rplace_any w1.drew rb g aa ac B M HSN.out HOK.out t).mono (fun e w' (h : e = .returned (.int .i64 (placeL M t.toList)) ∧ w1.drew = w') => show e = .returned (.int .i64 (k : Int)) ∧ w' = w1.drew from ⟨by rw [← HPK.out]; exact h.1, h.2.symm⟩))
      have c0 := HSN.out.c0
      have hl := HSN.out.lt
      obtain ⟨b, off, ra, rc, sub, hA, hb, n0, n1, n2, hrow, hsz, hsub⟩ := HSN.out.at_ hkl
      rw [hA] at c0
      rw [hsub] at HP2
      have c0' : w1.cell? ⟨rb, 0, none⟩ = some (.slice (some ⟨b, off, none⟩) M.length g.uc) := c0
      have n2' : w1.cell? ⟨b, off + k * 3 + 2, none⟩ = some (.string sub) := n2
      have hl' : rb < w1.heap.size := hl
      have hb' : b < w1.heap.size := hb
      clear hA n0 n1 hrow hsub
      refine wp_region_still_tail 10 mixed (by kernel_rfl) ?_
      simp only [List.take_succ_cons, List.take_zero, List.drop_succ_cons, List.drop_zero]
      iterate 6 still_step
      still_call CP1.out
      iterate 3 still_step
      refine wpStill_nil ?_
      go_wp2_with fail
      go_roundw
      case rel => exact ⟨sub, pre ++ [k], rfl, by rw [List.length_append, List.length_singleton]; omega, by rw [List.length_append, List.length_singleton]; rfl, HP2, by rw [HNC.out, List.length_append, List.length_singleton]; exact Lib.hid HO.out.drew, Lib.hid (below_draws HWN.out 1)⟩
      case measure => simp [slN]; omega
end Go.Proofs.Ytahhhhacoigpmaa.SF
