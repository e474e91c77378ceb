/-
  Contract of the document's own Name of layer 1: is a text a word? Contract of the document's own name of layer 2. Contract of the document's own kinds: the class of each token, and a full stop. Contract of the document's own fits, for two words.
-/
import Derived.Test.YtjgcjnkeeiaafaaGreatDoorTccg
import Derived.Test.YtjgcjnkeeiaafaaGreatDoorTcce
import Derived.StillTailTactics
namespace Go.Proofs.YtjgcjnkeeiaafaaGreatDoor
open Go.RowKit
theorem name_lex {x : List UInt8} (h : nameL x = true) : lexL x = ([⟨1, x, 0, 0⟩], 0, 0) := by
  obtain ⟨c, r, rfl, h1, h2, h3⟩ := nameL_cons h
  have hi : innB c = true := by simp [innB, h2]
  have hr : runL (c :: r) = c :: r := by
    have := runL_app (c :: r) [] (by simp [hi, h3]) (fun _ _ e => by cases e)
    simpa using this
  have ht := take_let (c := c) (r := r) 0 h2
  rw [hr, if_pos (by simp only [List.length_cons]; omega)] at ht
  show lexS (c :: r) 0 0 [] = _
  rw [lexS_tok (inn_notgap hi) ht (by simp)]
  simp [lexS]
theorem lex_name {x : List UInt8} {t : Tok} (h : lexL x = ([t], 0, 0)) (hk : t.kind = 1) (hx : t.text = x) : nameL x = true := by
  rcases lexS_own _ _ _ _ _ h (by simp) t (by simp) with ⟨h1, _⟩ | ⟨_, h2⟩
  · omega
  · rw [hx] at h2
    unfold wordL at h2
    by_cases hn : nameL x = true
    · exact hn
    · rw [if_neg hn] at h2
      cases hv : numL x with
      | none => rw [hv] at h2; simp at h2
      | some v => rw [hv] at h2; injection h2 with h2; rw [← h2] at hk; simp at hk
set_option maxHeartbeats 1000000 in
theorem refName_any (s : ByteArray) (w : World) (hs : s.size ≤ 140737488351232) : Calls Tryz.prog 115 #[.string s] w fun e w' => e = .returned (.bool (nameL s.data.toList)) ∧ Below w.heap.size w w' := by
  have C := fun W => Lib.hid (ref_any s W (by omega))
  rcases lexS_ends s.data.toList 0 0 [] with ⟨l, hl⟩ | ⟨k, hl⟩ | ⟨k, hl⟩
  all_goals replace hl : lexL s.data.toList = _ := hl
  · by_cases h1 : l.length = 1
    · obtain ⟨t, rfl⟩ : ∃ t, l = [t] := List.length_eq_one_iff.1 h1
      have hb : nameL s.data.toList = (decide (t.kind = 1) && decide (t.text = s.data.toList)) := by
        rw [Bool.eq_iff_iff]
        constructor
        · intro hn
          have := name_lex hn
          rw [hl] at this
          simp only [Prod.mk.injEq, List.cons.injEq, and_true] at this
          rw [this]; simp
        · intro hb
          simp only [Bool.and_eq_true, decide_eq_true_eq] at hb
          exact lex_name hl hb.1 hb.2
      have HB := Lib.hid hb
      rw [hl] at C
      clear hl hb h1
      go_enter Tryz.func115, Tryz.ntmps115
      go_wp2_with fail
      refine (C _).out.mono ?_
      rintro e w1 ⟨v, rfl, hown, hb1⟩
      simp only [List.length_cons, List.length_nil, Nat.zero_add] at hown
      obtain ⟨va, vc, rfl⟩ := own_slice hown
      have ht : Toks w1 va 1 [t] := Toks.of_own hown
      obtain ⟨b, off, t', x, rfl, hbl, htk, hx, c0, c1, c2, c3⟩ := ht.at_ (k := 0) (by omega)
      simp only [List.getElem?_cons_zero, Option.some.injEq] at htk
      subst htk
      simp only [Nat.zero_mul, Nat.add_zero] at c0 c1
      have hx' : x.toList = t.text := by rw [hx, Lib.toList_data]
      by_cases hk1 : t.kind = 1
      · have hk1' : ((t.kind : Int) == 1) = true := by rw [beq_iff_eq]; omega
        by_cases hts : t.text = s.data.toList
        · have e1 : (x.toList == s.toList) = true := by rw [beq_iff_eq, hx', hts, Lib.toList_data]
          have HF : Hid (nameL s.data.toList = true) := Lib.hid (by rw [HB.out, decide_eq_true hk1, decide_eq_true hts]; rfl)
          clear hx hx' hown ht hk1 hts HB c2 c3
          go_wp2_with fail
          go_ret
          exact ⟨ret_bool HF.out.symm, hb1⟩
        · have e1 : (x.toList == s.toList) = false := by rw [beq_eq_false_iff_ne, hx', Lib.toList_data]; exact hts
          have HF : Hid (nameL s.data.toList = false) := Lib.hid (by rw [HB.out, decide_eq_false hts, Bool.and_false])
          clear hx hx' hown ht hk1 hts HB c2 c3
          go_wp2_with fail
          go_ret
          exact ⟨ret_bool HF.out.symm, hb1⟩
      · have hk1' : ((t.kind : Int) == 1) = false := by rw [beq_eq_false_iff_ne]; omega
        have HF : Hid (nameL s.data.toList = false) := Lib.hid (by rw [HB.out, decide_eq_false hk1, Bool.false_and])
        clear hx hx' hown ht hk1 HB c1 c2 c3
        go_wp2_with fail
        go_ret
        exact ⟨ret_bool HF.out.symm, hb1⟩
    · have HF : Hid (nameL s.data.toList = false) := Lib.hid (by
        cases hn : nameL s.data.toList with
        | false => rfl
        | true =>
          have := name_lex hn
          rw [hl] at this
          simp only [Prod.mk.injEq, and_true] at this
          rw [this] at h1; simp at h1)
      have h1' : ((l.length : Int) == 1) = false := by rw [beq_eq_false_iff_ne]; omega
      rw [hl] at C
      clear hl h1
      go_enter Tryz.func115, Tryz.ntmps115
      go_wp2_with fail
      refine (C _).out.mono ?_
      rintro e w1 ⟨v, rfl, hown, hb1⟩
      simp only at hown
      obtain ⟨va, vc, rfl⟩ := own_slice hown
      clear hown
      go_wp2_with fail
      go_ret
      exact ⟨ret_bool HF.out.symm, hb1⟩
  · have HF : Hid (nameL s.data.toList = false) := Lib.hid (by
      cases hn : nameL s.data.toList with
      | false => rfl
      | true =>
        have := name_lex hn
        rw [hl] at this
        simp at this)
    rw [hl] at C
    clear hl
    go_enter Tryz.func115, Tryz.ntmps115
    go_wp2_with fail
    refine (C _).out.mono ?_
    rintro e w1 ⟨v, rfl, hown, hb1⟩
    clear hown
    go_wp2_with fail
    go_ret
    exact ⟨ret_bool HF.out.symm, hb1⟩
  · have HF : Hid (nameL s.data.toList = false) := Lib.hid (by
      cases hn : nameL s.data.toList with
      | false => rfl
      | true =>
        have := name_lex hn
        rw [hl] at this
        simp at this)
    rw [hl] at C
    clear hl
    go_enter Tryz.func115, Tryz.ntmps115
    go_wp2_with fail
    refine (C _).out.mono ?_
    rintro e w1 ⟨v, rfl, hown, hb1⟩
    clear hown
    go_wp2_with fail
    go_ret
    exact ⟨ret_bool HF.out.symm, hb1⟩
end Go.Proofs.YtjgcjnkeeiaafaaGreatDoor

namespace Go.Proofs.YtjgcjnkeeiaafaaGreatDoor
open Go.RowKit Go.Shelf
/-- The words that are no names, as texts. -/
def kwl : List ByteArray := kws.map fun k => ⟨k.toArray⟩
theorem kwl_list : kwl.map ByteArray.toList = kws := by
  unfold kwl
  rw [List.map_map]
  refine List.map_id'' (fun k => ?_) _
  show ByteArray.toList ⟨k.toArray⟩ = k
  rw [Lib.toList_data]
theorem kwl_mem {k : Nat} (h : k < 16) : kwl[k]!.toList ∈ kws := by
  rw [← kwl_list]
  exact List.mem_map.2 ⟨_, mem_at (l := kwl) h, rfl⟩
theorem kw_hit {s : ByteArray} {k : Nat} (h : k < 16) (hq : (s.toList == kwl[k]!.toList) = true) : nameK s.toList = false :=
  nameK_kw (by rw [eq_of_beq hq, List.contains_iff_mem]; exact kwl_mem h)
theorem kw_miss {s : ByteArray} (h : ∀ j, j < 16 → (s.toList == kwl[j]!.toList) = false) : nameK s.toList = nameL s.data.toList := by
  rw [← Lib.toList_data]
  refine nameK_no ?_
  cases hc : kws.contains s.toList with
  | false => rfl
  | true =>
    rw [List.contains_iff_mem, ← kwl_list] at hc
    obtain ⟨x, hx, hxs⟩ := List.mem_map.1 hc
    obtain ⟨j, hj, rfl⟩ := List.getElem_of_mem hx
    have := h j hj
    rw [getElem!_pos kwl j hj, hxs, beq_self_eq_true] at this
    cases this
theorem kw_more {s : ByteArray} {k : Nat} (h : ∀ j, j < k → (s.toList == kwl[j]!.toList) = false) (hk : (s.toList == kwl[k]!.toList) = false) : ∀ j, j < k + 1 → (s.toList == kwl[j]!.toList) = false := by
  intro j hj
  rcases Nat.lt_or_ge j k with h1 | h1
  · exact h j h1
  · obtain rfl : j = k := by omega
    exact hk
theorem kw_row (w : World) (T : TypeId) : Row (w.alloc (.cells (kwl.map Value.string).toArray T)) (some ⟨w.heap.size, 0, none⟩) (kwl.map Value.string) :=
  fun _ => ⟨_, 0, rfl, by simp, fun j u hu => by
    rw [Nat.zero_add]
    exact cell_blk (heap_new _ _) (by rw [List.getElem?_toArray]; exact hu)⟩
set_option maxRecDepth 100000 in
set_option maxHeartbeats 2000000 in
theorem rname_any (s : ByteArray) (w : World) (hs : s.size ≤ 140737488351232) : Calls Tryz.prog 87 #[.string s] w fun e w' => e = .returned (.bool (nameK s.toList)) ∧ Below w.heap.size w w' := by
  have C := fun W => Lib.hid (refName_any s W hs)
  go_enter Tryz.func87, Tryz.ntmps87
  go_wp2_with fail
  go_loopw [4] (fun i wr => ∃ k : Nat, k ≤ 16 ∧ i = .int .i64 k ∧ Hid (∀ j, j < k → (s.toList == kwl[j]!.toList) = false) ∧ Row wr (some ⟨w.heap.size, 0, none⟩) (kwl.map Value.string) ∧ Below w.heap.size w wr) (fun i _ => 16 - (intOf i).toNat)
  case atStart => exact ⟨0, Nat.zero_le _, rfl, Lib.hid (fun j hj => absurd hj (Nat.not_lt_zero _)), kw_row w _, (Below.refl _ _).alloc (Nat.le_refl _) _⟩
  case round =>
    obtain ⟨k, hk, rfl, HR, hr, hB⟩ := hrel
    by_cases hlt : k < 16
    · obtain ⟨b, off, hA, hb, hc⟩ := hr.str_at (l := kwl) (i := k) hlt
      simp only [Option.some.injEq, Addr.mk.injEq, and_true] at hA
      obtain ⟨rfl, rfl⟩ := hA
      rw [Nat.zero_add] at hc
      have hk0 : (0 : Int) ≤ (k : Int) := Int.natCast_nonneg _
      have hk1 : (k : Int) < (16 : Int) := by omega
      cases hq : (s.toList == kwl[k]!.toList) with
      | true =>
        have HF := Lib.hid (kw_hit hlt hq)
        have HRow := Lib.hid hr
        clear HR hr
        generalize kwl[k]! = x at *
        go_wp2_with fail
        go_ret
        exact ⟨ret_bool HF.out.symm, hB⟩
      | false =>
        have HR' := Lib.hid (kw_more HR.out hq)
        have HRow := Lib.hid hr
        clear HR hr
        generalize kwl[k]! = x at *
        go_wp2_with fail
        go_roundw
        case rel => exact ⟨k + 1, hlt, by go_num, HR', HRow.out, hB⟩
        case measure => simp [intOf]; omega
    · obtain rfl : k = 16 := by omega
      have HF := Lib.hid (kw_miss HR.out)
      clear HR hr
      go_wp2_with (go_at_call 115; refine (C _).out.mono ?_; rintro e w' ⟨rfl, hb'⟩)
      go_ret
      exact ⟨ret_bool HF.out.symm, hB.trans (hb'.mono hB.size)⟩
end Go.Proofs.YtjgcjnkeeiaafaaGreatDoor

namespace Go.Proofs.YtjgcjnkeeiaafaaGreatDoor.P3.D
open Go.RowKit Go.Shelf Go.Proofs.YtjgcjnkeeiaafaaGreatDoor Go.Proofs.YtjgcjnkeeiaafaaGreatDoor.P3 Go.Proofs.YtjgcjnkeeiaafaaGreatDoor.P3.C Go.Proofs.YtjgcjnkeeiaafaaGreatDoor.P3.L Go.Proofs.YtjgcjnkeeiaafaaGreatDoor.Lx
/-- What a text is, of the first words. -/
def kwSel (s : List UInt8) (m : Nat) : List UInt8 := if (kws.take m).contains s then s else [110]
theorem sel_none (s : List UInt8) : kwSel s 0 = [110] := rfl
theorem kw_len : kws.length = 16 := rfl
theorem sel_hit {s : List UInt8} {m : Nat} (h : m < 16) (he : (s == kws[m]!) = true) : kwSel s (m + 1) = kws[m]! := by
  have e := eq_of_beq he
  unfold kwSel
  rw [List.take_succ_eq_append_getElem (by rw [kw_len]; exact h), ← getElem!_pos kws m (by rw [kw_len]; exact h), if_pos, e]
  rw [e]; simp
theorem sel_miss {s : List UInt8} {m : Nat} (h : m < 16) (he : (s == kws[m]!) = false) : kwSel s (m + 1) = kwSel s m := by
  unfold kwSel
  rw [List.take_succ_eq_append_getElem (by rw [kw_len]; exact h), ← getElem!_pos kws m (by rw [kw_len]; exact h)]
  have : ((kws.take m ++ [kws[m]!]).contains s) = (kws.take m).contains s := by
    have hne : ¬ s = kws[m]! := fun e => by rw [← e, beq_self_eq_true] at he; cases he
    generalize kws[m]! = y at hne
    simp [hne]
  rw [this]
theorem sel_all (s : List UInt8) : kwSel s 16 = if kws.contains s then s else [110] := by
  unfold kwSel
  rw [show kws.take 16 = kws from rfl]
theorem kwl_at (m : Nat) (h : m < 16) : kwl[m]!.toList = kws[m]! := by
  have e : kws[m]! = (kwl.map ByteArray.toList)[m]! := by rw [kwl_list]
  rw [e, getElem!_pos kwl m h, getElem!_pos _ m (by rw [List.length_map]; exact h), List.getElem_map]
  rfl
def clsL (T : List Tok) (k : Nat) : List Value := ((T.map bare).take k).map clV
theorem cls_succ {T : List Tok} {k : Nat} (h : k < T.length) : clsL T (k + 1) = clsL T k ++ [clV (bare T[k]!)] := by
  unfold clsL
  rw [List.take_succ_eq_append_getElem (by rw [List.length_map]; exact h), List.map_append, List.getElem_map, getElem!_pos T k h]
  rfl
def KnP (T : List Tok) (w : World) (e : Ending) (w' : World) : Prop :=
  ∃ v, e = .returned v ∧ w'.ownsRow w.heap.size 9 1 v (T.length + 1) ((T.map bare).map clV ++ [.string ⟨#[46]⟩]) ∧ Below w.heap.size w w'
theorem info_str : (Tryz.prog.info? 9).map (fun i => (i.zero, i.size, i.bytes)) = some (some (.string ⟨#[]⟩), 1, 16) := by kernel_rfl
set_option maxRecDepth 100000 in
set_option maxHeartbeats 4000000 in
theorem kinds_any (w : World) (A : Option Addr) (c : Nat) (T : List Tok) (hR : Row w A (rowC T)) (hTl : T.length ≤ 1000000) :
    Calls Tryz.prog 39 #[.slice A T.length c] w (KnP T w) := by
  obtain ⟨i0, hi0, hi1, hi2, hi3⟩ := info_parts info_str
  have HI0 := Lib.hid hi0
  have HI1 := Lib.hid hi1
  have HI2 := Lib.hid hi2
  have HI3 := Lib.hid hi3
  clear hi0 hi1 hi2 hi3
  have HR := Lib.hid hR
  clear hR
  obtain ⟨w1, hw1⟩ : ∃ w1, w1 = w.alloc (.cells (kwl.map Value.string).toArray 9) := ⟨_, rfl⟩
  have HK := Lib.hid (show Row w1 (some ⟨w.heap.size, 0, none⟩) (kwl.map Value.string) by rw [hw1]; exact kw_row w 9)
  have hz1 : w1.heap.size = w.heap.size + 1 := by rw [hw1, World.size_alloc]
  have HB1 := Lib.hid (show Below w.heap.size w w1 by rw [hw1]; exact (Below.refl _ _).alloc (Nat.le_refl _) _)
  have HV0 : Hid (((w.alloc (.cells (kwl.map Value.string).toArray 9)).alloc (.cells #[] 9)).ownsRow (w.heap.size + 1) 9 1 (.slice (some ⟨w.heap.size + 1, 0, none⟩) 0 0) 0 (clsL T 0)) := Lib.hid (by
    have h := World.ownsRow_made (base := w.heap.size + 1) (e := 9) (size := 1) (w.alloc (.cells (kwl.map Value.string).toArray 9)) #[] 0 (by rw [World.size_alloc]; exact Nat.le_refl _) (by unfold maxLen; omega) rfl
    rw [World.size_alloc] at h
    exact h)
  have HB0 : Hid (Below (w.heap.size + 1) w1 ((w.alloc (.cells (kwl.map Value.string).toArray 9)).alloc (.cells #[] 9))) := Lib.hid (by rw [hw1]; exact (Below.refl _ _).alloc (by rw [World.size_alloc]; exact Nat.le_refl _) _)
  clear hw1
  have HP : Hid (∀ e w', (∃ v, e = .returned v ∧ w'.ownsRow w.heap.size 9 1 v (T.length + 1) ((T.map bare).map clV ++ [.string ⟨#[46]⟩]) ∧ Below w.heap.size w w') → KnP T w e w') := Lib.hid (fun _ _ h => h)
  generalize KnP T w = KP at *
  go_enter Tryz.func39, Tryz.ntmps39
  go_wp2_with fail
  go_loopw [4, 5] (fun v i wr => ∃ k : Nat, k ≤ T.length ∧ i = .int .i64 k ∧ Hid (wr.ownsRow (w.heap.size + 1) 9 1 v k (clsL T k)) ∧ Hid (Below (w.heap.size + 1) w1 wr)) (fun _ i _ => T.length - (intOf i).toNat)
  case atStart => exact ⟨0, Nat.zero_le _, rfl, HV0, HB0⟩
  case round =>
    obtain ⟨k, hk, rfl, HV, HB⟩ := hrel
    obtain ⟨wo, rfl⟩ : ∃ wo, wo = wr := ⟨wr, rfl⟩
    have hB := HB.out.size
    obtain ⟨va, vc, rfl⟩ := B.own_slice HV.out
    have hw0 := Lib.hid (HB1.out.trans (HB.out.mono (by omega)))
    have hwz := hw0.out.size
    by_cases hlt : k < T.length
    · obtain ⟨tb, to_, rfl, htb, htc⟩ := tok_at HR.out hlt
      obtain ⟨q0, q1, _, _⟩ := htc k hlt
      have q0 := (hw0.out.cell (p := ⟨tb, _, none⟩) htb).trans q0
      have q1 := (hw0.out.cell (p := ⟨tb, _, none⟩) htb).trans q1
      have hk0 : (0 : Int) ≤ (k : Int) := Int.natCast_nonneg _
      have hk1 : (k : Int) < (T.length : Int) := by omega
      have HCS := Lib.hid (cls_succ hlt)
      have htl : tb < wo.heap.size := by omega
      clear htc htb
      generalize T[k]! = tk at *
      obtain ⟨tx, htx⟩ : ∃ tx : ByteArray, tx = ⟨tk.text.toArray⟩ := ⟨_, rfl⟩
      have HTX := Lib.hid (show tx.toList = tk.text by rw [htx, Lib.toList_data])
      rw [← htx] at q1
      clear htx
      have hKr := Lib.hid (Row.below HK.out (B := w.heap.size + 1) (by omega) HB.out)
      go_wp2_with fail
      go_loopw [6, 7] (fun v j wr => ∃ (m : Nat) (ks : ByteArray), m ≤ 16 ∧ j = .int .i64 m ∧ v = .string ks ∧ Hid (ks.toList = kwSel tx.toList m) ∧ Hid (Below wo.heap.size wo wr)) (fun _ j _ => 16 - (intOf j).toNat)
      case atStart => exact ⟨0, _, Nat.zero_le _, rfl, rfl, Lib.hid (by rw [sel_none, Lib.toList_data]), Lib.hid (Below.refl _ _)⟩
      case round =>
        obtain ⟨m, ks, hm, rfl, rfl, HS, HBi⟩ := hrel
        have hBi := HBi.out.size
        have q0' := (HBi.out.cell (p := ⟨tb, _, none⟩) htl).trans q0
        have q1' := (HBi.out.cell (p := ⟨tb, _, none⟩) htl).trans q1
        have htl' : tb < wr.heap.size := by omega
        by_cases hml : m < 16
        · obtain ⟨b, off, hA, hb, hc⟩ := (Row.below hKr.out (Nat.le_refl _) HBi.out).str_at (l := kwl) (i := m) hml
          simp only [Option.some.injEq, Addr.mk.injEq, and_true] at hA
          obtain ⟨rfl, rfl⟩ := hA
          rw [Nat.zero_add] at hc
          have hm0 : (0 : Int) ≤ (m : Int) := Int.natCast_nonneg _
          have hm1 : (m : Int) < (16 : Int) := by omega
          have HKA := Lib.hid (kwl_at m hml)
          have HBd := Lib.hid (B.below_draws HBi.out 1)
          cases hq : (tx.toList == kwl[m]!.toList) with
          | true =>
            have HS' : Hid (kwl[m]!.toList = kwSel tx.toList (m + 1)) := Lib.hid (by rw [sel_hit hml (by rw [← HKA.out]; exact hq)]; exact HKA.out)
            clear HKA
            generalize kwl[m]! = kx at *
            go_wp2_with fail
            go_still_tail 9, (by kernel_rfl)
            repeat still_step
            try refine wpStill_nil ?_
            change wpList _ _ _ _ _ wr.drew
            go_wp2_with fail
            go_roundw
            case rel => exact ⟨m + 1, kx, hml, by go_num, rfl, HS', HBd⟩
            case measure => simp [intOf]; omega
          | false =>
            have HS' : Hid (ks.toList = kwSel tx.toList (m + 1)) := Lib.hid (by rw [sel_miss hml (by rw [← HKA.out]; exact hq)]; exact HS.out)
            clear HKA
            generalize kwl[m]! = kx at *
            go_wp2_with fail
            go_still_tail 9, (by kernel_rfl)
            repeat still_step
            try refine wpStill_nil ?_
            change wpList _ _ _ _ _ wr.drew
            go_wp2_with fail
            go_roundw
            case rel => exact ⟨m + 1, ks, hml, by go_num, rfl, HS', HBd⟩
            case measure => simp [intOf]; omega
        · obtain rfl : m = 16 := by omega
          have HS2 := Lib.hid (HS.out.trans (sel_all tx.toList))
          have HV2 := Lib.hid (B.own_below HV.out HBi.out)
          have HB2 := Lib.hid (HB.out.trans (HBi.out.mono (by omega)))
          have hwr : w.heap.size + 1 ≤ wr.heap.size := by omega
          have q0' := (HBi.out.cell (p := ⟨tb, _, none⟩) htl).trans q0
          have htl' : tb < wr.heap.size := by omega
          clear q1 HS q0
          by_cases h2 : tk.kind = 2
          · have HC : Hid (clV (bare tk) = .string ⟨#[100]⟩) := Lib.hid (by unfold clV cls; rw [if_pos (show (bare tk).1 = 2 from h2)])
            have b0 : ((tk.kind : Int) == 2) = true := by rw [h2]; rfl
            have b1 : ((tk.kind : Int) != 1) = true := by rw [h2]; rfl
            have b2 : ((tk.kind : Int) != 2) = false := by rw [h2]; rfl
            clear h2
            generalize tk.kind = tkk at *
            go_wp2_with (at_builtin; refine wpList_append_own _ rfl (.tmp 56) (.tmp 58) 72 rfl (w.heap.size + 1) 9 i0 _ 1 16 Tryz.underlying72 HI0.out HI1.out HI2.out HI3.out rfl (by omega) _ _ _ rfl (HV2.out.alloc _) ⟨wr.heap.size, 0, none⟩ 1 1 [.string ⟨#[100]⟩] rfl rfl ?c1 ?c2 ?c3 ?c4 ?c5 ?_)
            case c1 =>
              intro j u hj
              match j, hj with
              | 0, hj => simp at hj; subst hj; simp [Addr.add]
            case c2 => intro u hu; simp at hu; subst hu; rfl
            case c3 => unfold maxLen; omega
            case c4 => omega
            case c5 => rw [World.size_alloc]; omega
            intro v' w4 hown' hgrow _
            have HB4 : Hid (Below (w.heap.size + 1) w1 w4) := Lib.hid ((HB2.out.alloc (by omega) _).grown hgrow (by rw [World.size_alloc]; omega) (fun j hj => (HV2.out.lt j hj).1))
            have HV4 : Hid (w4.ownsRow (w.heap.size + 1) 9 1 v' (k + 1) (clsL T (k + 1))) := Lib.hid (by rw [HCS.out, HC.out]; exact hown')
            clear hown' hgrow
            go_wp2_with fail
            go_roundw
            case rel => exact ⟨k + 1, hlt, by go_num, HV4, HB4⟩
            case measure => simp [intOf]; omega
          by_cases h1 : tk.kind = 1
          · have HC : Hid (clV (bare tk) = .string ks) := Lib.hid (by
              have e1 : cls (bare tk) = ks.data.toList := by
                rw [← Lib.toList_data, HS2.out, HTX.out]
                unfold cls
                rw [if_neg (show ¬ (bare tk).1 = 2 from h2), if_pos (show (bare tk).1 = 1 from h1)]
                rfl
              rw [of_list e1.symm]
              rfl)
            have b0 : ((tk.kind : Int) == 2) = false := by rw [h1]; rfl
            have b1 : ((tk.kind : Int) != 1) = false := by rw [h1]; rfl
            clear h1 h2
            generalize tk.kind = tkk at *
            go_wp2_with (at_builtin; refine wpList_append_own _ rfl (.tmp 56) (.tmp 58) 72 rfl (w.heap.size + 1) 9 i0 _ 1 16 Tryz.underlying72 HI0.out HI1.out HI2.out HI3.out rfl (by omega) _ _ _ rfl (HV2.out.alloc _) ⟨wr.heap.size, 0, none⟩ 1 1 [.string ks] rfl rfl ?c1 ?c2 ?c3 ?c4 ?c5 ?_)
            case c1 =>
              intro j u hj
              match j, hj with
              | 0, hj => simp at hj; subst hj; simp [Addr.add]
            case c2 => intro u hu; simp at hu; subst hu; rfl
            case c3 => unfold maxLen; omega
            case c4 => omega
            case c5 => rw [World.size_alloc]; omega
            intro v' w4 hown' hgrow _
            have HB4 : Hid (Below (w.heap.size + 1) w1 w4) := Lib.hid ((HB2.out.alloc (by omega) _).grown hgrow (by rw [World.size_alloc]; omega) (fun j hj => (HV2.out.lt j hj).1))
            have HV4 : Hid (w4.ownsRow (w.heap.size + 1) 9 1 v' (k + 1) (clsL T (k + 1))) := Lib.hid (by rw [HCS.out, HC.out]; exact hown')
            clear hown' hgrow
            go_wp2_with fail
            go_roundw
            case rel => exact ⟨k + 1, hlt, by go_num, HV4, HB4⟩
            case measure => simp [intOf]; omega
          · have HC : Hid (clV (bare tk) = .string ⟨#[59]⟩) := Lib.hid (by unfold clV cls; rw [if_neg (show ¬ (bare tk).1 = 2 from h2), if_neg (show ¬ (bare tk).1 = 1 from h1)])
            have b0 : ((tk.kind : Int) == 2) = false := by rw [beq_eq_false_iff_ne]; omega
            have b1 : ((tk.kind : Int) != 1) = true := by rw [bne_iff_ne]; omega
            have b2 : ((tk.kind : Int) != 2) = true := by rw [bne_iff_ne]; omega
            clear h1 h2
            generalize tk.kind = tkk at *
            go_wp2_with (at_builtin; refine wpList_append_own _ rfl (.tmp 56) (.tmp 58) 72 rfl (w.heap.size + 1) 9 i0 _ 1 16 Tryz.underlying72 HI0.out HI1.out HI2.out HI3.out rfl (by omega) _ _ _ rfl (HV2.out.alloc _) ⟨wr.heap.size, 0, none⟩ 1 1 [.string ⟨#[59]⟩] rfl rfl ?c1 ?c2 ?c3 ?c4 ?c5 ?_)
            case c1 =>
              intro j u hj
              match j, hj with
              | 0, hj => simp at hj; subst hj; simp [Addr.add]
            case c2 => intro u hu; simp at hu; subst hu; rfl
            case c3 => unfold maxLen; omega
            case c4 => omega
            case c5 => rw [World.size_alloc]; omega
            intro v' w4 hown' hgrow _
            have HB4 : Hid (Below (w.heap.size + 1) w1 w4) := Lib.hid ((HB2.out.alloc (by omega) _).grown hgrow (by rw [World.size_alloc]; omega) (fun j hj => (HV2.out.lt j hj).1))
            have HV4 : Hid (w4.ownsRow (w.heap.size + 1) 9 1 v' (k + 1) (clsL T (k + 1))) := Lib.hid (by rw [HCS.out, HC.out]; exact hown')
            clear hown' hgrow
            go_wp2_with fail
            go_roundw
            case rel => exact ⟨k + 1, hlt, by go_num, HV4, HB4⟩
            case measure => simp [intOf]; omega
    · obtain rfl : k = T.length := by omega
      have HCA : Hid (clsL T T.length = (T.map bare).map clV) := Lib.hid (by unfold clsL; rw [List.take_of_length_le (by rw [List.length_map]; exact Nat.le_refl _)])
      go_wp2_with (at_builtin; refine wpList_append_own _ rfl (.tmp 60) (.tmp 61) 72 rfl (w.heap.size + 1) 9 i0 _ 1 16 Tryz.underlying72 HI0.out HI1.out HI2.out HI3.out rfl (by omega) _ _ _ rfl (HV.out.alloc _) ⟨wo.heap.size, 0, none⟩ 1 1 [.string ⟨#[46]⟩] rfl rfl ?c1 ?c2 ?c3 ?c4 ?c5 ?_)
      case c1 =>
        intro j u hj
        match j, hj with
        | 0, hj => simp at hj; subst hj; simp [Addr.add]
      case c2 => intro u hu; simp at hu; subst hu; rfl
      case c3 => unfold maxLen; omega
      case c4 => omega
      case c5 => rw [World.size_alloc]; omega
      intro v' w4 hown' hgrow _
      rw [HCA.out] at hown'
      have HB4 : Hid (Below (w.heap.size + 1) w1 w4) := Lib.hid ((HB.out.alloc (by omega) _).grown hgrow (by rw [World.size_alloc]; omega) (fun j hj => (HV.out.lt j hj).1))
      have HF := Lib.hid (HP.out (.returned v') w4 ⟨v', rfl, B.own_base hown' (by omega), HB1.out.trans (HB4.out.mono (by omega))⟩)
      clear hown' hgrow
      go_wp2_with fail
      first | exact HF.out | (go_ret; exact HF.out)
end Go.Proofs.YtjgcjnkeeiaafaaGreatDoor.P3.D

namespace Go.Proofs.YtjgcjnkeeiaafaaGreatDoor.P3.D
open Go.RowKit Go.Shelf Go.Proofs.YtjgcjnkeeiaafaaGreatDoor Go.Proofs.YtjgcjnkeeiaafaaGreatDoor.P3 Go.Proofs.YtjgcjnkeeiaafaaGreatDoor.P3.C Go.Proofs.YtjgcjnkeeiaafaaGreatDoor.P3.L Go.Proofs.YtjgcjnkeeiaafaaGreatDoor.Lx
/-- How many of two words stand from a place on. -/
def fitN (L : List B3) (x y : Key) (i : Nat) : Nat := if clsAt L i = x then (if clsAt L (i + 1) = y then 2 else 1) else 0
theorem two_at {W : World} {A : Option Addr} {x y : ByteArray} (h : Row W A [.string x, .string y]) : ∃ b o, A = some ⟨b, o, none⟩ ∧ b < W.heap.size ∧ W.cell? ⟨b, o + 0, none⟩ = some (.string x) ∧ W.cell? ⟨b, o + 1, none⟩ = some (.string y) := by
  obtain ⟨b, o, h1, h2, h3⟩ := h (by simp)
  exact ⟨b, o, h1, h2, h3 0 _ rfl, h3 1 _ rfl⟩
set_option maxRecDepth 100000 in
set_option maxHeartbeats 4000000 in
theorem fits_any (w : World) (KA : Option Addr) (kc : Nat) (L : List B3) (i : Nat) (WA : Option Addr) (wc : Nat) (x y : ByteArray) (hK : KR w KA L) (hW : Row w WA [.string x, .string y]) (hi : i ≤ L.length) (hx : x.toList ≠ [46]) (hl : L.length ≤ 1000000) :
    Calls Tryz.prog 86 #[.slice KA (L.length + 1) kc, .int .i64 (i : Int), .slice WA 2 wc] w fun e w' => e = .returned (.int .i64 (fitN L x.toList y.toList i : Int)) ∧ Below w.heap.size w w' := by
  obtain ⟨b, o, rfl, hb, hc⟩ := hK.at_
  obtain ⟨b2, o2, rfl, hb2, v0, v1⟩ := two_at hW
  have hI : (i : Int) ≤ 1000000 := by omega
  have h0 : (0 : Int) ≤ (i : Int) := Int.natCast_nonneg _
  have HI := Lib.hid hi
  have HX := Lib.hid hx
  have HC := Lib.hid hc
  clear hc hK hW hi hx
  go_enter Tryz.func86, Tryz.ntmps86
  go_wp2_with fail
  go_loopw [7] (fun j wr => ∃ k : Nat, k ≤ 2 ∧ j = .int .i64 k ∧ Hid ((0 < k → clsAt L i = x.toList) ∧ (1 < k → clsAt L (i + 1) = y.toList)) ∧ Hid (Below w.heap.size w wr)) (fun j _ => 2 - (intOf j).toNat)
  case atStart => exact ⟨0, Nat.zero_le _, rfl, Lib.hid ⟨fun h => absurd h (by decide), fun h => absurd h (by decide)⟩, Lib.hid (Below.refl _ _)⟩
  case round =>
    obtain ⟨k, hk, rfl, HR, HB⟩ := hrel
    have hB := HB.out.size
    have HBd := Lib.hid (B.below_draws HB.out 1)
    have hbw : b < wr.heap.size := by omega
    have hbw2 : b2 < wr.heap.size := by omega
    rcases (show k = 0 ∨ k = 1 ∨ k = 2 by omega) with rfl | rfl | rfl
    · obtain ⟨s, hs, he⟩ := HC.out i HI.out
      have q0 := (HB.out.cell (p := ⟨b, _, none⟩) hb).trans hs
      have q1 := (HB.out.cell (p := ⟨b2, _, none⟩) hb2).trans v0
      rw [Nat.add_zero] at q1
      have hlt : ((L.length : Int) + 1 ≤ (i : Int)) = False := eq_false (by have := HI.out; omega)
      have hlt1 : (i : Int) < (L.length : Int) + 1 := by have := HI.out; omega
      have hwr : IntKind.i64.wrap (i : Int) = (i : Int) := IntWalk.i64_in _ (by omega)
      clear v0 v1 hs
      cases hq : (s.toList == x.toList) with
      | true =>
        have HR' : Hid ((0 < 0 + 1 → clsAt L i = x.toList) ∧ (1 < 0 + 1 → clsAt L (i + 1) = y.toList)) := Lib.hid ⟨fun _ => he.symm.trans (eq_of_beq hq), fun h => absurd h (by decide)⟩
        clear he
        go_wp2_with fail
        go_still_tail 18, (by kernel_rfl)
        repeat still_step
        try refine wpStill_nil ?_
        change wpList _ _ _ _ _ wr.drew
        go_wp2_with fail
        go_roundw
        case rel => exact ⟨0 + 1, by omega, by go_num, HR', HBd⟩
        case measure => simp [intOf]
      | false =>
        have HF : Hid (fitN L x.toList y.toList i = 0) := Lib.hid (by unfold fitN; rw [if_neg (fun h => by rw [he, h, beq_self_eq_true] at hq; cases hq)])
        clear he
        go_wp2_with fail
        go_still_tail 18, (by kernel_rfl)
        repeat still_step
        try refine wpStill_nil ?_
        change wpList _ _ _ _ _ wr.drew
        go_wp2_with fail
        go_ret
        exact ⟨by rw [HF.out]; rfl, HBd.out⟩
    · have h1 := HR.out.1 (by decide)
      have hil := at_lt (l := L) (i := i) (by rw [h1]; exact HX.out)
      obtain ⟨s, hs, he⟩ := HC.out (i + 1) hil
      have q0 := (HB.out.cell (p := ⟨b, _, none⟩) hb).trans hs
      have q1 := (HB.out.cell (p := ⟨b2, _, none⟩) hb2).trans v1
      have hlt : ((L.length : Int) + 1 ≤ (i : Int) + 1) = False := eq_false (by omega)
      have hlt1 : (i : Int) + 1 < (L.length : Int) + 1 := by omega
      have H1 := Lib.hid h1
      have hwr : IntKind.i64.wrap ((i : Int) + 1) = (i : Int) + 1 := IntWalk.i64_in _ (by omega)
      have hlt2 : (i : Int) < (L.length : Int) := by omega
      have hge : (0 : Int) ≤ (i : Int) + 1 := by omega
      have htn : ((i : Int) + 1).toNat = i + 1 := by omega
      clear v0 v1 hs h1
      cases hq : (s.toList == y.toList) with
      | true =>
        have HR' : Hid ((0 < 1 + 1 → clsAt L i = x.toList) ∧ (1 < 1 + 1 → clsAt L (i + 1) = y.toList)) := Lib.hid ⟨fun _ => H1.out, fun _ => he.symm.trans (eq_of_beq hq)⟩
        clear he
        go_wp2_with fail
        go_still_tail 18, (by kernel_rfl)
        repeat still_step
        try refine wpStill_nil ?_
        change wpList _ _ _ _ _ wr.drew
        go_wp2_with fail
        go_roundw
        case rel => exact ⟨1 + 1, by omega, by go_num, HR', HBd⟩
        case measure => simp [intOf]
      | false =>
        have HF : Hid (fitN L x.toList y.toList i = 1) := Lib.hid (by unfold fitN; rw [if_pos H1.out, if_neg (fun h => by rw [he, h, beq_self_eq_true] at hq; cases hq)])
        clear he
        go_wp2_with fail
        go_still_tail 18, (by kernel_rfl)
        repeat still_step
        try refine wpStill_nil ?_
        change wpList _ _ _ _ _ wr.drew
        go_wp2_with fail
        go_ret
        exact ⟨by rw [HF.out]; rfl, HBd.out⟩
    · have HF : Hid (fitN L x.toList y.toList i = 2) := Lib.hid (by unfold fitN; rw [if_pos (HR.out.1 (by decide)), if_pos (HR.out.2 (by decide))])
      go_wp2_with fail
      go_ret
      exact ⟨by rw [HF.out]; rfl, HB.out⟩
end Go.Proofs.YtjgcjnkeeiaafaaGreatDoor.P3.D
