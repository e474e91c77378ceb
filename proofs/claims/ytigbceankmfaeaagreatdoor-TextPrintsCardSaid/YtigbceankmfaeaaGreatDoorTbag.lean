/-
  Contracts of the reader's must, may, mayName, mayNumber, name, number, option, end.
-/
import Derived.Test.YtigbceankmfaeaaGreatDoorTbaf
import Derived.StillTailTactics
namespace Go.Proofs.YtigbceankmfaeaaGreatDoor.P3.C
open Go.RowKit Go.Shelf Go.Proofs.YtigbceankmfaeaaGreatDoor.B Go.Proofs.YtigbceankmfaeaaGreatDoor.Lx Go.Proofs.YtigbceankmfaeaaGreatDoor.P3
theorem takT_yes {T : List Tok} {x : Key} {s : RS} (h : seeB (T.map bare) x s = true) : takT (T.map bare) x s = T[s.1]!.text := by
  have hk := see_lt h
  unfold takT
  rw [if_pos h, List.getElem?_map, List.getElem?_eq_getElem hk, getElem!_pos T _ hk]; rfl
theorem takT_no {l : List B3} {x : Key} {s : RS} (h : seeB l x s = false) : takT l x s = [] := by unfold takT; rw [h]; rfl
theorem takN_yes {T : List Tok} {x : Key} {s : RS} (h : seeB (T.map bare) x s = true) : takN (T.map bare) x s = T[s.1]!.val := by
  have hk := see_lt h
  unfold takN
  rw [if_pos h, List.getElem?_map, List.getElem?_eq_getElem hk, getElem!_pos T _ hk]; rfl
theorem takN_no {l : List B3} {x : Key} {s : RS} (h : seeB l x s = false) : takN l x s = 0 := by unfold takN; rw [h]; rfl
theorem must_yes {l : List B3} {x : Key} {s : RS} (h : seeB l x s = true) : mustS l x s = (s.1 + 1, s.2) := by unfold mustS; rw [if_pos h]
theorem must_no {l : List B3} {x : Key} {s : RS} (h : seeB l x s = false) : mustS l x s = (s.1, true) := by unfold mustS; rw [h]; rfl
/-- What a reader's method that hands back v leaves. -/
def MP (W0 : World) (b : Nat) (A : Option Addr) (c : Nat) (T : List Tok) (v : Value) (s' : RS) (x0 x1 x2 x3 : Value) (W : World) (e : Ending) (w' : World) : Prop :=
  e = .returned v ∧ RD W0 b A c T s' x0 x1 x2 x3 w' ∧ W.grownBy w' (some b)
section
variable {W0 W : World} {b : Nat} {A : Option Addr} {c : Nat} {T : List Tok} {s : RS} {x0 x1 x2 x3 : Value}
set_option maxHeartbeats 1000000 in
theorem must_any (h : RD W0 b A c T s x0 x1 x2 x3 W) (q : Bool) : Calls Tryz.prog 111 #[.pointer (some ⟨b, 0, none⟩), .bool q] W (MP W0 b A c T (.tuple #[]) (s.1, s.2 || !q) x0 x1 x2 x3 W) := by
  obtain ⟨c0, c1, c2⟩ := h.c0
  have ll := h.lt
  have f2 := h.fz 2
  obtain ⟨k, z⟩ := s
  simp only at c1 c2
  cases z with
  | true =>
    have H := Lib.hid (h.bad true)
    have G := Lib.hid (grown_set W b 2 (.bool true))
    clear h
    go_enter Tryz.func111, Tryz.ntmps111
    go_wp2_with fail
    go_end0
    exact ⟨rfl, H.out, G.out⟩
  | false =>
    cases q with
    | true =>
      have H := Lib.hid (h.bad false)
      have G := Lib.hid (grown_set W b 2 (.bool false))
      clear h
      go_enter Tryz.func111, Tryz.ntmps111
      go_wp2_with fail
      go_end0
      exact ⟨rfl, H.out, G.out⟩
    | false =>
      have H := Lib.hid (h.bad true)
      have G := Lib.hid (grown_set W b 2 (.bool true))
      clear h
      go_enter Tryz.func111, Tryz.ntmps111
      go_wp2_with fail
      go_end0
      exact ⟨rfl, H.out, G.out⟩
set_option maxHeartbeats 1000000 in
theorem may1_any (W : World) (k : Nat) (t : ByteArray) (v a bw : Nat) (y : ByteArray) (hy : y.toList ∈ kws) (h : W.heap[bw]? = some (.cells #[.string y] 9 (0, 0))) :
    Calls Tryz.prog 108 (#[tkV k t v a] ++ #[.pointer (some ⟨bw, 0, none⟩)]) W fun e w' => e = .returned (.bool (cls (k, t.toList, v) == y.toList)) ∧ Below W.heap.size W w' := by
  have hb : Below W.heap.size W (W.alloc (.cells #[.int .i64 (k : Int), .string t, .int .i64 (v : Int), .int .i64 (a : Int)] 73)) := (Below.refl _ _).alloc (Nat.le_refl _) _
  have cw : W.cell? ⟨bw, 0, none⟩ = some (.string y) := cell_blk h rfl
  have hlw := blk_lt h
  by_cases hk : k = 1
  · have h2 : ((k : Int) == 1) = true := by rw [beq_iff_eq]; omega
    by_cases ht : t.toList = y.toList
    · have HN : Hid ((cls (k, t.toList, v) == y.toList) = true) := Lib.hid (by rw [cls_word hy, decide_eq_true hk, ht]; simp)
      have ht2 : (t.toList == y.toList) = true := by rw [beq_iff_eq]; exact ht
      clear hk hy
      show Calls _ _ #[_, _] _ _
      go_enter Tryz.func108, Tryz.ntmps108
      go_wp2_with fail
      go_ret
      exact ⟨Go.Proofs.YtigbceankmfaeaaGreatDoor.B.ret_bool HN.out.symm, hb⟩
    · have ht2 : (t.toList == y.toList) = false := by rw [beq_eq_false_iff_ne]; exact ht
      have HN : Hid ((cls (k, t.toList, v) == y.toList) = false) := Lib.hid (by rw [cls_word hy, ht2, Bool.and_false])
      clear hk hy
      show Calls _ _ #[_, _] _ _
      go_enter Tryz.func108, Tryz.ntmps108
      go_wp2_with fail
      go_ret
      exact ⟨Go.Proofs.YtigbceankmfaeaaGreatDoor.B.ret_bool HN.out.symm, hb⟩
  · have h2 : ((k : Int) == 1) = false := by rw [beq_eq_false_iff_ne]; omega
    have HN : Hid ((cls (k, t.toList, v) == y.toList) = false) := Lib.hid (by rw [cls_word hy, decide_eq_false hk, Bool.false_and])
    clear hk hy
    show Calls _ _ #[_, _] _ _
    go_enter Tryz.func108, Tryz.ntmps108
    go_wp2_with fail
    go_ret
    exact ⟨Go.Proofs.YtigbceankmfaeaaGreatDoor.B.ret_bool HN.out.symm, hb⟩
set_option maxHeartbeats 2000000 in
theorem may_any (h : RD W0 b A c T s x0 x1 x2 x3 W) (hR : Row W0 A (rowC T)) (hT : T.length ≤ 1000000) (y : ByteArray) (x : Key) (hyx : y.toList = x) (hx : x ∈ kws) :
    Calls Tryz.prog 68 #[.pointer (some ⟨b, 0, none⟩), .string y] W (MP W0 b A c T (.bool (seeB (T.map bare) x s)) (mayS (T.map bare) x s) x0 x1 x2 x3 W) := by
  subst hyx
  have hal : Below W.heap.size W (W.alloc (.cells #[.string y] 9)) := (Below.refl _ _).alloc (Nat.le_refl _) _
  have hn := heap_new W (.cells #[.string y] 9)
  have CT := take_any W0 (W.alloc (.cells #[.string y] 9)) b A c T s x0 x1 x2 x3 hR hT (h.call hal) y.toList 108 #[.pointer (some ⟨W.heap.size, 0, none⟩)] (enters_of Tryz.func108 (by kernel_rfl) rfl)
    (fun W1 k t v a hb => may1_any W1 k t v a W.heap.size y hx ((hb.block _ (by rw [World.size_alloc]; omega)).trans hn))
  have HT := Lib.hid CT
  have G0 := Lib.hid (grown_below hal (some b))
  clear CT hal hn h hR
  cases hq : seeB (T.map bare) y.toList s with
  | true =>
    unfold TkP at HT
    rw [hq, if_pos rfl] at HT
    clear hq
    generalize T[s.1]! = t at *
    go_enter Tryz.func68, Tryz.ntmps68
    go_wp2_with fail
    refine HT.out.mono ?_
    rintro e w1 ⟨rfl, h1, g1⟩
    have H1 := Lib.hid h1
    have G1 := Lib.hid (G0.out.trans g1)
    clear h1 g1 HT G0
    go_wp2_with fail
    go_ret
    exact ⟨rfl, H1.out.call ((Below.refl _ _).alloc (Nat.le_refl _) _), G1.out.trans (World.grownBy_alloc _ _ _)⟩
  | false =>
    unfold TkP at HT
    rw [hq, if_neg (by decide)] at HT
    clear hq
    go_enter Tryz.func68, Tryz.ntmps68
    go_wp2_with fail
    refine HT.out.mono ?_
    rintro e w1 ⟨rfl, h1, g1⟩
    have H1 := Lib.hid h1
    have G1 := Lib.hid (G0.out.trans g1)
    clear h1 g1 HT G0
    go_wp2_with fail
    go_ret
    exact ⟨rfl, H1.out.call ((Below.refl _ _).alloc (Nat.le_refl _) _), G1.out.trans (World.grownBy_alloc _ _ _)⟩
theorem enters_name : ∀ args w, (callFunc 127 args).run Tryz.prog w = .ok (.enter 127 args) w := enters_of Tryz.func127 (by kernel_rfl) rfl
theorem enters_number : ∀ args w, (callFunc 139 args).run Tryz.prog w = .ok (.enter 139 args) w := enters_of Tryz.func139 (by kernel_rfl) rfl
set_option maxHeartbeats 2000000 in
theorem mayName_any (h : RD W0 b A c T s x0 x1 x2 x3 W) (hR : Row W0 A (rowC T)) (hT : T.length ≤ 1000000) :
    Calls Tryz.prog 113 #[.pointer (some ⟨b, 0, none⟩)] W (MP W0 b A c T (.tuple #[.string ⟨(takT (T.map bare) [110] s).toArray⟩, .bool (seeB (T.map bare) [110] s)]) (mayS (T.map bare) [110] s) x0 x1 x2 x3 W) := by
  have CT := take_any W0 W b A c T s x0 x1 x2 x3 hR hT h [110] 127 #[] enters_name (fun W1 k t v a _ => isName_any k t v a W1)
  have HT := Lib.hid CT
  clear CT h hR
  cases hq : seeB (T.map bare) [110] s with
  | true =>
    have HV := Lib.hid (takT_yes hq)
    unfold TkP at HT
    rw [hq, if_pos rfl] at HT
    clear hq
    generalize T[s.1]! = t at *
    go_enter Tryz.func113, Tryz.ntmps113
    go_wp2_with fail
    refine HT.out.mono ?_
    rintro e w1 ⟨rfl, h1, g1⟩
    have H1 := Lib.hid h1
    have G1 := Lib.hid g1
    clear h1 g1 HT
    go_wp2_with fail
    go_ret2
    exact ⟨by rw [HV.out]; rfl, H1.out.call ((Below.refl _ _).alloc (Nat.le_refl _) _), G1.out.trans (World.grownBy_alloc _ _ _)⟩
  | false =>
    have HV := Lib.hid (takT_no hq)
    unfold TkP at HT
    rw [hq, if_neg (by decide)] at HT
    clear hq
    go_enter Tryz.func113, Tryz.ntmps113
    go_wp2_with fail
    refine HT.out.mono ?_
    rintro e w1 ⟨rfl, h1, g1⟩
    have H1 := Lib.hid h1
    have G1 := Lib.hid g1
    clear h1 g1 HT
    go_wp2_with fail
    go_ret2
    exact ⟨by rw [HV.out]; rfl, H1.out.call ((Below.refl _ _).alloc (Nat.le_refl _) _), G1.out.trans (World.grownBy_alloc _ _ _)⟩
set_option maxHeartbeats 2000000 in
theorem mayNumber_any (h : RD W0 b A c T s x0 x1 x2 x3 W) (hR : Row W0 A (rowC T)) (hT : T.length ≤ 1000000) :
    Calls Tryz.prog 128 #[.pointer (some ⟨b, 0, none⟩)] W (MP W0 b A c T (.tuple #[.int .i64 ((takN (T.map bare) [100] s : Nat) : Int), .bool (seeB (T.map bare) [100] s)]) (mayS (T.map bare) [100] s) x0 x1 x2 x3 W) := by
  have CT := take_any W0 W b A c T s x0 x1 x2 x3 hR hT h [100] 139 #[] enters_number (fun W1 k t v a _ => isNumber_any k t v a W1)
  have HT := Lib.hid CT
  clear CT h hR
  cases hq : seeB (T.map bare) [100] s with
  | true =>
    have HV := Lib.hid (takN_yes hq)
    unfold TkP at HT
    rw [hq, if_pos rfl] at HT
    clear hq
    generalize T[s.1]! = t at *
    go_enter Tryz.func128, Tryz.ntmps128
    go_wp2_with fail
    refine HT.out.mono ?_
    rintro e w1 ⟨rfl, h1, g1⟩
    have H1 := Lib.hid h1
    have G1 := Lib.hid g1
    clear h1 g1 HT
    go_wp2_with fail
    go_ret2
    exact ⟨by rw [HV.out]; rfl, H1.out.call ((Below.refl _ _).alloc (Nat.le_refl _) _), G1.out.trans (World.grownBy_alloc _ _ _)⟩
  | false =>
    have HV := Lib.hid (takN_no hq)
    unfold TkP at HT
    rw [hq, if_neg (by decide)] at HT
    clear hq
    go_enter Tryz.func128, Tryz.ntmps128
    go_wp2_with fail
    refine HT.out.mono ?_
    rintro e w1 ⟨rfl, h1, g1⟩
    have H1 := Lib.hid h1
    have G1 := Lib.hid g1
    clear h1 g1 HT
    go_wp2_with fail
    go_ret2
    exact ⟨by rw [HV.out]; rfl, H1.out.call ((Below.refl _ _).alloc (Nat.le_refl _) _), G1.out.trans (World.grownBy_alloc _ _ _)⟩
theorem must_see {l : List B3} {x : Key} {s : RS} : ((mayS l x s).1, (mayS l x s).2 || !seeB l x s) = mustS l x s := by
  cases hq : seeB l x s with
  | true => rw [may_yes hq, must_yes hq]; simp
  | false => rw [may_no hq, must_no hq]; simp
set_option maxHeartbeats 2000000 in
theorem name_any (h : RD W0 b A c T s x0 x1 x2 x3 W) (hR : Row W0 A (rowC T)) (hT : T.length ≤ 1000000) :
    Calls Tryz.prog 109 #[.pointer (some ⟨b, 0, none⟩)] W (MP W0 b A c T (.string ⟨(takT (T.map bare) [110] s).toArray⟩) (mustS (T.map bare) [110] s) x0 x1 x2 x3 W) := by
  have HT := Lib.hid (mayName_any h hR hT)
  have HM := Lib.hid (must_see (l := T.map bare) (x := [110]) (s := s))
  clear h hR
  generalize takT (T.map bare) [110] s = v at *
  generalize seeB (T.map bare) [110] s = q at *
  generalize mayS (T.map bare) [110] s = s1 at *
  go_enter Tryz.func109, Tryz.ntmps109
  go_wp2_with fail
  refine HT.out.mono ?_
  rintro e w1 ⟨rfl, h1, g1⟩
  have CM := must_any h1 q
  rw [HM.out] at CM
  have HC := Lib.hid CM
  have G1 := Lib.hid g1
  clear h1 g1 HT CM HM
  go_wp2_with fail
  refine HC.out.mono ?_
  rintro e w2 ⟨rfl, h2, g2⟩
  have H2 := Lib.hid h2
  have G2 := Lib.hid (G1.out.trans g2)
  clear h2 g2 HC G1
  go_wp2_with fail
  go_ret
  exact ⟨rfl, H2.out, G2.out⟩
set_option maxHeartbeats 2000000 in
theorem number_any (h : RD W0 b A c T s x0 x1 x2 x3 W) (hR : Row W0 A (rowC T)) (hT : T.length ≤ 1000000) :
    Calls Tryz.prog 126 #[.pointer (some ⟨b, 0, none⟩)] W (MP W0 b A c T (.int .i64 ((takN (T.map bare) [100] s : Nat) : Int)) (mustS (T.map bare) [100] s) x0 x1 x2 x3 W) := by
  have HT := Lib.hid (mayNumber_any h hR hT)
  have HM := Lib.hid (must_see (l := T.map bare) (x := [100]) (s := s))
  clear h hR
  generalize takN (T.map bare) [100] s = v at *
  generalize seeB (T.map bare) [100] s = q at *
  generalize mayS (T.map bare) [100] s = s1 at *
  go_enter Tryz.func126, Tryz.ntmps126
  go_wp2_with fail
  refine HT.out.mono ?_
  rintro e w1 ⟨rfl, h1, g1⟩
  have CM := must_any h1 q
  rw [HM.out] at CM
  have HC := Lib.hid CM
  have G1 := Lib.hid g1
  clear h1 g1 HT CM HM
  go_wp2_with fail
  refine HC.out.mono ?_
  rintro e w2 ⟨rfl, h2, g2⟩
  have H2 := Lib.hid h2
  have G2 := Lib.hid (G1.out.trans g2)
  clear h2 g2 HC G1
  go_wp2_with fail
  go_ret
  exact ⟨rfl, H2.out, G2.out⟩
set_option maxHeartbeats 2000000 in
theorem option_any (h : RD W0 b A c T s x0 x1 x2 x3 W) (hR : Row W0 A (rowC T)) (hT : T.length ≤ 1000000) (y : ByteArray) (x : Key) (hyx : y.toList = x) (hx : x ∈ kws) :
    Calls Tryz.prog 110 #[.pointer (some ⟨b, 0, none⟩), .string y] W (MP W0 b A c T (.string ⟨(optV (T.map bare) x s).toArray⟩) (optS (T.map bare) x s) x0 x1 x2 x3 W) := by
  have HM := Lib.hid (may_any h hR hT y x hyx hx)
  have HN := Lib.hid (fun (W1 : World) (s1 : RS) (h1 : RD W0 b A c T s1 x0 x1 x2 x3 W1) => name_any h1 hR hT)
  clear h hR
  cases hq : seeB (T.map bare) x s with
  | true =>
    have HV : Hid (optV (T.map bare) x s = takT (T.map bare) [110] (mayS (T.map bare) x s)) := Lib.hid (by unfold optV; rw [if_pos hq])
    have HS : Hid (optS (T.map bare) x s = mustS (T.map bare) [110] (mayS (T.map bare) x s)) := Lib.hid (by unfold optS; rw [if_pos hq])
    rw [hq] at HM
    clear hq
    generalize mayS (T.map bare) x s = s1 at *
    go_enter Tryz.func110, Tryz.ntmps110
    go_wp2_with fail
    refine HM.out.mono ?_
    rintro e w1 ⟨rfl, h1, g1⟩
    have HC := Lib.hid (HN.out w1 s1 h1)
    have G1 := Lib.hid g1
    rw [← HV.out, ← HS.out] at HC
    clear h1 g1 HM HN
    go_wp2_with fail
    refine HC.out.mono ?_
    rintro e w2 ⟨rfl, h2, g2⟩
    have H2 := Lib.hid h2
    have G2 := Lib.hid (G1.out.trans g2)
    clear h2 g2 HC G1
    go_wp2_with fail
    go_ret
    exact ⟨rfl, H2.out, G2.out⟩
  | false =>
    have HV : Hid (optV (T.map bare) x s = []) := Lib.hid (by unfold optV; rw [hq]; rfl)
    have HS : Hid (mayS (T.map bare) x s = optS (T.map bare) x s) := Lib.hid (by rw [may_no hq]; unfold optS; rw [hq]; rfl)
    rw [hq, HS.out] at HM
    clear hq HS HN
    go_enter Tryz.func110, Tryz.ntmps110
    go_wp2_with fail
    refine HM.out.mono ?_
    rintro e w1 ⟨rfl, h1, g1⟩
    have H2 := Lib.hid h1
    have G2 := Lib.hid g1
    clear h1 g1 HM
    go_wp2_with fail
    go_ret
    exact ⟨by rw [HV.out]; rfl, H2.out, G2.out⟩
set_option maxRecDepth 100000 in
set_option maxHeartbeats 2000000 in
theorem end_any (h : RD W0 b A c T s x0 x1 x2 x3 W) :
    Calls Tryz.prog 73 #[.pointer (some ⟨b, 0, none⟩)] W (MP W0 b A c T (.tuple #[]) (endS (T.map bare) s) x0 x1 x2 x3 W) := by
  obtain ⟨c0, c1, c2⟩ := h.c0
  have ll := h.lt
  have hd : Below W.heap.size W W.drew := below_draws (Below.refl _ _) 1
  have G0 := Lib.hid (grown_below hd (some b))
  have CM := must_any (h.call hd) (s.1 == T.length)
  have he : Hid ((s.1, s.2 || !(s.1 == T.length)) = endS (T.map bare) s) := Lib.hid (by unfold endS; rw [List.length_map])
  rw [he.out] at CM
  clear he hd
  by_cases hk : s.1 = T.length
  · rw [show (s.1 == T.length) = true from beq_iff_eq.2 hk] at CM
    have hq : ((s.1 : Int) == (T.length : Int)) = true := by rw [beq_iff_eq]; omega
    have HC := Lib.hid CM
    clear CM h hk
    go_enter Tryz.func73, Tryz.ntmps73
    go_wp2_with fail
    go_still_tail 11, (by kernel_rfl)
    go_wp2_with fail
    refine HC.out.mono ?_
    rintro e w2 ⟨rfl, h2, g2⟩
    have H2 := Lib.hid h2
    have G2 := Lib.hid (G0.out.trans g2)
    clear h2 g2 HC c0 c1 c2 ll G0
    go_wp2_with fail
    go_end0
    exact ⟨rfl, H2.out, G2.out⟩
  · rw [show (s.1 == T.length) = false from beq_eq_false_iff_ne.2 hk] at CM
    have hq : ((s.1 : Int) == (T.length : Int)) = false := by rw [beq_eq_false_iff_ne]; omega
    have HC := Lib.hid CM
    clear CM h hk
    go_enter Tryz.func73, Tryz.ntmps73
    go_wp2_with fail
    go_still_tail 11, (by kernel_rfl)
    go_wp2_with fail
    refine HC.out.mono ?_
    rintro e w2 ⟨rfl, h2, g2⟩
    have H2 := Lib.hid h2
    have G2 := Lib.hid (G0.out.trans g2)
    clear h2 g2 HC c0 c1 c2 ll G0
    go_wp2_with fail
    go_end0
    exact ⟨rfl, H2.out, G2.out⟩
end
end Go.Proofs.YtigbceankmfaeaaGreatDoor.P3.C
