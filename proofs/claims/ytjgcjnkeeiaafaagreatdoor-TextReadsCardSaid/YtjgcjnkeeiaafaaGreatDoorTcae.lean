/-
  Contracts of the reader's must, may, mayName, mayNumber, name, number, option, end. A region that draws its order, in which one operation (the last store) may spoil what the others read: what they read stands as long as that one has not come up. A region that draws its order, in which what the others read stands behind each operation.
-/
import Derived.Test.YtjgcjnkeeiaafaaGreatDoorTcad
import Derived.StillTailTactics
import Derived.Test.YtjgcjnkeeiaafaaGreatDoorTcaa
import Derived.OrdersHeld
namespace Go.Proofs.YtjgcjnkeeiaafaaGreatDoor.P3.C
open Go.RowKit Go.Shelf Go.Proofs.YtjgcjnkeeiaafaaGreatDoor.B Go.Proofs.YtjgcjnkeeiaafaaGreatDoor.Lx Go.Proofs.YtjgcjnkeeiaafaaGreatDoor.P3
theorem takT_yes {T : List Tok} {x : Key} {s : RS} (h : seeB (T.map bare) x s = true) : takT (T.map bare) x s = T[s.1]!.text := by
  have hk := see_lt h
  unfold takT
  rw [if_pos h, List.getElem?_map, List.getElem?_eq_getElem hk, getElem!_pos T _ hk]; rfl
theorem takT_no {l : List B3} {x : Key} {s : RS} (h : seeB l x s = false) : takT l x s = [] := by unfold takT; rw [h]; rfl
theorem takN_yes {T : List Tok} {x : Key} {s : RS} (h : seeB (T.map bare) x s = true) : takN (T.map bare) x s = T[s.1]!.val := by
  have hk := see_lt h
  unfold takN
  rw [if_pos h, List.getElem?_map, List.getElem?_eq_getElem hk, getElem!_pos T _ hk]; rfl
theorem takN_no {l : List B3} {x : Key} {s : RS} (h : seeB l x s = false) : takN l x s = 0 := by unfold takN; rw [h]; rfl
theorem must_yes {l : List B3} {x : Key} {s : RS} (h : seeB l x s = true) : mustS l x s = (s.1 + 1, s.2) := by unfold mustS; rw [if_pos h]
theorem must_no {l : List B3} {x : Key} {s : RS} (h : seeB l x s = false) : mustS l x s = (s.1, true) := by unfold mustS; rw [h]; rfl
/-- What a reader's method that hands back v leaves. -/
def MP (W0 : World) (b : Nat) (A : Option Addr) (c : Nat) (T : List Tok) (v : Value) (s' : RS) (x0 x1 x2 x3 : Value) (W : World) (e : Ending) (w' : World) : Prop :=
  e = .returned v ∧ RD W0 b A c T s' x0 x1 x2 x3 w' ∧ W.grownBy w' (some b)
section
variable {W0 W : World} {b : Nat} {A : Option Addr} {c : Nat} {T : List Tok} {s : RS} {x0 x1 x2 x3 : Value}
set_option maxHeartbeats 1000000 in
theorem must_any (h : RD W0 b A c T s x0 x1 x2 x3 W) (q : Bool) : Calls Tryz.prog 98 #[.pointer (some ⟨b, 0, none⟩), .bool q] W (MP W0 b A c T (.tuple #[]) (s.1, s.2 || !q) x0 x1 x2 x3 W) := by
  obtain ⟨c0, c1, c2⟩ := h.c0
  have ll := h.lt
  have f2 := h.fz 2
  obtain ⟨k, z⟩ := s
  simp only at c1 c2
  cases z with
  | true =>
    have H := Lib.hid (h.bad true)
    have G := Lib.hid (grown_set W b 2 (.bool true))
    clear h
    go_enter Tryz.func98, Tryz.ntmps98
    go_wp2_with fail
    go_end0
    exact ⟨rfl, H.out, G.out⟩
  | false =>
    cases q with
    | true =>
      have H := Lib.hid (h.bad false)
      have G := Lib.hid (grown_set W b 2 (.bool false))
      clear h
      go_enter Tryz.func98, Tryz.ntmps98
      go_wp2_with fail
      go_end0
      exact ⟨rfl, H.out, G.out⟩
    | false =>
      have H := Lib.hid (h.bad true)
      have G := Lib.hid (grown_set W b 2 (.bool true))
      clear h
      go_enter Tryz.func98, Tryz.ntmps98
      go_wp2_with fail
      go_end0
      exact ⟨rfl, H.out, G.out⟩
set_option maxHeartbeats 1000000 in
theorem may1_any (W : World) (k : Nat) (t : ByteArray) (v a bw : Nat) (y : ByteArray) (hy : y.toList ∈ kws) (h : W.heap[bw]? = some (.cells #[.string y] 9 (0, 0))) :
    Calls Tryz.prog 95 (#[tkV k t v a] ++ #[.pointer (some ⟨bw, 0, none⟩)]) W fun e w' => e = .returned (.bool (cls (k, t.toList, v) == y.toList)) ∧ Below W.heap.size W w' := by
  have hb : Below W.heap.size W (W.alloc (.cells #[.int .i64 (k : Int), .string t, .int .i64 (v : Int), .int .i64 (a : Int)] 54)) := (Below.refl _ _).alloc (Nat.le_refl _) _
  have cw : W.cell? ⟨bw, 0, none⟩ = some (.string y) := cell_blk h rfl
  have hlw := blk_lt h
  by_cases hk : k = 1
  · have h2 : ((k : Int) == 1) = true := by rw [beq_iff_eq]; omega
    by_cases ht : t.toList = y.toList
    · have HN : Hid ((cls (k, t.toList, v) == y.toList) = true) := Lib.hid (by rw [cls_word hy, decide_eq_true hk, ht]; simp)
      have ht2 : (t.toList == y.toList) = true := by rw [beq_iff_eq]; exact ht
      clear hk hy
      show Calls _ _ #[_, _] _ _
      go_enter Tryz.func95, Tryz.ntmps95
      go_wp2_with fail
      go_ret
      exact ⟨Go.Proofs.YtjgcjnkeeiaafaaGreatDoor.B.ret_bool HN.out.symm, hb⟩
    · have ht2 : (t.toList == y.toList) = false := by rw [beq_eq_false_iff_ne]; exact ht
      have HN : Hid ((cls (k, t.toList, v) == y.toList) = false) := Lib.hid (by rw [cls_word hy, ht2, Bool.and_false])
      clear hk hy
      show Calls _ _ #[_, _] _ _
      go_enter Tryz.func95, Tryz.ntmps95
      go_wp2_with fail
      go_ret
      exact ⟨Go.Proofs.YtjgcjnkeeiaafaaGreatDoor.B.ret_bool HN.out.symm, hb⟩
  · have h2 : ((k : Int) == 1) = false := by rw [beq_eq_false_iff_ne]; omega
    have HN : Hid ((cls (k, t.toList, v) == y.toList) = false) := Lib.hid (by rw [cls_word hy, decide_eq_false hk, Bool.false_and])
    clear hk hy
    show Calls _ _ #[_, _] _ _
    go_enter Tryz.func95, Tryz.ntmps95
    go_wp2_with fail
    go_ret
    exact ⟨Go.Proofs.YtjgcjnkeeiaafaaGreatDoor.B.ret_bool HN.out.symm, hb⟩
set_option maxHeartbeats 2000000 in
theorem may_any (h : RD W0 b A c T s x0 x1 x2 x3 W) (hR : Row W0 A (rowC T)) (hT : T.length ≤ 1000000) (y : ByteArray) (x : Key) (hyx : y.toList = x) (hx : x ∈ kws) :
    Calls Tryz.prog 55 #[.pointer (some ⟨b, 0, none⟩), .string y] W (MP W0 b A c T (.bool (seeB (T.map bare) x s)) (mayS (T.map bare) x s) x0 x1 x2 x3 W) := by
  subst hyx
  have hal : Below W.heap.size W (W.alloc (.cells #[.string y] 9)) := (Below.refl _ _).alloc (Nat.le_refl _) _
  have hn := heap_new W (.cells #[.string y] 9)
  have CT := take_any W0 (W.alloc (.cells #[.string y] 9)) b A c T s x0 x1 x2 x3 hR hT (h.call hal) y.toList 95 #[.pointer (some ⟨W.heap.size, 0, none⟩)] (enters_of Tryz.func95 (by kernel_rfl) rfl)
    (fun W1 k t v a hb => may1_any W1 k t v a W.heap.size y hx ((hb.block _ (by rw [World.size_alloc]; omega)).trans hn))
  have HT := Lib.hid CT
  have G0 := Lib.hid (grown_below hal (some b))
  clear CT hal hn h hR
  cases hq : seeB (T.map bare) y.toList s with
  | true =>
    unfold TkP at HT
    rw [hq, if_pos rfl] at HT
    clear hq
    generalize T[s.1]! = t at *
    go_enter Tryz.func55, Tryz.ntmps55
    go_wp2_with fail
    refine HT.out.mono ?_
    rintro e w1 ⟨rfl, h1, g1⟩
    have H1 := Lib.hid h1
    have G1 := Lib.hid (G0.out.trans g1)
    clear h1 g1 HT G0
    go_wp2_with fail
    go_ret
    exact ⟨rfl, H1.out.call ((Below.refl _ _).alloc (Nat.le_refl _) _), G1.out.trans (World.grownBy_alloc _ _ _)⟩
  | false =>
    unfold TkP at HT
    rw [hq, if_neg (by decide)] at HT
    clear hq
    go_enter Tryz.func55, Tryz.ntmps55
    go_wp2_with fail
    refine HT.out.mono ?_
    rintro e w1 ⟨rfl, h1, g1⟩
    have H1 := Lib.hid h1
    have G1 := Lib.hid (G0.out.trans g1)
    clear h1 g1 HT G0
    go_wp2_with fail
    go_ret
    exact ⟨rfl, H1.out.call ((Below.refl _ _).alloc (Nat.le_refl _) _), G1.out.trans (World.grownBy_alloc _ _ _)⟩
theorem enters_name : ∀ args w, (callFunc 119 args).run Tryz.prog w = .ok (.enter 119 args) w := enters_of Tryz.func119 (by kernel_rfl) rfl
theorem enters_number : ∀ args w, (callFunc 131 args).run Tryz.prog w = .ok (.enter 131 args) w := enters_of Tryz.func131 (by kernel_rfl) rfl
set_option maxHeartbeats 2000000 in
theorem mayName_any (h : RD W0 b A c T s x0 x1 x2 x3 W) (hR : Row W0 A (rowC T)) (hT : T.length ≤ 1000000) :
    Calls Tryz.prog 100 #[.pointer (some ⟨b, 0, none⟩)] W (MP W0 b A c T (.tuple #[.string ⟨(takT (T.map bare) [110] s).toArray⟩, .bool (seeB (T.map bare) [110] s)]) (mayS (T.map bare) [110] s) x0 x1 x2 x3 W) := by
  have CT := take_any W0 W b A c T s x0 x1 x2 x3 hR hT h [110] 119 #[] enters_name (fun W1 k t v a _ => isName_any k t v a W1)
  have HT := Lib.hid CT
  clear CT h hR
  cases hq : seeB (T.map bare) [110] s with
  | true =>
    have HV := Lib.hid (takT_yes hq)
    unfold TkP at HT
    rw [hq, if_pos rfl] at HT
    clear hq
    generalize T[s.1]! = t at *
    go_enter Tryz.func100, Tryz.ntmps100
    go_wp2_with fail
    refine HT.out.mono ?_
    rintro e w1 ⟨rfl, h1, g1⟩
    have H1 := Lib.hid h1
    have G1 := Lib.hid g1
    clear h1 g1 HT
    go_wp2_with fail
    go_ret2
    exact ⟨by rw [HV.out]; rfl, H1.out.call ((Below.refl _ _).alloc (Nat.le_refl _) _), G1.out.trans (World.grownBy_alloc _ _ _)⟩
  | false =>
    have HV := Lib.hid (takT_no hq)
    unfold TkP at HT
    rw [hq, if_neg (by decide)] at HT
    clear hq
    go_enter Tryz.func100, Tryz.ntmps100
    go_wp2_with fail
    refine HT.out.mono ?_
    rintro e w1 ⟨rfl, h1, g1⟩
    have H1 := Lib.hid h1
    have G1 := Lib.hid g1
    clear h1 g1 HT
    go_wp2_with fail
    go_ret2
    exact ⟨by rw [HV.out]; rfl, H1.out.call ((Below.refl _ _).alloc (Nat.le_refl _) _), G1.out.trans (World.grownBy_alloc _ _ _)⟩
set_option maxHeartbeats 2000000 in
theorem mayNumber_any (h : RD W0 b A c T s x0 x1 x2 x3 W) (hR : Row W0 A (rowC T)) (hT : T.length ≤ 1000000) :
    Calls Tryz.prog 120 #[.pointer (some ⟨b, 0, none⟩)] W (MP W0 b A c T (.tuple #[.int .i64 ((takN (T.map bare) [100] s : Nat) : Int), .bool (seeB (T.map bare) [100] s)]) (mayS (T.map bare) [100] s) x0 x1 x2 x3 W) := by
  have CT := take_any W0 W b A c T s x0 x1 x2 x3 hR hT h [100] 131 #[] enters_number (fun W1 k t v a _ => isNumber_any k t v a W1)
  have HT := Lib.hid CT
  clear CT h hR
  cases hq : seeB (T.map bare) [100] s with
  | true =>
    have HV := Lib.hid (takN_yes hq)
    unfold TkP at HT
    rw [hq, if_pos rfl] at HT
    clear hq
    generalize T[s.1]! = t at *
    go_enter Tryz.func120, Tryz.ntmps120
    go_wp2_with fail
    refine HT.out.mono ?_
    rintro e w1 ⟨rfl, h1, g1⟩
    have H1 := Lib.hid h1
    have G1 := Lib.hid g1
    clear h1 g1 HT
    go_wp2_with fail
    go_ret2
    exact ⟨by rw [HV.out]; rfl, H1.out.call ((Below.refl _ _).alloc (Nat.le_refl _) _), G1.out.trans (World.grownBy_alloc _ _ _)⟩
  | false =>
    have HV := Lib.hid (takN_no hq)
    unfold TkP at HT
    rw [hq, if_neg (by decide)] at HT
    clear hq
    go_enter Tryz.func120, Tryz.ntmps120
    go_wp2_with fail
    refine HT.out.mono ?_
    rintro e w1 ⟨rfl, h1, g1⟩
    have H1 := Lib.hid h1
    have G1 := Lib.hid g1
    clear h1 g1 HT
    go_wp2_with fail
    go_ret2
    exact ⟨by rw [HV.out]; rfl, H1.out.call ((Below.refl _ _).alloc (Nat.le_refl _) _), G1.out.trans (World.grownBy_alloc _ _ _)⟩
theorem must_see {l : List B3} {x : Key} {s : RS} : ((mayS l x s).1, (mayS l x s).2 || !seeB l x s) = mustS l x s := by
  cases hq : seeB l x s with
  | true => rw [may_yes hq, must_yes hq]; simp
  | false => rw [may_no hq, must_no hq]; simp
set_option maxHeartbeats 2000000 in
theorem name_any (h : RD W0 b A c T s x0 x1 x2 x3 W) (hR : Row W0 A (rowC T)) (hT : T.length ≤ 1000000) :
    Calls Tryz.prog 96 #[.pointer (some ⟨b, 0, none⟩)] W (MP W0 b A c T (.string ⟨(takT (T.map bare) [110] s).toArray⟩) (mustS (T.map bare) [110] s) x0 x1 x2 x3 W) := by
  have HT := Lib.hid (mayName_any h hR hT)
  have HM := Lib.hid (must_see (l := T.map bare) (x := [110]) (s := s))
  clear h hR
  generalize takT (T.map bare) [110] s = v at *
  generalize seeB (T.map bare) [110] s = q at *
  generalize mayS (T.map bare) [110] s = s1 at *
  go_enter Tryz.func96, Tryz.ntmps96
  go_wp2_with fail
  refine HT.out.mono ?_
  rintro e w1 ⟨rfl, h1, g1⟩
  have CM := must_any h1 q
  rw [HM.out] at CM
  have HC := Lib.hid CM
  have G1 := Lib.hid g1
  clear h1 g1 HT CM HM
  go_wp2_with fail
  refine HC.out.mono ?_
  rintro e w2 ⟨rfl, h2, g2⟩
  have H2 := Lib.hid h2
  have G2 := Lib.hid (G1.out.trans g2)
  clear h2 g2 HC G1
  go_wp2_with fail
  go_ret
  exact ⟨rfl, H2.out, G2.out⟩
set_option maxHeartbeats 2000000 in
theorem number_any (h : RD W0 b A c T s x0 x1 x2 x3 W) (hR : Row W0 A (rowC T)) (hT : T.length ≤ 1000000) :
    Calls Tryz.prog 118 #[.pointer (some ⟨b, 0, none⟩)] W (MP W0 b A c T (.int .i64 ((takN (T.map bare) [100] s : Nat) : Int)) (mustS (T.map bare) [100] s) x0 x1 x2 x3 W) := by
  have HT := Lib.hid (mayNumber_any h hR hT)
  have HM := Lib.hid (must_see (l := T.map bare) (x := [100]) (s := s))
  clear h hR
  generalize takN (T.map bare) [100] s = v at *
  generalize seeB (T.map bare) [100] s = q at *
  generalize mayS (T.map bare) [100] s = s1 at *
  go_enter Tryz.func118, Tryz.ntmps118
  go_wp2_with fail
  refine HT.out.mono ?_
  rintro e w1 ⟨rfl, h1, g1⟩
  have CM := must_any h1 q
  rw [HM.out] at CM
  have HC := Lib.hid CM
  have G1 := Lib.hid g1
  clear h1 g1 HT CM HM
  go_wp2_with fail
  refine HC.out.mono ?_
  rintro e w2 ⟨rfl, h2, g2⟩
  have H2 := Lib.hid h2
  have G2 := Lib.hid (G1.out.trans g2)
  clear h2 g2 HC G1
  go_wp2_with fail
  go_ret
  exact ⟨rfl, H2.out, G2.out⟩
set_option maxHeartbeats 2000000 in
theorem option_any (h : RD W0 b A c T s x0 x1 x2 x3 W) (hR : Row W0 A (rowC T)) (hT : T.length ≤ 1000000) (y : ByteArray) (x : Key) (hyx : y.toList = x) (hx : x ∈ kws) :
    Calls Tryz.prog 97 #[.pointer (some ⟨b, 0, none⟩), .string y] W (MP W0 b A c T (.string ⟨(optV (T.map bare) x s).toArray⟩) (optS (T.map bare) x s) x0 x1 x2 x3 W) := by
  have HM := Lib.hid (may_any h hR hT y x hyx hx)
  have HN := Lib.hid (fun (W1 : World) (s1 : RS) (h1 : RD W0 b A c T s1 x0 x1 x2 x3 W1) => name_any h1 hR hT)
  clear h hR
  cases hq : seeB (T.map bare) x s with
  | true =>
    have HV : Hid (optV (T.map bare) x s = takT (T.map bare) [110] (mayS (T.map bare) x s)) := Lib.hid (by unfold optV; rw [if_pos hq])
    have HS : Hid (optS (T.map bare) x s = mustS (T.map bare) [110] (mayS (T.map bare) x s)) := Lib.hid (by unfold optS; rw [if_pos hq])
    rw [hq] at HM
    clear hq
    generalize mayS (T.map bare) x s = s1 at *
    go_enter Tryz.func97, Tryz.ntmps97
    go_wp2_with fail
    refine HM.out.mono ?_
    rintro e w1 ⟨rfl, h1, g1⟩
    have HC := Lib.hid (HN.out w1 s1 h1)
    have G1 := Lib.hid g1
    rw [← HV.out, ← HS.out] at HC
    clear h1 g1 HM HN
    go_wp2_with fail
    refine HC.out.mono ?_
    rintro e w2 ⟨rfl, h2, g2⟩
    have H2 := Lib.hid h2
    have G2 := Lib.hid (G1.out.trans g2)
    clear h2 g2 HC G1
    go_wp2_with fail
    go_ret
    exact ⟨rfl, H2.out, G2.out⟩
  | false =>
    have HV : Hid (optV (T.map bare) x s = []) := Lib.hid (by unfold optV; rw [hq]; rfl)
    have HS : Hid (mayS (T.map bare) x s = optS (T.map bare) x s) := Lib.hid (by rw [may_no hq]; unfold optS; rw [hq]; rfl)
    rw [hq, HS.out] at HM
    clear hq HS HN
    go_enter Tryz.func97, Tryz.ntmps97
    go_wp2_with fail
    refine HM.out.mono ?_
    rintro e w1 ⟨rfl, h1, g1⟩
    have H2 := Lib.hid h1
    have G2 := Lib.hid g1
    clear h1 g1 HM
    go_wp2_with fail
    go_ret
    exact ⟨by rw [HV.out]; rfl, H2.out, G2.out⟩
set_option maxRecDepth 100000 in
set_option maxHeartbeats 2000000 in
theorem end_any (h : RD W0 b A c T s x0 x1 x2 x3 W) :
    Calls Tryz.prog 60 #[.pointer (some ⟨b, 0, none⟩)] W (MP W0 b A c T (.tuple #[]) (endS (T.map bare) s) x0 x1 x2 x3 W) := by
  obtain ⟨c0, c1, c2⟩ := h.c0
  have ll := h.lt
  have hd : Below W.heap.size W W.drew := below_draws (Below.refl _ _) 1
  have G0 := Lib.hid (grown_below hd (some b))
  have CM := must_any (h.call hd) (s.1 == T.length)
  have he : Hid ((s.1, s.2 || !(s.1 == T.length)) = endS (T.map bare) s) := Lib.hid (by unfold endS; rw [List.length_map])
  rw [he.out] at CM
  clear he hd
  by_cases hk : s.1 = T.length
  · rw [show (s.1 == T.length) = true from beq_iff_eq.2 hk] at CM
    have hq : ((s.1 : Int) == (T.length : Int)) = true := by rw [beq_iff_eq]; omega
    have HC := Lib.hid CM
    clear CM h hk
    go_enter Tryz.func60, Tryz.ntmps60
    go_wp2_with fail
    go_still_tail 11, (by kernel_rfl)
    go_wp2_with fail
    refine HC.out.mono ?_
    rintro e w2 ⟨rfl, h2, g2⟩
    have H2 := Lib.hid h2
    have G2 := Lib.hid (G0.out.trans g2)
    clear h2 g2 HC c0 c1 c2 ll G0
    go_wp2_with fail
    go_end0
    exact ⟨rfl, H2.out, G2.out⟩
  · rw [show (s.1 == T.length) = false from beq_eq_false_iff_ne.2 hk] at CM
    have hq : ((s.1 : Int) == (T.length : Int)) = false := by rw [beq_eq_false_iff_ne]; omega
    have HC := Lib.hid CM
    clear CM h hk
    go_enter Tryz.func60, Tryz.ntmps60
    go_wp2_with fail
    go_still_tail 11, (by kernel_rfl)
    go_wp2_with fail
    refine HC.out.mono ?_
    rintro e w2 ⟨rfl, h2, g2⟩
    have H2 := Lib.hid h2
    have G2 := Lib.hid (G0.out.trans g2)
    clear h2 g2 HC c0 c1 c2 ll G0
    go_wp2_with fail
    go_end0
    exact ⟨rfl, H2.out, G2.out⟩
end
end Go.Proofs.YtjgcjnkeeiaafaaGreatDoor.P3.C

namespace Go.Proofs.YtjgcjnkeeiaafaaGreatDoor.B
open Go
section
variable {P : Program} {ops : Array Oper} {Q : Exit → Act → World → Prop} {md : Region.Mode} {S : World → Prop} {z : Nat}
/-- Whatever order is picked, and behind each operation but number z the condition holds. -/
def wpAnyT (P : Program) (md : Region.Mode) (ops : Array Oper) (Q : Exit → Act → World → Prop) (S : World → Prop) (z : Nat) : Nat → Array Bool → Act → World → Prop
  | 0, listed, a, w => Region.ready md ops listed = [] ∧ Q .normal a w
  | fuel + 1, listed, a, w =>
    (Region.ready md ops listed = [] → Q .normal a w) ∧
    ∀ i ∈ Region.ready md ops listed, wpOp P ops Q i (fun a' w' => (i ≠ z → S w') ∧ wpAnyT P md ops Q S z fuel (listed.setIfInBounds i true) a' w') a w
theorem any_of_T : ∀ (fuel : Nat) (listed : Array Bool) (a : Act) (w : World), wpAnyT P md ops Q S z fuel listed a w → wpAny P md ops Q fuel listed a w
  | 0, _, _, _, h => h
  | fuel + 1, _, _, _, h => ⟨h.1, fun i hi => wpOp_mono (fun a' w' h' => any_of_T fuel _ a' w' h'.2) (h.2 i hi)⟩
/-- Number z waits for number i. -/
def waitsB (md : Region.Mode) (ops : Array Oper) (z i : Nat) : Bool := match ops[z]? with
  | some oz => oz.after.any fun e => Region.binds md e && e.on == i
  | none => false
theorem waits_of {z i : Nat} (h : waitsB md ops z i = true) : ∃ oz, ops[z]? = some oz ∧ ∃ e ∈ oz.after, Region.binds md e = true ∧ e.on = i := by
  unfold waitsB at h
  split at h
  · rename_i oz hz
    obtain ⟨e, he, hb⟩ := Array.any_eq_true'.1 h
    simp only [Bool.and_eq_true, beq_iff_eq] at hb
    exact ⟨oz, hz, e, he, hb.1, hb.2⟩
  · cases h
/-- Each waits for the next one. -/
def pathB (md : Region.Mode) (ops : Array Oper) : Nat → List Nat → Bool
  | _, [] => true
  | a, b :: r => waitsB md ops a b && pathB md ops b r
/-- What has come up has what it waited for. -/
def Shut (md : Region.Mode) (ops : Array Oper) (listed : Array Bool) : Prop := ∀ j oj, ops[j]? = some oj → listed.getD j false = true → ∀ e ∈ oj.after, Region.binds md e = true → listed.getD e.on false = true
def shutB (md : Region.Mode) (ops : Array Oper) (listed : Array Bool) : Bool := (List.range ops.size).all fun j => match ops[j]? with
  | some oj => !listed.getD j false || oj.after.all fun e => !Region.binds md e || listed.getD e.on false
  | none => true
theorem shut_of {listed : Array Bool} (h : shutB md ops listed = true) : Shut md ops listed := by
  intro j oj hj hl e he hb
  have hlt := (Array.getElem?_eq_some_iff.1 hj).1
  have h1 := List.all_eq_true.1 h j (List.mem_range.2 hlt)
  simp only [hj, hl, Bool.not_true, Bool.false_or] at h1
  have h2 := Array.all_eq_true'.1 h1 e he
  simpa [hb] using h2
theorem path_last {listed : Array Bool} (hs : Shut md ops listed) : ∀ (p : List Nat) (a : Nat), listed.getD a false = true → pathB md ops a p = true → ∀ i, (a :: p).getLast? = some i → listed.getD i false = true
  | [], a, ha, _, i, hi => by simp at hi; rw [← hi]; exact ha
  | b :: r, a, ha, hp, i, hi => by
    rw [pathB, Bool.and_eq_true] at hp
    obtain ⟨oa, hoa, e, he, hb, hon⟩ := waits_of hp.1
    have h1 := hs a oa hoa ha e he hb
    rw [hon] at h1
    exact path_last hs r b h1 hp.2 i (by simpa using hi)
theorem not_listed {listed : Array Bool} {i : Nat} (h : listed.getD i true = false) : listed.getD i false = false := by
  rcases Nat.lt_or_ge i listed.size with h' | h'
  · simp [h'] at h ⊢; exact h
  · simp [Array.getElem?_eq_none h'] at h
theorem Shut.set {listed : Array Bool} (hs : Shut md ops listed) {j : Nat} (hj : j ∈ Region.ready md ops listed) : Shut md ops (listed.setIfInBounds j true) := by
  obtain ⟨_, oj, hoj, hall⟩ := mem_ready.1 hj
  intro k ok hk hl e he hb
  by_cases hjk : j = k
  · subst hjk
    have : ok = oj := Option.some.inj (hk.symm.trans hoj)
    subst this
    exact getD_set_true (hall e he hb)
  · rw [getD_set_ne false hjk] at hl
    exact getD_set_true (hs k ok hk hl e he hb)
theorem anyT_first {i : Nat} {oi : Oper} {v : Value} {p : List Nat} {b : Nat} (hi : ops[i]? = some oi) (hsel : ∀ (j : Nat) (o : Oper) cs b, ops[j]? = some o → o.op ≠ .select cs b)
    (hQ : ∀ c a w, Q (.panic c) (a.put oi.dst v) w → Q (.panic c) a w) (hw : waitsB md ops z b = true) (hp : pathB md ops b p = true) (hl : (b :: p).getLast? = some i) :
    ∀ (fuel : Nat) (listed : Array Bool) (a : Act) (w : World), Shut md ops listed →
      (∀ j oj, ops[j]? = some oj → j ≠ i → listed.getD j true = false → (∀ e ∈ oj.after, Region.binds md e = true → e.on ≠ i) → oi.apart ops oj = true) →
      i ∈ Region.ready md ops listed → YieldsIf P ops S oi v a → S w →
      wpAnyT P md ops Q S z fuel (listed.setIfInBounds i true) (a.put oi.dst v) w → wpAnyT P md ops Q S z (fuel + 1) listed a w
  | fuel, listed, a, w, hsh, hfree, hr, hy, hS, H => by
    refine ⟨fun h => (by rw [h] at hr; cases hr), fun j hj => ?_⟩
    by_cases hji : j = i
    · subst hji; exact hy.wpOp hi hS ⟨fun _ => hS, H⟩
    have hun := (mem_ready.1 hr).1
    cases fuel with
    | zero =>
      have := ready_mono hj hji
      rw [H.1] at this
      cases this
    | succ fuel =>
      have h1 := H.2 j (ready_mono hj hji)
      obtain ⟨hjun, oj, hoj, hall⟩ := mem_ready.1 hj
      have hnot : ∀ e ∈ oj.after, Region.binds md e = true → e.on ≠ i := fun e he hb heq => by
        have h2 := hall e he hb
        rw [heq, not_listed hun] at h2
        cases h2
      have hjz : j ≠ z := by
        rintro rfl
        obtain ⟨oz, hoz, e, he, hb, hon⟩ := waits_of hw
        have : oz = oj := Option.some.inj (hoz.symm.trans hoj)
        subst this
        have h2 := hall e he hb
        rw [hon] at h2
        have h3 := path_last hsh p b h2 hp i hl
        rw [not_listed hun] at h3; cases h3
      have h2 := wpOp_putIf hoj (hfree j oj hoj hji hjun hnot) (fun cs b => hsel i oi cs b hi) (fun cs b => hsel j oj cs b hoj) hQ hy h1
      refine wpOp_mono (fun a' w' h3 => ⟨fun _ => h3.2.1 hjz, anyT_first hi hsel hQ hw hp hl fuel (listed.setIfInBounds j true) a' w' (hsh.set hj) (fun k ok hk hki hun' hno => ?_) (ready_mono hr (Ne.symm hji)) h3.1 (h3.2.1 hjz) ?_⟩) h2
      · refine hfree k ok hk hki ?_ hno
        by_cases hjk : j = k
        · subst hjk; exact hjun
        · rw [getD_set_ne true hjk] at hun'; exact hun'
      · rw [Array.setIfInBounds_comm _ _ hji]
        exact h3.2.2
/-- Number i may be taken first: z waits for it, over others (the way is told). -/
theorem anyT_take {i : Nat} (b : Nat) (p : List Nat) {oi : Oper} {v : Value} {fuel : Nat} {listed : Array Bool} {a : Act} {w : World} (hi : ops[i]? = some oi)
    (hs : Region.noSelect ops = true) (hf : Region.free md ops listed i = true) (hr : (Region.ready md ops listed).contains i = true)
    (hw : (shutB md ops listed && (waitsB md ops z b && (pathB md ops b p && decide ((b :: p).getLast? = some i)))) = true)
    (hQ : ∀ c a w, Q (.panic c) (a.put oi.dst v) w → Q (.panic c) a w) (hS : S w) (hwant : Region.wanted oi (yielded ops a.tmps) = true) (hy : ∀ w, S w → (execOp a.eval oi).run P w = .ok (.value v) w)
    (h : wpAnyT P md ops Q S z fuel (listed.setIfInBounds i true) (a.put oi.dst v) w) : wpAnyT P md ops Q S z (fuel + 1) listed a w := by
  simp only [Bool.and_eq_true, decide_eq_true_eq] at hw
  exact anyT_first hi (Region.noSelect_spec hs) hQ hw.2.1 hw.2.2.1 hw.2.2.2 fuel listed a w (shut_of hw.1) (Region.free_spec hi hf) (by simpa using hr) (.inl ⟨hwant, hy⟩) hS h
/-- One operation alone may come up. -/
theorem anyT_one {i : Nat} {oi : Oper} {fuel : Nat} {listed : Array Bool} {a : Act} {w : World} (hr : Region.ready md ops listed = [i]) (hi : ops[i]? = some oi) (hwant : Region.wanted oi (yielded ops a.tmps) = true)
    (h : oi.wp P a w (fun a' w' => (i ≠ z → S w') ∧ wpAnyT P md ops Q S z fuel (listed.setIfInBounds i true) a' w') Q) : wpAnyT P md ops Q S z (fuel + 1) listed a w := by
  refine ⟨fun h0 => (by rw [hr] at h0; cases h0), fun j hj => ?_⟩
  rw [hr] at hj
  obtain rfl : j = i := by simpa using hj
  unfold wpOp
  simp only [hi, hwant, if_true]
  exact .inl h
/-- The same, what follows behind a variable. -/
theorem anyT_one' {i : Nat} {oi : Oper} {fuel : Nat} {listed : Array Bool} {a : Act} {w : World} (hr : Region.ready md ops listed = [i]) (hi : ops[i]? = some oi) (hwant : Region.wanted oi (yielded ops a.tmps) = true)
    (h : ∀ K : Act → World → Prop, (∀ a' w', (i ≠ z → S w') → wpAnyT P md ops Q S z fuel (listed.setIfInBounds i true) a' w' → K a' w') → oi.wp P a w K Q) : wpAnyT P md ops Q S z (fuel + 1) listed a w :=
  anyT_one hr hi hwant (h _ fun _ _ h1 h2 => ⟨h1, h2⟩)
theorem anyT_done {listed : Array Bool} {a : Act} {w : World} (hr : Region.ready md ops listed = []) (h : Q .normal a w) (fuel : Nat) : wpAnyT P md ops Q S z fuel listed a w := by
  cases fuel with
  | zero => exact ⟨hr, h⟩
  | succ _ => exact ⟨fun _ => h, by rw [hr]; simp⟩
theorem wp_region_T {id : Nat} {a : Act} {w : World} {l : List Oper} (hm : P.follows .mixedOrders = true)
    (h : wpAnyT P .any l.toArray Q S z l.length (Array.replicate l.length false) a w.drew) : (Code.region id l.toArray true).wp P Q a w :=
  wp_region_any hm (any_of_T _ _ _ _ (by simpa using h))
end
end Go.Proofs.YtjgcjnkeeiaafaaGreatDoor.B

namespace Go.Proofs.YtjgcjnkeeiaafaaGreatDoor.B
open Go
section
variable {P : Program} {ops : Array Oper} {Q : Exit → Act → World → Prop} {md : Region.Mode} {S : World → Prop} {z : Nat}
theorem anyT_firstU {i : Nat} {oi : Oper} {v : Value} (hz : ops.size ≤ z) (hi : ops[i]? = some oi) (hsel : ∀ (j : Nat) (o : Oper) cs b, ops[j]? = some o → o.op ≠ .select cs b)
    (hQ : ∀ c a w, Q (.panic c) (a.put oi.dst v) w → Q (.panic c) a w) :
    ∀ (fuel : Nat) (listed : Array Bool) (a : Act) (w : World),
      (∀ j oj, ops[j]? = some oj → j ≠ i → listed.getD j true = false → (∀ e ∈ oj.after, Region.binds md e = true → e.on ≠ i) → oi.apart ops oj = true) →
      i ∈ Region.ready md ops listed → YieldsIf P ops S oi v a → S w →
      wpAnyT P md ops Q S z fuel (listed.setIfInBounds i true) (a.put oi.dst v) w → wpAnyT P md ops Q S z (fuel + 1) listed a w
  | fuel, listed, a, w, hfree, hr, hy, hS, H => by
    refine ⟨fun h => (by rw [h] at hr; cases hr), fun j hj => ?_⟩
    by_cases hji : j = i
    · subst hji; exact hy.wpOp hi hS ⟨fun _ => hS, H⟩
    have hun := (mem_ready.1 hr).1
    cases fuel with
    | zero =>
      have := ready_mono hj hji
      rw [H.1] at this
      cases this
    | succ fuel =>
      have h1 := H.2 j (ready_mono hj hji)
      obtain ⟨hjun, oj, hoj, hall⟩ := mem_ready.1 hj
      have hnot : ∀ e ∈ oj.after, Region.binds md e = true → e.on ≠ i := fun e he hb heq => by
        have h2 := hall e he hb
        rw [heq, not_listed hun] at h2
        cases h2
      have hjz : j ≠ z := by
        have := (Array.getElem?_eq_some_iff.1 hoj).1
        omega
      have h2 := wpOp_putIf hoj (hfree j oj hoj hji hjun hnot) (fun cs b => hsel i oi cs b hi) (fun cs b => hsel j oj cs b hoj) hQ hy h1
      refine wpOp_mono (fun a' w' h3 => ⟨fun _ => h3.2.1 hjz, anyT_firstU hz hi hsel hQ fuel (listed.setIfInBounds j true) a' w' (fun k ok hk hki hun' hno => ?_) (ready_mono hr (Ne.symm hji)) h3.1 (h3.2.1 hjz) ?_⟩) h2
      · refine hfree k ok hk hki ?_ hno
        by_cases hjk : j = k
        · subst hjk; exact hjun
        · rw [getD_set_ne true hjk] at hun'; exact hun'
      · rw [Array.setIfInBounds_comm _ _ hji]
        exact h3.2.2
/-- Number i may be taken first, where each operation leaves what is read as it was. -/
theorem anyT_takeU {i : Nat} {oi : Oper} {v : Value} {fuel : Nat} {listed : Array Bool} {a : Act} {w : World} (hz : ops.size ≤ z) (hi : ops[i]? = some oi)
    (hs : Region.noSelect ops = true) (hf : Region.free md ops listed i = true) (hr : (Region.ready md ops listed).contains i = true)
    (hQ : ∀ c a w, Q (.panic c) (a.put oi.dst v) w → Q (.panic c) a w) (hS : S w) (hwant : Region.wanted oi (yielded ops a.tmps) = true) (hy : ∀ w, S w → (execOp a.eval oi).run P w = .ok (.value v) w)
    (h : wpAnyT P md ops Q S z fuel (listed.setIfInBounds i true) (a.put oi.dst v) w) : wpAnyT P md ops Q S z (fuel + 1) listed a w :=
  anyT_firstU hz hi (Region.noSelect_spec hs) hQ fuel listed a w (Region.free_spec hi hf) (by simpa using hr) (.inl ⟨hwant, hy⟩) hS h
end
end Go.Proofs.YtjgcjnkeeiaafaaGreatDoor.B
