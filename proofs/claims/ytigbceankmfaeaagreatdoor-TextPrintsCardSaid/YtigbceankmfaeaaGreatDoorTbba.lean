/-
  Contract of a statement's user.
-/
import Derived.Test.YtigbceankmfaeaaGreatDoorTbaj
namespace Go.Proofs.YtigbceankmfaeaaGreatDoor.P3.C
open Go.RowKit Go.Shelf Go.Proofs.YtigbceankmfaeaaGreatDoor.B Go.Proofs.YtigbceankmfaeaaGreatDoor.Lx Go.Proofs.YtigbceankmfaeaaGreatDoor.P3
theorem roles_yes {l : List B3} {n : Nat} {s : RS} (h : seeB l [110] s = true) : rolesS l (n + 1) s = ((rolesS l n (mayS l [110] s)).1, takT l [110] s :: (rolesS l n (mayS l [110] s)).2) := by rw [rolesS, if_pos h]
theorem roles_no {l : List B3} {n : Nat} {s : RS} (h : seeB l [110] s = false) : rolesS l n s = (s, []) := by
  cases n with
  | zero => rfl
  | succ n => rw [rolesS, h]; rfl
theorem info_str : (Tryz.prog.info? 9).map (fun i => (i.zero, i.size, i.bytes)) = some (some (.string ⟨#[]⟩), 1, 16) := by kernel_rfl
/-- How far the reading is from its end. -/
def usM (b n : Nat) (okv : Value) (wr : World) : Nat := 2 * (n - (intOf ((wr.cell? ⟨b, 1, none⟩).getD (.int .i64 0))).toNat) + (match okv with | .bool true => 1 | _ => 0)
theorem usM_is {W0 W : World} {b : Nat} {A : Option Addr} {c : Nat} {T : List Tok} {s : RS} {z0 z1 z2 z3 : Value} (h : RD W0 b A c T s z0 z1 z2 z3 W) (q : Bool) : usM b T.length (.bool q) W = 2 * (T.length - s.1) + (if q then 1 else 0) := by
  unfold usM
  rw [h.c0.2.1]
  cases q <;> simp [intOf]
section
variable {W0 W W1 W2 : World} {b : Nat} {A : Option Addr} {c : Nat} {T : List Tok} {s s' : RS} {z0 z1 z2 z3 : Value}
/-- The user's box, and its roles in a row of the call's own. -/
structure UB (W W0 : World) (b : Nat) (A : Option Addr) (c : Nat) (T : List Tok) (s : RS) (z0 z1 z2 z3 : Value) (p : Nat) (n m : Value) (v : Value) (acc : List (List UInt8)) (W1 : World) : Prop where
  p : PB 51 W W0 b A c T s z0 z1 z2 z3 p #[n, v, m] W1
  o : W1.ownsRow W.heap.size 9 1 v acc.length (acc.map sb)
theorem UB.call {p : Nat} {n m v : Value} {acc : List (List UInt8)} (h : UB W W0 b A c T s z0 z1 z2 z3 p n m v acc W1) (hr : RD W0 b A c T s' z0 z1 z2 z3 W2) (hg : W1.grownBy W2 (some b)) : UB W W0 b A c T s' z0 z1 z2 z3 p n m v acc W2 :=
  ⟨h.p.call hr hg, h.o.kept hg (.inr (own_far h.o h.p.r.f (by decide)))⟩
theorem UB.alloc {p : Nat} {n m v : Value} {acc : List (List UInt8)} (h : UB W W0 b A c T s z0 z1 z2 z3 p n m v acc W1) (o : Obj) : UB W W0 b A c T s z0 z1 z2 z3 p n m v acc (W1.alloc o) :=
  h.call (h.p.r.call ((Below.refl _ _).alloc (Nat.le_refl _) _)) (World.grownBy_alloc _ _ _)
theorem UB.mid {p : Nat} {n m v : Value} {acc : List (List UInt8)} (h : UB W W0 b A c T s z0 z1 z2 z3 p n m v acc W1) (hg : W1.grownBy W2 v.ownBlock) : PB 51 W W0 b A c T s z0 z1 z2 z3 p #[n, v, m] W2 := by
  have hvb := own_far h.o h.p.r.f (by decide)
  have hvp := own_far h.o h.p.x (by decide)
  have hge : ∀ q, v.ownBlock = some q → W.heap.size ≤ q := fun q hq => (h.o.lt q hq).1
  have hr2 : RD W0 b A c T s z0 z1 z2 z3 W2 := ⟨(hg.block b h.p.r.lt (fun e => hvb e.symm)).trans h.p.r.f, h.p.r.l.grown hg h.p.r.l.size (fun q hq => Nat.le_trans h.p.h0 (hge q hq)), h.p.r.hb, h.p.r.le⟩
  exact ⟨hr2, (hg.block p h.p.lt (fun e => hvp e.symm)).trans h.p.x, h.p.g.andThen hg (fun j hj => .inl (hge j hj)), h.p.hp, h.p.hb, h.p.h0⟩
/-- A role has been put behind, and the row stored back. -/
theorem UB.put {p : Nat} {n m v v' : Value} {acc : List (List UInt8)} {x : List UInt8} (h : UB W W0 b A c T s z0 z1 z2 z3 p n m v acc W1) (ho : W2.ownsRow W.heap.size 9 1 v' (acc.length + 1) (acc.map sb ++ [sb x])) (hg : W1.grownBy W2 v.ownBlock) :
    UB W W0 b A c T s z0 z1 z2 z3 p n m v' (acc ++ [x]) (W2.setCell ⟨p, 1, none⟩ v') := by
  have hp2 := h.mid hg
  refine ⟨hp2.set 1 v', ?_⟩
  rw [List.length_append, List.length_singleton, List.map_append]
  exact ho.kept (grown_set W2 p 1 v') (.inr (own_far ho hp2.x (by decide)))
end
/-- A statement's user has been read. -/
def UsP (W0 : World) (b : Nat) (A : Option Addr) (c : Nat) (T : List Tok) (s' : RS) (v : UsV) (z0 z1 z2 : Value) (W : World) (e : Ending) (w' : World) : Prop :=
  e = .returned (.tuple #[]) ∧ ∃ g r, RD W0 b A c T s' z0 z1 z2 (one1 g) w' ∧ w'.heap[g]? = some (.cells #[sb v.name, r, sb v.sub] 51 (0, 0)) ∧ w'.ownsRow W.heap.size 9 1 r v.roles.length (v.roles.map sb) ∧ W.heap.size ≤ g ∧ W.grownBy w' (some b)
section
variable {W0 W : World} {b : Nat} {A : Option Addr} {c : Nat} {T : List Tok} {z0 z1 z2 z3 : Value}
set_option maxRecDepth 100000 in
set_option maxHeartbeats 8000000 in
theorem user_any (h : RD W0 b A c T (1, false) z0 z1 z2 z3 W) (hR : Row W0 A (rowC T)) (hTl : T.length ≤ 1000000) :
    Calls Tryz.prog 71 #[.pointer (some ⟨b, 0, none⟩)] W (UsP W0 b A c T (usS (T.map bare)) (usV (T.map bare)) z0 z1 z2 W) := by
  obtain ⟨i0, hi0, hi1, hi2, hi3⟩ := info_parts info_str
  have hlb := h.lt
  have hz0 := h.l.size
  have HN : Hid (Calls Tryz.prog 109 #[.pointer (some ⟨b, 0, none⟩)] W (MP W0 b A c T (sb (usV (T.map bare)).name) (mustS (T.map bare) [110] (1, false)) z0 z1 z2 z3 W)) := Lib.hid (name_any h hR hTl)
  have HMY := Lib.hid (fun (W1 : World) (h1 : RD W0 b A c T (mustS (T.map bare) [110] (1, false)) z0 z1 z2 z3 W1) => may_any h1 hR hTl ⟨#[114, 111, 108, 101, 115]⟩ kRoles (kw_of _) (by decide))
  have HMU := fun (W1 : World) (h1 : RD W0 b A c T (mayS (T.map bare) kRoles (mustS (T.map bare) [110] (1, false))) z0 z1 z2 z3 W1) => must_any h1 (seeB (T.map bare) kRoles (mustS (T.map bare) [110] (1, false)))
  rw [must_see] at HMU
  replace HMU : Hid (∀ W1 : World, RD W0 b A c T (mayS (T.map bare) kRoles (mustS (T.map bare) [110] (1, false))) z0 z1 z2 z3 W1 → Calls Tryz.prog 111 #[.pointer (some ⟨b, 0, none⟩), .bool (seeB (T.map bare) kRoles (mustS (T.map bare) [110] (1, false)))] W1 (MP W0 b A c T (.tuple #[]) (us1 (T.map bare)) z0 z1 z2 z3 W1)) := Lib.hid HMU
  have HMN : Hid (∀ (s : RS) (W1 : World), RD W0 b A c T s z0 z1 z2 z3 W1 → Calls Tryz.prog 113 #[.pointer (some ⟨b, 0, none⟩)] W1 (MP W0 b A c T (.tuple #[sb (takT (T.map bare) [110] s), .bool (seeB (T.map bare) [110] s)]) (mayS (T.map bare) [110] s) z0 z1 z2 z3 W1)) := Lib.hid (fun s W1 h1 => mayName_any h1 hR hTl)
  have HO : Hid (∀ W1 : World, RD W0 b A c T (us2 (T.map bare)).1 z0 z1 z2 z3 W1 → Calls Tryz.prog 110 #[.pointer (some ⟨b, 0, none⟩), .string ⟨#[115, 117, 98]⟩] W1 (MP W0 b A c T (sb (usV (T.map bare)).sub) (usS (T.map bare)) z0 z1 z2 z3 W1)) := Lib.hid (fun W1 h1 => option_any h1 hR hTl ⟨#[115, 117, 98]⟩ kSub (kw_of _) (by decide))
  have HV : Hid ((usV (T.map bare)).roles = (us2 (T.map bare)).2) := Lib.hid rfl
  have HU2 : Hid (us2 (T.map bare) = rolesS (T.map bare) T.length (us1 (T.map bare))) := Lib.hid (by unfold us2; rw [List.length_map])
  have HRY : Hid (∀ (n : Nat) (s : RS), seeB (T.map bare) [110] s = true → rolesS (T.map bare) (n + 1) s = ((rolesS (T.map bare) n (mayS (T.map bare) [110] s)).1, takT (T.map bare) [110] s :: (rolesS (T.map bare) n (mayS (T.map bare) [110] s)).2)) := Lib.hid (fun n s hh => roles_yes hh)
  have HRN : Hid (∀ (n : Nat) (s : RS), seeB (T.map bare) [110] s = false → rolesS (T.map bare) n s = (s, [])) := Lib.hid (fun n s hh => roles_no hh)
  have HLT : Hid (∀ s : RS, seeB (T.map bare) [110] s = true → s.1 < T.length ∧ mayS (T.map bare) [110] s = (s.1 + 1, s.2)) := Lib.hid (fun s hh => ⟨see_lt hh, may_yes hh⟩)
  have HMO : Hid (∀ s : RS, seeB (T.map bare) [110] s = false → mayS (T.map bare) [110] s = s) := Lib.hid (fun s hh => may_no hh)
  clear h hR
  generalize usV (T.map bare) = uv at *
  generalize usS (T.map bare) = s9 at *
  generalize us2 (T.map bare) = u2 at *
  generalize us1 (T.map bare) = s1 at *
  generalize seeB (T.map bare) kRoles (mustS (T.map bare) [110] (1, false)) = q0 at *
  generalize mayS (T.map bare) kRoles (mustS (T.map bare) [110] (1, false)) = sr at *
  generalize mustS (T.map bare) [110] (1, false) = s0 at *
  generalize T.map bare = L at *
  go_enter Tryz.func71, Tryz.ntmps71
  go_wp2_with fail
  refine HN.out.mono ?_
  rintro e w1 ⟨rfl, h1, g1⟩
  have P := Lib.hid (PB.start h1 g1 hlb hz0 #[sb uv.name, .slice none 0 0, .string ⟨#[]⟩] 51)
  have hp1 := g1.size
  clear h1 g1 HN
  go_wp2_with fail
  replace P := Lib.hid P.out.drew
  refine wp_region_T (S := fun _ => True) (z := 8) (by kernel_rfl) ?_
  refine anyT_takeU (i := 0) (v := ?_) (by decide) rfl (by kernel_rfl) (by kernel_rfl) (by kernel_rfl) (fun _ _ _ h => h) trivial (by rfl) ?_ ?_
  rotate_left
  · intro W9 _
    go_simp
    try with_reducible rfl
  simp only [Act.put, List.setIfInBounds_toArray]
  try simp only [List.set_cons_zero, List.set_cons_succ]
  try simp only [List.getElem_toArray]
  repeat (first | simp only [List.getElem_cons_zero] | simp only [List.getElem_cons_succ])
  refine anyT_takeU (i := 1) (v := ?_) (by decide) rfl (by kernel_rfl) (by kernel_rfl) (by kernel_rfl) (fun _ _ _ h => h) trivial (by rfl) ?_ ?_
  rotate_left
  · intro W9 _
    go_simp
    try with_reducible rfl
  simp only [Act.put, List.setIfInBounds_toArray]
  try simp only [List.set_cons_zero, List.set_cons_succ]
  try simp only [List.getElem_toArray]
  repeat (first | simp only [List.getElem_cons_zero] | simp only [List.getElem_cons_succ])
  refine anyT_takeU (i := 2) (v := ?_) (by decide) rfl (by kernel_rfl) (by kernel_rfl) (by kernel_rfl) (fun _ _ _ h => h) trivial (by rfl) ?_ ?_
  rotate_left
  · intro W9 _
    go_simp
    try with_reducible rfl
  simp only [Act.put, List.setIfInBounds_toArray]
  try simp only [List.set_cons_zero, List.set_cons_succ]
  try simp only [List.getElem_toArray]
  repeat (first | simp only [List.getElem_cons_zero] | simp only [List.getElem_cons_succ])
  refine anyT_takeU (i := 3) (v := ?_) (by decide) rfl (by kernel_rfl) (by kernel_rfl) (by kernel_rfl) (fun _ _ _ h => h) trivial (by rfl) ?_ ?_
  rotate_left
  · intro W9 _
    go_simp
    try with_reducible rfl
  simp only [Act.put, List.setIfInBounds_toArray]
  try simp only [List.set_cons_zero, List.set_cons_succ]
  try simp only [List.getElem_toArray]
  repeat (first | simp only [List.getElem_cons_zero] | simp only [List.getElem_cons_succ])
  refine anyT_takeU (i := 4) (v := ?_) (by decide) rfl (by kernel_rfl) (by kernel_rfl) (by kernel_rfl) (fun _ _ _ h => h) trivial (by rfl) ?_ ?_
  rotate_left
  · intro W9 _
    go_simp
    try with_reducible rfl
  simp only [Act.put, List.setIfInBounds_toArray]
  try simp only [List.set_cons_zero, List.set_cons_succ]
  try simp only [List.getElem_toArray]
  repeat (first | simp only [List.getElem_cons_zero] | simp only [List.getElem_cons_succ])
  refine anyT_takeU (i := 5) (v := ?_) (by decide) rfl (by kernel_rfl) (by kernel_rfl) (by kernel_rfl) (fun _ _ _ h => h) trivial (by rfl) ?_ ?_
  rotate_left
  · intro W9 _
    go_simp
    try with_reducible rfl
  simp only [Act.put, List.setIfInBounds_toArray]
  try simp only [List.set_cons_zero, List.set_cons_succ]
  try simp only [List.getElem_toArray]
  repeat (first | simp only [List.getElem_cons_zero] | simp only [List.getElem_cons_succ])
  have HC := Lib.hid (HMY.out _ P.out.r)
  refine anyT_one' (i := 6) (by kernel_rfl) rfl (by rfl) (fun K hK => ?_)
  have HK := Lib.hid hK
  clear hK
  unfold Oper.wp
  go_simp
  refine (HC.out).mono ?_
  rintro e w9 ⟨rfl, h2, g2⟩
  replace P := Lib.hid (P.out.call h2 g2)
  clear h2 g2 HC
  refine HK.out _ _ (fun _ => trivial) ?_
  clear HK K
  have HC := Lib.hid (HMU.out _ P.out.r)
  refine anyT_one' (i := 7) (by kernel_rfl) rfl (by rfl) (fun K hK => ?_)
  have HK := Lib.hid hK
  clear hK
  unfold Oper.wp
  go_simp
  refine (HC.out).mono ?_
  rintro e w9 ⟨rfl, h2, g2⟩
  replace P := Lib.hid (P.out.call h2 g2)
  clear h2 g2 HC
  refine HK.out _ _ (fun _ => trivial) ?_
  clear HK K
  refine anyT_done (by kernel_rfl) ?_ _
  go_wp2_with fail
  have HC := Lib.hid (HMN.out s1 _ P.out.r)
  refine HC.out.mono ?_
  rintro e w2 ⟨rfl, h2, g2⟩
  have U0 : Hid (UB W W0 b A c T (mayS L [110] s1) z0 z1 z2 z3 w1.heap.size (sb uv.name) (.string ⟨#[]⟩) (.slice none 0 0) [] w2) := Lib.hid ⟨P.out.call h2 g2, World.ownsRow_nil _ _ _ _⟩
  clear h2 g2 HC P HMY HMU
  go_wp2_with fail
  go_loopw [3, 4] (fun rv okv wr => ∃ (s : RS) (acc : List (List UInt8)) (v : Value) (n : Nat), rv = sb (takT L [110] s) ∧ okv = .bool (seeB L [110] s) ∧ Hid (u2 = ((rolesS L n s).1, acc ++ (rolesS L n s).2)) ∧ T.length ≤ n + s.1 ∧ acc.length ≤ s.1 ∧ Hid (UB W W0 b A c T (mayS L [110] s) z0 z1 z2 z3 w1.heap.size (sb uv.name) (.string ⟨#[]⟩) v acc wr)) (fun _ okv wr => usM b T.length okv wr)
  case atStart => exact ⟨s1, [], _, T.length, rfl, rfl, Lib.hid (by rw [HU2.out]; rfl), by omega, Nat.zero_le _, U0⟩
  case round =>
    clear U0 HU2
    obtain ⟨s, acc, v, n, rfl, rfl, HE, hn, hac, UU⟩ := hrel
    obtain ⟨wo, rfl⟩ : ∃ wo, wo = wr := ⟨wr, rfl⟩
    obtain ⟨va, vc, rfl⟩ := Go.Proofs.YtigbceankmfaeaaGreatDoor.B.own_slice UU.out.o
    cases hq : seeB L [110] s with
    | true =>
      obtain ⟨hlt, hms⟩ := HLT.out s hq
      obtain ⟨n', rfl⟩ : ∃ n', n = n' + 1 := ⟨n - 1, by omega⟩
      have HE2 : Hid (u2 = ((rolesS L n' (mayS L [110] s)).1, (acc ++ [takT L [110] s]) ++ (rolesS L n' (mayS L [110] s)).2)) := Lib.hid (by rw [HE.out, HRY.out n' s hq]; simp)
      have HMS : Hid (usM b T.length (.bool true) wo = 2 * (T.length - (s.1 + 1)) + 1) := Lib.hid (by rw [usM_is UU.out.p.r, hms]; rfl)
      have hsz : s.1 + 1 = (mayS L [110] s).1 := by rw [hms]
      have p1 := UU.out.p.cell (i := 1) rfl
      have f1 := UU.out.p.fz 1
      have lp := UU.out.p.lt
      clear hq hms HE
      generalize takT L [110] s = x at *
      generalize mayS L [110] s = s2 at *
      go_wp2_with (at_builtin; refine wpList_append_own_at _ rfl (.tmp 34) (.tmp 36) 49 rfl W.heap.size 9 i0 _ 1 16 Tryz.underlying49 hi0 hi1 hi2 hi3 rfl (by omega) _ _ _ rfl (UU.out.o.alloc _) ⟨wo.heap.size, 0, none⟩ 1 1 [sb x] rfl rfl ?c1 ?c2 ?c3 ?c4 ?c5 ?_)
      case c1 =>
        intro j u hj
        have hn := heap_new wo (.cells #[sb x] 9)
        match j, hj with
        | 0, hj => cases hj; exact cell_blk hn rfl
      case c2 => intro u hu; simp at hu; rw [hu]; rfl
      case c3 => unfold maxLen; omega
      case c4 => omega
      case c5 => have := UU.out.p.g.size; rw [World.size_alloc]; omega
      intro v1 w4 hown' hgrow _ hat
      obtain ⟨pa, pc, rfl⟩ := Go.Proofs.YtigbceankmfaeaaGreatDoor.B.own_slice hown'
      have hmid := (UU.out.alloc (.cells #[sb x] 9)).mid hgrow
      have p2 := hmid.cell (i := 1) rfl
      have f2 := hmid.fz 1
      have lp2 := hmid.lt
      have U1 := Lib.hid ((UU.out.alloc (.cells #[sb x] 9)).put hown' hgrow)
      have HC := Lib.hid (HMN.out s2 _ U1.out.p.r)
      clear hown' hgrow hat UU p1 f1 lp hmid
      go_wp2_with fail
      refine HC.out.mono ?_
      rintro e w5 ⟨rfl, h2, g2⟩
      have U2 := Lib.hid (U1.out.call h2 g2)
      have HMS2 : Hid (∀ q : Bool, seeB L [110] s2 = q → usM b T.length (.bool q) w5 < 2 * (T.length - (s.1 + 1)) + 1) := Lib.hid (fun q hq => by
        rw [usM_is U2.out.p.r]
        cases q with
        | true =>
          obtain ⟨a1, a2⟩ := HLT.out s2 hq
          rw [a2]
          simp only [if_true]
          omega
        | false =>
          rw [HMO.out s2 hq]
          simp only [Bool.false_eq_true, if_false]
          omega)
      clear h2 g2 HC U1 p2 f2 lp2
      go_wp2_with fail
      go_roundw
      case rel => exact ⟨s2, acc ++ [x], _, n', rfl, rfl, HE2, by omega, by rw [List.length_append, List.length_singleton]; omega, U2⟩
      case measure => rw [HMS.out]; exact HMS2.out _ rfl
    | false =>
      have HF : Hid (u2.1 = s ∧ u2.2 = acc) := Lib.hid (by rw [HE.out, HRN.out n s hq]; simp)
      have hms := HMO.out s hq
      rw [hms, ← HF.out.1] at UU
      have HC := Lib.hid (HO.out _ UU.out.p.r)
      clear hq hms HE HMN HRY HRN HLT HMO HO
      go_wp2_with fail
      refine HC.out.mono ?_
      rintro e w5 ⟨rfl, h2, g2⟩
      have U2 := Lib.hid (UU.out.call h2 g2)
      have P := Lib.hid U2.out.p
      clear h2 g2 HC UU
      have p0 := P.out.cell (i := 0) rfl
      have p1 := P.out.cell (i := 1) rfl
      have p2 := P.out.cell (i := 2) rfl
      have f0 := P.out.fz 0
      have f1 := P.out.fz 1
      have f2 := P.out.fz 2
      have lp := P.out.lt
      have fb := P.out.r.fz 6
      obtain ⟨⟨y0, y1⟩, y2, y3⟩ := P.out.r.c3
      have lb := P.out.r.lt
      have hne := P.out.ne
      have hne2 := P.out.ne.symm

      have P2 : Hid (PB _ W W0 b A c T s9 z0 z1 z2 z3 w1.heap.size #[sb uv.name, .slice va acc.length vc, sb uv.sub] _) := Lib.hid (P.out.set 2 (sb uv.sub))
      have HX : Hid (uv.roles = acc) := Lib.hid (by rw [HV.out, HF.out.2])
      have O2 := Lib.hid (U2.out.o.kept (grown_set w5 w1.heap.size 2 (sb uv.sub)) (.inr (own_far U2.out.o U2.out.p.x (by decide))))
      clear U2 HV HF
      go_wp2_with fail
      go_end0
      have O3 := O2.out.kept (grown_set _ b 6 (one1 w5.heap.size)) (.inr (own_far O2.out P2.out.r.f (by decide)))
      exact ⟨rfl, w5.heap.size, _, (P2.out.r.p3 (one1 w5.heap.size)).call ((Below.refl _ _).alloc (Nat.le_refl _) _), heap_new' (by simp), by rw [HX.out]; exact O3.alloc _, by have := P.out.g.size; omega, (grown_here P2.out.g).trans (World.grownBy_alloc _ _ _)⟩
end
end Go.Proofs.YtigbceankmfaeaaGreatDoor.P3.C
