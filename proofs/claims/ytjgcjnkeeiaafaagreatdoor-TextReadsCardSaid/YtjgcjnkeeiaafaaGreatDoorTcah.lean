/-
  Contract of a statement's user. Contracts of Print's words: option, groupWords, and of a line's tokens. The library's contract of strconv.Itoa, laid at this program's numbers.
-/
import Derived.Test.YtjgcjnkeeiaafaaGreatDoorTcag
import Derived.Shelf.Strconv.Itoa3
import Derived.Shelf.LaysM
import Derived.Test.YtjgcjnkeeiaafaaGreatDoorProg
namespace Go.Proofs.YtjgcjnkeeiaafaaGreatDoor.P3.C
open Go.RowKit Go.Shelf Go.Proofs.YtjgcjnkeeiaafaaGreatDoor.B Go.Proofs.YtjgcjnkeeiaafaaGreatDoor.Lx Go.Proofs.YtjgcjnkeeiaafaaGreatDoor.P3
theorem roles_yes {l : List B3} {n : Nat} {s : RS} (h : seeB l [110] s = true) : rolesS l (n + 1) s = ((rolesS l n (mayS l [110] s)).1, takT l [110] s :: (rolesS l n (mayS l [110] s)).2) := by rw [rolesS, if_pos h]
theorem roles_no {l : List B3} {n : Nat} {s : RS} (h : seeB l [110] s = false) : rolesS l n s = (s, []) := by
  cases n with
  | zero => rfl
  | succ n => rw [rolesS, h]; rfl
theorem info_str : (Tryz.prog.info? 9).map (fun i => (i.zero, i.size, i.bytes)) = some (some (.string ⟨#[]⟩), 1, 16) := by kernel_rfl
/-- How far the reading is from its end. -/
def usM (b n : Nat) (okv : Value) (wr : World) : Nat := 2 * (n - (intOf ((wr.cell? ⟨b, 1, none⟩).getD (.int .i64 0))).toNat) + (match okv with | .bool true => 1 | _ => 0)
theorem usM_is {W0 W : World} {b : Nat} {A : Option Addr} {c : Nat} {T : List Tok} {s : RS} {z0 z1 z2 z3 : Value} (h : RD W0 b A c T s z0 z1 z2 z3 W) (q : Bool) : usM b T.length (.bool q) W = 2 * (T.length - s.1) + (if q then 1 else 0) := by
  unfold usM
  rw [h.c0.2.1]
  cases q <;> simp [intOf]
section
variable {W0 W W1 W2 : World} {b : Nat} {A : Option Addr} {c : Nat} {T : List Tok} {s s' : RS} {z0 z1 z2 z3 : Value}
/-- The user's box, and its roles in a row of the call's own. -/
structure UB (W W0 : World) (b : Nat) (A : Option Addr) (c : Nat) (T : List Tok) (s : RS) (z0 z1 z2 z3 : Value) (p : Nat) (n m : Value) (v : Value) (acc : List (List UInt8)) (W1 : World) : Prop where
  p : PB 74 W W0 b A c T s z0 z1 z2 z3 p #[n, v, m] W1
  o : W1.ownsRow W.heap.size 9 1 v acc.length (acc.map sb)
theorem UB.call {p : Nat} {n m v : Value} {acc : List (List UInt8)} (h : UB W W0 b A c T s z0 z1 z2 z3 p n m v acc W1) (hr : RD W0 b A c T s' z0 z1 z2 z3 W2) (hg : W1.grownBy W2 (some b)) : UB W W0 b A c T s' z0 z1 z2 z3 p n m v acc W2 :=
  ⟨h.p.call hr hg, h.o.kept hg (.inr (own_far h.o h.p.r.f (by decide)))⟩
theorem UB.alloc {p : Nat} {n m v : Value} {acc : List (List UInt8)} (h : UB W W0 b A c T s z0 z1 z2 z3 p n m v acc W1) (o : Obj) : UB W W0 b A c T s z0 z1 z2 z3 p n m v acc (W1.alloc o) :=
  h.call (h.p.r.call ((Below.refl _ _).alloc (Nat.le_refl _) _)) (World.grownBy_alloc _ _ _)
theorem UB.mid {p : Nat} {n m v : Value} {acc : List (List UInt8)} (h : UB W W0 b A c T s z0 z1 z2 z3 p n m v acc W1) (hg : W1.grownBy W2 v.ownBlock) : PB 74 W W0 b A c T s z0 z1 z2 z3 p #[n, v, m] W2 := by
  have hvb := own_far h.o h.p.r.f (by decide)
  have hvp := own_far h.o h.p.x (by decide)
  have hge : ∀ q, v.ownBlock = some q → W.heap.size ≤ q := fun q hq => (h.o.lt q hq).1
  have hr2 : RD W0 b A c T s z0 z1 z2 z3 W2 := ⟨(hg.block b h.p.r.lt (fun e => hvb e.symm)).trans h.p.r.f, h.p.r.l.grown hg h.p.r.l.size (fun q hq => Nat.le_trans h.p.h0 (hge q hq)), h.p.r.hb, h.p.r.le⟩
  exact ⟨hr2, (hg.block p h.p.lt (fun e => hvp e.symm)).trans h.p.x, h.p.g.andThen hg (fun j hj => .inl (hge j hj)), h.p.hp, h.p.hb, h.p.h0⟩
/-- A role has been put behind, and the row stored back. -/
theorem UB.put {p : Nat} {n m v v' : Value} {acc : List (List UInt8)} {x : List UInt8} (h : UB W W0 b A c T s z0 z1 z2 z3 p n m v acc W1) (ho : W2.ownsRow W.heap.size 9 1 v' (acc.length + 1) (acc.map sb ++ [sb x])) (hg : W1.grownBy W2 v.ownBlock) :
    UB W W0 b A c T s z0 z1 z2 z3 p n m v' (acc ++ [x]) (W2.setCell ⟨p, 1, none⟩ v') := by
  have hp2 := h.mid hg
  refine ⟨hp2.set 1 v', ?_⟩
  rw [List.length_append, List.length_singleton, List.map_append]
  exact ho.kept (grown_set W2 p 1 v') (.inr (own_far ho hp2.x (by decide)))
end
/-- A statement's user has been read. -/
def UsP (W0 : World) (b : Nat) (A : Option Addr) (c : Nat) (T : List Tok) (s' : RS) (v : UsV) (z0 z1 z2 : Value) (W : World) (e : Ending) (w' : World) : Prop :=
  e = .returned (.tuple #[]) ∧ ∃ g r, RD W0 b A c T s' z0 z1 z2 (one1 g) w' ∧ w'.heap[g]? = some (.cells #[sb v.name, r, sb v.sub] 74 (0, 0)) ∧ w'.ownsRow W.heap.size 9 1 r v.roles.length (v.roles.map sb) ∧ W.heap.size ≤ g ∧ W.grownBy w' (some b)
section
variable {W0 W : World} {b : Nat} {A : Option Addr} {c : Nat} {T : List Tok} {z0 z1 z2 z3 : Value}
set_option maxRecDepth 100000 in
set_option maxHeartbeats 8000000 in
theorem user_any (h : RD W0 b A c T (1, false) z0 z1 z2 z3 W) (hR : Row W0 A (rowC T)) (hTl : T.length ≤ 1000000) :
    Calls Tryz.prog 58 #[.pointer (some ⟨b, 0, none⟩)] W (UsP W0 b A c T (usS (T.map bare)) (usV (T.map bare)) z0 z1 z2 W) := by
  obtain ⟨i0, hi0, hi1, hi2, hi3⟩ := info_parts info_str
  have hlb := h.lt
  have hz0 := h.l.size
  have HN : Hid (Calls Tryz.prog 96 #[.pointer (some ⟨b, 0, none⟩)] W (MP W0 b A c T (sb (usV (T.map bare)).name) (mustS (T.map bare) [110] (1, false)) z0 z1 z2 z3 W)) := Lib.hid (name_any h hR hTl)
  have HMY := Lib.hid (fun (W1 : World) (h1 : RD W0 b A c T (mustS (T.map bare) [110] (1, false)) z0 z1 z2 z3 W1) => may_any h1 hR hTl ⟨#[114, 111, 108, 101, 115]⟩ kRoles (kw_of _) (by decide))
  have HMU := fun (W1 : World) (h1 : RD W0 b A c T (mayS (T.map bare) kRoles (mustS (T.map bare) [110] (1, false))) z0 z1 z2 z3 W1) => must_any h1 (seeB (T.map bare) kRoles (mustS (T.map bare) [110] (1, false)))
  rw [must_see] at HMU
  replace HMU : Hid (∀ W1 : World, RD W0 b A c T (mayS (T.map bare) kRoles (mustS (T.map bare) [110] (1, false))) z0 z1 z2 z3 W1 → Calls Tryz.prog 98 #[.pointer (some ⟨b, 0, none⟩), .bool (seeB (T.map bare) kRoles (mustS (T.map bare) [110] (1, false)))] W1 (MP W0 b A c T (.tuple #[]) (us1 (T.map bare)) z0 z1 z2 z3 W1)) := Lib.hid HMU
  have HMN : Hid (∀ (s : RS) (W1 : World), RD W0 b A c T s z0 z1 z2 z3 W1 → Calls Tryz.prog 100 #[.pointer (some ⟨b, 0, none⟩)] W1 (MP W0 b A c T (.tuple #[sb (takT (T.map bare) [110] s), .bool (seeB (T.map bare) [110] s)]) (mayS (T.map bare) [110] s) z0 z1 z2 z3 W1)) := Lib.hid (fun s W1 h1 => mayName_any h1 hR hTl)
  have HO : Hid (∀ W1 : World, RD W0 b A c T (us2 (T.map bare)).1 z0 z1 z2 z3 W1 → Calls Tryz.prog 97 #[.pointer (some ⟨b, 0, none⟩), .string ⟨#[115, 117, 98]⟩] W1 (MP W0 b A c T (sb (usV (T.map bare)).sub) (usS (T.map bare)) z0 z1 z2 z3 W1)) := Lib.hid (fun W1 h1 => option_any h1 hR hTl ⟨#[115, 117, 98]⟩ kSub (kw_of _) (by decide))
  have HV : Hid ((usV (T.map bare)).roles = (us2 (T.map bare)).2) := Lib.hid rfl
  have HU2 : Hid (us2 (T.map bare) = rolesS (T.map bare) T.length (us1 (T.map bare))) := Lib.hid (by unfold us2; rw [List.length_map])
  have HRY : Hid (∀ (n : Nat) (s : RS), seeB (T.map bare) [110] s = true → rolesS (T.map bare) (n + 1) s = ((rolesS (T.map bare) n (mayS (T.map bare) [110] s)).1, takT (T.map bare) [110] s :: (rolesS (T.map bare) n (mayS (T.map bare) [110] s)).2)) := Lib.hid (fun n s hh => roles_yes hh)
  have HRN : Hid (∀ (n : Nat) (s : RS), seeB (T.map bare) [110] s = false → rolesS (T.map bare) n s = (s, [])) := Lib.hid (fun n s hh => roles_no hh)
  have HLT : Hid (∀ s : RS, seeB (T.map bare) [110] s = true → s.1 < T.length ∧ mayS (T.map bare) [110] s = (s.1 + 1, s.2)) := Lib.hid (fun s hh => ⟨see_lt hh, may_yes hh⟩)
  have HMO : Hid (∀ s : RS, seeB (T.map bare) [110] s = false → mayS (T.map bare) [110] s = s) := Lib.hid (fun s hh => may_no hh)
  clear h hR
  generalize usV (T.map bare) = uv at *
  generalize usS (T.map bare) = s9 at *
  generalize us2 (T.map bare) = u2 at *
  generalize us1 (T.map bare) = s1 at *
  generalize seeB (T.map bare) kRoles (mustS (T.map bare) [110] (1, false)) = q0 at *
  generalize mayS (T.map bare) kRoles (mustS (T.map bare) [110] (1, false)) = sr at *
  generalize mustS (T.map bare) [110] (1, false) = s0 at *
  generalize T.map bare = L at *
  go_enter Tryz.func58, Tryz.ntmps58
  go_wp2_with fail
  refine HN.out.mono ?_
  rintro e w1 ⟨rfl, h1, g1⟩
  have P := Lib.hid (PB.start h1 g1 hlb hz0 #[sb uv.name, .slice none 0 0, .string ⟨#[]⟩] 74)
  have hp1 := g1.size
  clear h1 g1 HN
  go_wp2_with fail
  replace P := Lib.hid P.out.drew
  refine wp_region_T (S := fun _ => True) (z := 8) (by kernel_rfl) ?_
  refine anyT_takeU (i := 0) (v := ?_) (by decide) rfl (by kernel_rfl) (by kernel_rfl) (by kernel_rfl) (fun _ _ _ h => h) trivial (by rfl) ?_ ?_
  rotate_left
  · intro W9 _
    go_simp
    try with_reducible rfl
  simp only [Act.put, List.setIfInBounds_toArray]
  try simp only [List.set_cons_zero, List.set_cons_succ]
  try simp only [List.getElem_toArray]
  repeat (first | simp only [List.getElem_cons_zero] | simp only [List.getElem_cons_succ])
  refine anyT_takeU (i := 1) (v := ?_) (by decide) rfl (by kernel_rfl) (by kernel_rfl) (by kernel_rfl) (fun _ _ _ h => h) trivial (by rfl) ?_ ?_
  rotate_left
  · intro W9 _
    go_simp
    try with_reducible rfl
  simp only [Act.put, List.setIfInBounds_toArray]
  try simp only [List.set_cons_zero, List.set_cons_succ]
  try simp only [List.getElem_toArray]
  repeat (first | simp only [List.getElem_cons_zero] | simp only [List.getElem_cons_succ])
  refine anyT_takeU (i := 2) (v := ?_) (by decide) rfl (by kernel_rfl) (by kernel_rfl) (by kernel_rfl) (fun _ _ _ h => h) trivial (by rfl) ?_ ?_
  rotate_left
  · intro W9 _
    go_simp
    try with_reducible rfl
  simp only [Act.put, List.setIfInBounds_toArray]
  try simp only [List.set_cons_zero, List.set_cons_succ]
  try simp only [List.getElem_toArray]
  repeat (first | simp only [List.getElem_cons_zero] | simp only [List.getElem_cons_succ])
  refine anyT_takeU (i := 3) (v := ?_) (by decide) rfl (by kernel_rfl) (by kernel_rfl) (by kernel_rfl) (fun _ _ _ h => h) trivial (by rfl) ?_ ?_
  rotate_left
  · intro W9 _
    go_simp
    try with_reducible rfl
  simp only [Act.put, List.setIfInBounds_toArray]
  try simp only [List.set_cons_zero, List.set_cons_succ]
  try simp only [List.getElem_toArray]
  repeat (first | simp only [List.getElem_cons_zero] | simp only [List.getElem_cons_succ])
  refine anyT_takeU (i := 4) (v := ?_) (by decide) rfl (by kernel_rfl) (by kernel_rfl) (by kernel_rfl) (fun _ _ _ h => h) trivial (by rfl) ?_ ?_
  rotate_left
  · intro W9 _
    go_simp
    try with_reducible rfl
  simp only [Act.put, List.setIfInBounds_toArray]
  try simp only [List.set_cons_zero, List.set_cons_succ]
  try simp only [List.getElem_toArray]
  repeat (first | simp only [List.getElem_cons_zero] | simp only [List.getElem_cons_succ])
  refine anyT_takeU (i := 5) (v := ?_) (by decide) rfl (by kernel_rfl) (by kernel_rfl) (by kernel_rfl) (fun _ _ _ h => h) trivial (by rfl) ?_ ?_
  rotate_left
  · intro W9 _
    go_simp
    try with_reducible rfl
  simp only [Act.put, List.setIfInBounds_toArray]
  try simp only [List.set_cons_zero, List.set_cons_succ]
  try simp only [List.getElem_toArray]
  repeat (first | simp only [List.getElem_cons_zero] | simp only [List.getElem_cons_succ])
  have HC := Lib.hid (HMY.out _ P.out.r)
  refine anyT_one' (i := 6) (by kernel_rfl) rfl (by rfl) (fun K hK => ?_)
  have HK := Lib.hid hK
  clear hK
  unfold Oper.wp
  go_simp
  refine (HC.out).mono ?_
  rintro e w9 ⟨rfl, h2, g2⟩
  replace P := Lib.hid (P.out.call h2 g2)
  clear h2 g2 HC
  refine HK.out _ _ (fun _ => trivial) ?_
  clear HK K
  have HC := Lib.hid (HMU.out _ P.out.r)
  refine anyT_one' (i := 7) (by kernel_rfl) rfl (by rfl) (fun K hK => ?_)
  have HK := Lib.hid hK
  clear hK
  unfold Oper.wp
  go_simp
  refine (HC.out).mono ?_
  rintro e w9 ⟨rfl, h2, g2⟩
  replace P := Lib.hid (P.out.call h2 g2)
  clear h2 g2 HC
  refine HK.out _ _ (fun _ => trivial) ?_
  clear HK K
  refine anyT_done (by kernel_rfl) ?_ _
  go_wp2_with fail
  have HC := Lib.hid (HMN.out s1 _ P.out.r)
  refine HC.out.mono ?_
  rintro e w2 ⟨rfl, h2, g2⟩
  have U0 : Hid (UB W W0 b A c T (mayS L [110] s1) z0 z1 z2 z3 w1.heap.size (sb uv.name) (.string ⟨#[]⟩) (.slice none 0 0) [] w2) := Lib.hid ⟨P.out.call h2 g2, World.ownsRow_nil _ _ _ _⟩
  clear h2 g2 HC P HMY HMU
  go_wp2_with fail
  go_loopw [3, 4] (fun rv okv wr => ∃ (s : RS) (acc : List (List UInt8)) (v : Value) (n : Nat), rv = sb (takT L [110] s) ∧ okv = .bool (seeB L [110] s) ∧ Hid (u2 = ((rolesS L n s).1, acc ++ (rolesS L n s).2)) ∧ T.length ≤ n + s.1 ∧ acc.length ≤ s.1 ∧ Hid (UB W W0 b A c T (mayS L [110] s) z0 z1 z2 z3 w1.heap.size (sb uv.name) (.string ⟨#[]⟩) v acc wr)) (fun _ okv wr => usM b T.length okv wr)
  case atStart => exact ⟨s1, [], _, T.length, rfl, rfl, Lib.hid (by rw [HU2.out]; rfl), by omega, Nat.zero_le _, U0⟩
  case round =>
    clear U0 HU2
    obtain ⟨s, acc, v, n, rfl, rfl, HE, hn, hac, UU⟩ := hrel
    obtain ⟨wo, rfl⟩ : ∃ wo, wo = wr := ⟨wr, rfl⟩
    obtain ⟨va, vc, rfl⟩ := Go.Proofs.YtjgcjnkeeiaafaaGreatDoor.B.own_slice UU.out.o
    cases hq : seeB L [110] s with
    | true =>
      obtain ⟨hlt, hms⟩ := HLT.out s hq
      obtain ⟨n', rfl⟩ : ∃ n', n = n' + 1 := ⟨n - 1, by omega⟩
      have HE2 : Hid (u2 = ((rolesS L n' (mayS L [110] s)).1, (acc ++ [takT L [110] s]) ++ (rolesS L n' (mayS L [110] s)).2)) := Lib.hid (by rw [HE.out, HRY.out n' s hq]; simp)
      have HMS : Hid (usM b T.length (.bool true) wo = 2 * (T.length - (s.1 + 1)) + 1) := Lib.hid (by rw [usM_is UU.out.p.r, hms]; rfl)
      have hsz : s.1 + 1 = (mayS L [110] s).1 := by rw [hms]
      have p1 := UU.out.p.cell (i := 1) rfl
      have f1 := UU.out.p.fz 1
      have lp := UU.out.p.lt
      clear hq hms HE
      generalize takT L [110] s = x at *
      generalize mayS L [110] s = s2 at *
      go_wp2_with (at_builtin; refine wpList_append_own_at _ rfl (.tmp 34) (.tmp 36) 72 rfl W.heap.size 9 i0 _ 1 16 Tryz.underlying72 hi0 hi1 hi2 hi3 rfl (by omega) _ _ _ rfl (UU.out.o.alloc _) ⟨wo.heap.size, 0, none⟩ 1 1 [sb x] rfl rfl ?c1 ?c2 ?c3 ?c4 ?c5 ?_)
      case c1 =>
        intro j u hj
        have hn := heap_new wo (.cells #[sb x] 9)
        match j, hj with
        | 0, hj => cases hj; exact cell_blk hn rfl
      case c2 => intro u hu; simp at hu; rw [hu]; rfl
      case c3 => unfold maxLen; omega
      case c4 => omega
      case c5 => have := UU.out.p.g.size; rw [World.size_alloc]; omega
      intro v1 w4 hown' hgrow _ hat
      obtain ⟨pa, pc, rfl⟩ := Go.Proofs.YtjgcjnkeeiaafaaGreatDoor.B.own_slice hown'
      have hmid := (UU.out.alloc (.cells #[sb x] 9)).mid hgrow
      have p2 := hmid.cell (i := 1) rfl
      have f2 := hmid.fz 1
      have lp2 := hmid.lt
      have U1 := Lib.hid ((UU.out.alloc (.cells #[sb x] 9)).put hown' hgrow)
      have HC := Lib.hid (HMN.out s2 _ U1.out.p.r)
      clear hown' hgrow hat UU p1 f1 lp hmid
      go_wp2_with fail
      refine HC.out.mono ?_
      rintro e w5 ⟨rfl, h2, g2⟩
      have U2 := Lib.hid (U1.out.call h2 g2)
      have HMS2 : Hid (∀ q : Bool, seeB L [110] s2 = q → usM b T.length (.bool q) w5 < 2 * (T.length - (s.1 + 1)) + 1) := Lib.hid (fun q hq => by
        rw [usM_is U2.out.p.r]
        cases q with
        | true =>
          obtain ⟨a1, a2⟩ := HLT.out s2 hq
          rw [a2]
          simp only [if_true]
          omega
        | false =>
          rw [HMO.out s2 hq]
          simp only [Bool.false_eq_true, if_false]
          omega)
      clear h2 g2 HC U1 p2 f2 lp2
      go_wp2_with fail
      go_roundw
      case rel => exact ⟨s2, acc ++ [x], _, n', rfl, rfl, HE2, by omega, by rw [List.length_append, List.length_singleton]; omega, U2⟩
      case measure => rw [HMS.out]; exact HMS2.out _ rfl
    | false =>
      have HF : Hid (u2.1 = s ∧ u2.2 = acc) := Lib.hid (by rw [HE.out, HRN.out n s hq]; simp)
      have hms := HMO.out s hq
      rw [hms, ← HF.out.1] at UU
      have HC := Lib.hid (HO.out _ UU.out.p.r)
      clear hq hms HE HMN HRY HRN HLT HMO HO
      go_wp2_with fail
      refine HC.out.mono ?_
      rintro e w5 ⟨rfl, h2, g2⟩
      have U2 := Lib.hid (UU.out.call h2 g2)
      have P := Lib.hid U2.out.p
      clear h2 g2 HC UU
      have p0 := P.out.cell (i := 0) rfl
      have p1 := P.out.cell (i := 1) rfl
      have p2 := P.out.cell (i := 2) rfl
      have f0 := P.out.fz 0
      have f1 := P.out.fz 1
      have f2 := P.out.fz 2
      have lp := P.out.lt
      have fb := P.out.r.fz 6
      obtain ⟨⟨y0, y1⟩, y2, y3⟩ := P.out.r.c3
      have lb := P.out.r.lt
      have hne := P.out.ne
      have hne2 := P.out.ne.symm

      have P2 : Hid (PB _ W W0 b A c T s9 z0 z1 z2 z3 w1.heap.size #[sb uv.name, .slice va acc.length vc, sb uv.sub] _) := Lib.hid (P.out.set 2 (sb uv.sub))
      have HX : Hid (uv.roles = acc) := Lib.hid (by rw [HV.out, HF.out.2])
      have O2 := Lib.hid (U2.out.o.kept (grown_set w5 w1.heap.size 2 (sb uv.sub)) (.inr (own_far U2.out.o U2.out.p.x (by decide))))
      clear U2 HV HF
      go_wp2_with fail
      go_end0
      have O3 := O2.out.kept (grown_set _ b 6 (one1 w5.heap.size)) (.inr (own_far O2.out P2.out.r.f (by decide)))
      exact ⟨rfl, w5.heap.size, _, (P2.out.r.p3 (one1 w5.heap.size)).call ((Below.refl _ _).alloc (Nat.le_refl _) _), heap_new' (by simp), by rw [HX.out]; exact O3.alloc _, by have := P.out.g.size; omega, (grown_here P2.out.g).trans (World.grownBy_alloc _ _ _)⟩
end
end Go.Proofs.YtjgcjnkeeiaafaaGreatDoor.P3.C

namespace Go.Proofs.YtjgcjnkeeiaafaaGreatDoor.P3.C
open Go.RowKit Go.Shelf Go.Proofs.YtjgcjnkeeiaafaaGreatDoor.B Go.Proofs.YtjgcjnkeeiaafaaGreatDoor.Lx Go.Proofs.YtjgcjnkeeiaafaaGreatDoor.P3
theorem own_new (w : World) {B e z n : Nat} {xs : List Value} (hB : B ≤ w.heap.size) (hx : xs.length = n * z) (hn : n ≤ maxLen) : (w.alloc (.cells xs.toArray e)).ownsRow B e z (.slice (some ⟨w.heap.size, 0, none⟩) n n) n xs :=
  ⟨hx, .inr ⟨w.heap.size, n, xs.toArray, rfl, hB, heap_new _ _, Nat.le_refl _, hn, by simpa using hx, by simp [← hx]⟩⟩
/-- Words of the call's own. -/
def WdP (w : World) (ws : List (List UInt8)) (e : Ending) (w' : World) : Prop :=
  ∃ v, e = .returned v ∧ w'.ownsRow w.heap.size 9 1 v ws.length (ws.map sb) ∧ Below w.heap.size w w'
theorem sb_of (s : ByteArray) : sb s.toList = .string s := by
  show Value.string (bytes s.toList) = _
  rw [bytes_of]
set_option maxRecDepth 100000 in
set_option maxHeartbeats 2000000 in
theorem opt_words (B : Nat) (W : World) (v : Value) (l : List (List UInt8)) (k nm : List UInt8) (h : W.ownsRow B 9 1 v l.length (l.map sb)) (hB : B ≤ W.heap.size) (hl : l.length ≤ 1000000000) :
    Calls Tryz.prog 48 #[v, sb k, sb nm] W fun e w' => ∃ v', e = .returned v' ∧ w'.ownsRow B 9 1 v' (optB l k nm).length ((optB l k nm).map sb) ∧ W.grownBy w' v.ownBlock := by
  obtain ⟨i0, hi0, hi1, hi2, hi3⟩ := info_parts info_str
  obtain ⟨a, c, rfl⟩ := Go.Proofs.YtjgcjnkeeiaafaaGreatDoor.B.own_slice h
  have HO := Lib.hid h
  by_cases hn : nm = []
  · subst hn
    have HP : Hid (optB l k [] = l) := Lib.hid (by unfold optB; rw [if_pos rfl])
    rw [HP.out]
    clear h
    go_enter Tryz.func48, Tryz.ntmps48
    go_wp2_with fail
    go_ret
    exact ⟨_, rfl, HO.out, ⟨rfl, rfl, rfl, Nat.le_refl _, fun _ _ _ => rfl⟩⟩
  · have HP : Hid (optB l k nm = l ++ [k, nm]) := Lib.hid (by unfold optB; rw [if_neg hn])
    rw [HP.out]
    obtain ⟨ks, hks⟩ : ∃ ks : ByteArray, ks = ⟨k.toArray⟩ := ⟨_, rfl⟩
    obtain ⟨na, hna⟩ : ∃ na : ByteArray, na = ⟨nm.toArray⟩ := ⟨_, rfl⟩
    have hq : na.toList.isEmpty = false := by
      rw [hna]
      show (bytes nm).toList.isEmpty = false
      rw [bytes_list]
      cases nm with
      | nil => exact absurd rfl hn
      | cons x r => rfl
    have HN := Lib.hid hna
    have HKS := Lib.hid hks
    rw [show sb k = .string ks by rw [hks], show sb nm = .string na by rw [hna]]
    have C1 := Lib.hid (show ∀ j u, [Value.string ks, Value.string na][j]? = some u → (W.alloc (.cells #[.string ks, .string na] 9)).cell? ((⟨W.heap.size, 0, none⟩ : Addr).add j) = some u from by
      intro j u hj
      have hnw := heap_new W (.cells #[.string ks, .string na] 9)
      rw [Addr.add_lit, Nat.zero_add]
      exact cell_blk hnw (by simpa using hj))
    have C2 := Lib.hid (show ∀ u ∈ [Value.string ks, Value.string na], u.oneCell' = true from by
      intro u hu
      simp at hu
      rcases hu with rfl | rfl <;> rfl)
    clear h hks hn hna
    go_enter Tryz.func48, Tryz.ntmps48
    go_wp2_with (at_builtin; refine wpList_append_own_at _ rfl (.tmp 10) (.tmp 13) 72 rfl B 9 i0 _ 1 16 Tryz.underlying72 hi0 hi1 hi2 hi3 rfl (by omega) _ _ _ rfl (HO.out.alloc _) ⟨W.heap.size, 0, none⟩ 2 2 [.string ks, .string na] rfl rfl C1.out C2.out (by unfold maxLen; omega) (by omega) (by rw [World.size_alloc]; omega) ?_)
    intro v1 w4 hown' hgrow _ hat
    obtain ⟨pa, pc, rfl⟩ := Go.Proofs.YtjgcjnkeeiaafaaGreatDoor.B.own_slice hown'
    have HW := Lib.hid hown'
    have HG := Lib.hid hgrow
    clear hown' hgrow hat
    go_wp2_with fail
    go_ret
    refine ⟨_, rfl, ?_, ?_⟩
    · rw [List.length_append, List.map_append, List.map_cons, List.map_cons, List.map_nil, show sb k = .string ks by rw [HKS.out], show sb nm = .string na by rw [HN.out]]
      exact HW.out
    · exact (grown_below ((Below.refl _ _).alloc (Nat.le_refl _) _) _).trans HG.out
set_option maxRecDepth 100000 in
set_option maxHeartbeats 2000000 in
theorem group_words (w : World) (p : Gp) : Calls Tryz.prog 21 #[.agg #[.string p.name, .string p.parent]] w (WdP w (gpW p)) := by
  obtain ⟨W, hW⟩ : ∃ W, W = (w.alloc (.cells #[.string p.name, .string p.parent] 37)).alloc (.cells #[sb [103, 114, 111, 117, 112], .string p.name] 9) := ⟨_, rfl⟩
  have hal := (Below.refl w.heap.size w).alloc (Nat.le_refl _) (.cells #[.string p.name, .string p.parent] 37)
  have hb : Below w.heap.size w W := by rw [hW]; exact hal.alloc hal.size _
  have ho : W.ownsRow w.heap.size 9 1 (.slice (some ⟨w.heap.size + 1, 0, none⟩) 2 2) [([103, 114, 111, 117, 112] : List UInt8), p.name.toList].length ([([103, 114, 111, 117, 112] : List UInt8), p.name.toList].map sb) := by
    rw [hW]
    have := own_new (w.alloc (.cells #[.string p.name, .string p.parent] 37)) (B := w.heap.size) (e := 9) (z := 1) (n := 2) (xs := [sb [103, 114, 111, 117, 112], .string p.name]) hal.size rfl (by unfold maxLen; omega)
    rw [World.size_alloc] at this
    rw [List.map_cons, List.map_cons, List.map_nil, sb_of]
    exact this
  have HC := Lib.hid (opt_words w.heap.size W _ [[103, 114, 111, 117, 112], p.name.toList] [105, 110] p.parent.toList ho hb.size (by simp))
  rw [sb_of] at HC
  have HB := Lib.hid hb
  have hWs : W.heap.size = w.heap.size + 1 + 1 := by rw [hW, World.size_alloc, World.size_alloc]
  have HD : Hid (∀ e w', (∃ v', e = .returned v' ∧ w'.ownsRow w.heap.size 9 1 v' (optB [[103, 114, 111, 117, 112], p.name.toList] [105, 110] p.parent.toList).length ((optB [[103, 114, 111, 117, 112], p.name.toList] [105, 110] p.parent.toList).map sb) ∧ W.grownBy w' (some (w.heap.size + 1))) → WdP w (gpW p) e w') := Lib.hid (by
    rintro e w' ⟨v', rfl, h1, h2⟩
    exact ⟨v', rfl, h1, HB.out.grown h2 HB.out.size (fun j hj => by cases hj; omega)⟩)
  generalize WdP w (gpW p) = PO at *
  clear ho hb hal
  go_enter Tryz.func21, Tryz.ntmps21
  go_wp2_with fail
  rw [← hW]
  clear hW
  refine HC.out.mono ?_
  rintro e w' ⟨v', rfl, h1, h2⟩
  obtain ⟨pa, pc, rfl⟩ := Go.Proofs.YtjgcjnkeeiaafaaGreatDoor.B.own_slice h1
  have HF := Lib.hid (HD.out _ _ ⟨_, rfl, h1, h2⟩)
  clear HD HC h1 h2
  go_wp2_with fail
  exact HF.out
theorem row_app' (a b : List Tok) : rowC (a ++ b) = rowC a ++ rowC b := by simp [rowC, List.flatMap_append]
/-- A line's tokens of the call's own. -/
def LnP (w : World) (ws : List (List UInt8)) (e : Ending) (w' : World) : Prop :=
  ∃ v, e = .returned v ∧ w'.ownsRow w.heap.size 54 4 v (lineT ws).length (rowC (lineT ws)) ∧ Below w.heap.size w w'
abbrev tk (x : List UInt8) : Tok := ⟨0, x, 0, 0⟩
theorem line_of (ws : List (List UInt8)) : lineT ws = ws.map tk ++ [tk [59]] := rfl
theorem tok_cells (x : List UInt8) : rowC [tk x] = [.int .i64 0, sb x, .int .i64 0, .int .i64 0] := by simp [rowC, tokC]
set_option maxRecDepth 100000 in
set_option maxHeartbeats 4000000 in
theorem line_any (w : World) (A : Option Addr) (c : Nat) (ws : List (List UInt8)) (hR : Row w A (ws.map sb)) (hl : ws.length ≤ 1000000) : Calls Tryz.prog 20 #[.slice A ws.length c] w (LnP w ws) := by
  obtain ⟨i0, hi, hz0, hz1, hz2⟩ := info_parts infoTok
  have HI := Lib.hid hi
  have HZ0 := Lib.hid hz0
  have HZ1 := Lib.hid hz1
  have HZ2 := Lib.hid hz2
  have HR := Lib.hid hR
  clear hi hz0 hz1 hz2 hR
  go_enter Tryz.func20, Tryz.ntmps20
  go_wp2_with fail
  go_loopw [3, 8] (fun v i wr => ∃ k : Nat, k ≤ ws.length ∧ i = .int .i64 k ∧ Hid (wr.ownsRow w.heap.size 54 4 v k (rowC ((ws.take k).map tk))) ∧ Hid (Below w.heap.size w wr)) (fun _ i _ => ws.length - (intOf i).toNat)
  case atStart => exact ⟨0, Nat.zero_le _, rfl, Lib.hid (World.ownsRow_nil _ _ _ _), Lib.hid (Below.refl _ _)⟩
  case round =>
    obtain ⟨k, hk, rfl, HO, HB⟩ := hrel
    obtain ⟨wo, rfl⟩ : ∃ wo, wo = wr := ⟨wr, rfl⟩
    obtain ⟨va, vc, rfl⟩ := Go.Proofs.YtjgcjnkeeiaafaaGreatDoor.B.own_slice HO.out
    have hwo := HB.out.size
    by_cases hkl : k < ws.length
    · obtain ⟨b, off, rfl, hb, hc⟩ := HR.out (fun e => by rw [List.map_eq_nil_iff] at e; rw [e] at hkl; simp at hkl)
      have hx := (HB.out.cell (p := ⟨b, off + k, none⟩) hb).trans (hc k (sb ws[k]) (by rw [List.getElem?_map, List.getElem?_eq_getElem hkl]; rfl))
      have HX : Hid (ws.take (k + 1) = ws.take k ++ [ws[k]]) := Lib.hid (by rw [List.take_add_one, List.getElem?_eq_getElem hkl]; rfl)
      have hb' : b < wo.heap.size := by omega
      generalize ws[k] = x at *
      have C1 := Lib.hid (show ∀ j u, ([.int .i64 0, sb x, .int .i64 0, .int .i64 0] : List Value)[j]? = some u → (wo.alloc (.cells #[.int .i64 0, sb x, .int .i64 0, .int .i64 0] 54)).cell? ((⟨wo.heap.size, 0, none⟩ : Addr).add j) = some u from by
        intro j u hj
        have hnw := heap_new wo (.cells #[.int .i64 0, sb x, .int .i64 0, .int .i64 0] 54)
        rw [Addr.add_lit, Nat.zero_add]
        exact cell_blk hnw (by simpa using hj))
      have C2 := Lib.hid (show ∀ u ∈ ([.int .i64 0, sb x, .int .i64 0, .int .i64 0] : List Value), u.oneCell' = true from by
        intro u hu
        simp at hu
        rcases hu with rfl | rfl | rfl | rfl <;> rfl)
      clear hc hb
      go_wp2_with (at_builtin; refine wpList_append_own_at _ rfl (.tmp 12) (.tmp 15) 43 rfl w.heap.size 54 i0 _ 4 40 Tryz.underlying43 HI.out HZ0.out HZ1.out HZ2.out rfl (by omega) _ _ _ rfl (HO.out.alloc _) ⟨wo.heap.size, 0, none⟩ 1 1 [.int .i64 0, sb x, .int .i64 0, .int .i64 0] rfl rfl C1.out C2.out (by unfold maxLen; omega) (by omega) (by rw [World.size_alloc]; omega) ?_)
      intro v1 w4 hown' hgrow _ hat
      have HO2 : Hid (w4.ownsRow w.heap.size 54 4 v1 (k + 1) (rowC ((ws.take (k + 1)).map tk))) := Lib.hid (by rw [HX.out, List.map_append, row_app', List.map_cons, List.map_nil, tok_cells, List.map_take]; exact hown')
      have HB2 : Hid (Below w.heap.size w w4) := Lib.hid ((HB.out.alloc hwo _).grown hgrow (by rw [World.size_alloc]; omega) (fun q hq => (HO.out.lt q hq).1))
      obtain ⟨pa, pc, rfl⟩ := Go.Proofs.YtjgcjnkeeiaafaaGreatDoor.B.own_slice hown'
      clear hown' hgrow hat
      go_wp2_with fail
      go_roundw
      case rel => exact ⟨k + 1, hkl, by go_num, HO2, HB2⟩
      case measure => simp [intOf]; omega
    · obtain rfl : k = ws.length := by omega
      have C1 := Lib.hid (show ∀ j u, ([.int .i64 0, sb [59], .int .i64 0, .int .i64 0] : List Value)[j]? = some u → (wo.alloc (.cells #[.int .i64 0, sb [59], .int .i64 0, .int .i64 0] 54)).cell? ((⟨wo.heap.size, 0, none⟩ : Addr).add j) = some u from by
        intro j u hj
        have hnw := heap_new wo (.cells #[.int .i64 0, sb [59], .int .i64 0, .int .i64 0] 54)
        rw [Addr.add_lit, Nat.zero_add]
        exact cell_blk hnw (by simpa using hj))
      have C2 := Lib.hid (show ∀ u ∈ ([.int .i64 0, sb [59], .int .i64 0, .int .i64 0] : List Value), u.oneCell' = true from by
        intro u hu
        simp at hu
        rcases hu with rfl | rfl | rfl | rfl <;> rfl)
      go_wp2_with (at_builtin; refine wpList_append_own_at _ rfl (.tmp 18) (.tmp 20) 43 rfl w.heap.size 54 i0 _ 4 40 Tryz.underlying43 HI.out HZ0.out HZ1.out HZ2.out rfl (by omega) _ _ _ rfl (HO.out.alloc _) ⟨wo.heap.size, 0, none⟩ 1 1 [.int .i64 0, sb [59], .int .i64 0, .int .i64 0] rfl rfl C1.out C2.out (by unfold maxLen; omega) (by omega) (by rw [World.size_alloc]; omega) ?_)
      intro v1 w4 hown' hgrow _ hat
      have HO2 : Hid (w4.ownsRow w.heap.size 54 4 v1 (lineT ws).length (rowC (lineT ws))) := Lib.hid (by
        rw [line_of, List.length_append, List.length_map, row_app', tok_cells]
        exact hown')
      have HB2 : Hid (Below w.heap.size w w4) := Lib.hid ((HB.out.alloc hwo _).grown hgrow (by rw [World.size_alloc]; omega) (fun q hq => (HO.out.lt q hq).1))
      obtain ⟨pa, pc, rfl⟩ := Go.Proofs.YtjgcjnkeeiaafaaGreatDoor.B.own_slice HO2.out
      clear hown' hgrow hat
      go_wp2_with fail
      go_ret
      exact ⟨_, rfl, HO2.out, HB2.out⟩
end Go.Proofs.YtjgcjnkeeiaafaaGreatDoor.P3.C

namespace Go.Proofs.YtjgcjnkeeiaafaaGreatDoor.P3.S
open Go.Shelf
def laysM171_ren : Go.Shelf.Ren := ⟨fun | 171 => 49 | 243 => 92 | 246 => 116 | 283 => 127 | 284 => 128 | 285 => 129 | 286 => 130 | 129 => 133 | 317 => 132 | 318 => 134 | 319 => 135 | 320 => 136 | 337 => 137 | 338 => 138 | n => n, fun | 3 => 3 | 9 => 9 | 2 => 2 | 4 => 4 | 171 => 175 | 0 => 0 | 53 => 176 | 37 => 107 | 5 => 5 | 173 => 179 | 212 => 182 | 51 => 183 | 20 => 20 | 213 => 184 | 46 => 185 | 232 => 188 | 233 => 189 | n => n, fun | 17 => 0 | 18 => 1 | 19 => 2 | n => n⟩
theorem laysM171 : Go.Proofs.LaysM.n171 Tryz.prog laysM171_ren := {
  mixed := by kernel_rfl
  f129 := Tryz.func133.trans (congrArg some (by kernel_rfl))
  f171 := Tryz.func49.trans (congrArg some (by kernel_rfl))
  f243 := Tryz.func92.trans (congrArg some (by kernel_rfl))
  f246 := Tryz.func116.trans (congrArg some (by kernel_rfl))
  f283 := Tryz.func127.trans (congrArg some (by kernel_rfl))
  f284 := Tryz.func128.trans (congrArg some (by kernel_rfl))
  f285 := Tryz.func129.trans (congrArg some (by kernel_rfl))
  f286 := Tryz.func130.trans (congrArg some (by kernel_rfl))
  f317 := Tryz.func132.trans (congrArg some (by kernel_rfl))
  f318 := Tryz.func134.trans (congrArg some (by kernel_rfl))
  f319 := Tryz.func135.trans (congrArg some (by kernel_rfl))
  f320 := Tryz.func136.trans (congrArg some (by kernel_rfl))
  f337 := Tryz.func137.trans (congrArg some (by kernel_rfl))
  f338 := Tryz.func138.trans (congrArg some (by kernel_rfl))
  t0 := Tryz.underlying0
  a0 := Tryz.isAgg0
  z0 := Tryz.sizeOf0
  v0 := Tryz.zeroValue0
  t2 := Tryz.underlying2
  a2 := Tryz.isAgg2
  z2 := Tryz.sizeOf2
  v2 := Tryz.zeroValue2
  t3 := Tryz.underlying3
  a3 := Tryz.isAgg3
  z3 := Tryz.sizeOf3
  v3 := Tryz.zeroValue3
  t4 := Tryz.underlying4
  a4 := Tryz.isAgg4
  z4 := Tryz.sizeOf4
  v4 := Tryz.zeroValue4
  t5 := Tryz.underlying5
  a5 := Tryz.isAgg5
  z5 := Tryz.sizeOf5
  v5 := Tryz.zeroValue5
  t9 := Tryz.underlying9
  a9 := Tryz.isAgg9
  z9 := Tryz.sizeOf9
  v9 := Tryz.zeroValue9
  t20 := Tryz.underlying20
  a20 := Tryz.isAgg20
  z20 := Tryz.sizeOf20
  v20 := Tryz.zeroValue20
  t37 := Tryz.underlying107
  a37 := Tryz.isAgg107
  z37 := Tryz.sizeOf107
  v37 := Tryz.zeroValue107
  t46 := Tryz.underlying185
  a46 := Tryz.isAgg185
  z46 := Tryz.sizeOf185
  v46 := Tryz.zeroValue185
  t51 := Tryz.underlying183
  a51 := Tryz.isAgg183
  z51 := Tryz.sizeOf183
  v51 := Tryz.zeroValue183
  t53 := Tryz.underlying176
  a53 := Tryz.isAgg176
  z53 := Tryz.sizeOf176
  v53 := Tryz.zeroValue176
  t171 := Tryz.underlying175
  a171 := Tryz.isAgg175
  z171 := Tryz.sizeOf175
  v171 := Tryz.zeroValue175
  t173 := Tryz.underlying179
  a173 := Tryz.isAgg179
  z173 := Tryz.sizeOf179
  v173 := Tryz.zeroValue179
  t212 := Tryz.underlying182
  a212 := Tryz.isAgg182
  z212 := Tryz.sizeOf182
  v212 := Tryz.zeroValue182
  t213 := Tryz.underlying184
  a213 := Tryz.isAgg184
  z213 := Tryz.sizeOf184
  t232 := Tryz.underlying188
  a232 := Tryz.isAgg188
  z232 := Tryz.sizeOf188
  v232 := Tryz.zeroValue188
  t233 := Tryz.underlying189
  a233 := Tryz.isAgg189
  z233 := Tryz.sizeOf189
  v233 := Tryz.zeroValue189
  g17 := by kernel_rfl
  g18 := by kernel_rfl
  g19 := by kernel_rfl
  i0 := by kernel_rfl
  i2 := by kernel_rfl
  i3 := by kernel_rfl
  i4 := by kernel_rfl
  i5 := by kernel_rfl
  i9 := by kernel_rfl
  i20 := by kernel_rfl
  i37 := by kernel_rfl
  i46 := by kernel_rfl
  i51 := by kernel_rfl
  i53 := by kernel_rfl
  i171 := by kernel_rfl
  i173 := by kernel_rfl
  i212 := by kernel_rfl
  i232 := by kernel_rfl
  i233 := by kernel_rfl
  m17 := by kernel_rfl
  m18 := by kernel_rfl
  m19 := by kernel_rfl }
open Go.RowKit Go.Sort Go.Lib in
theorem strconv_Itoa (n : Int) (h0 : -9223372036854775808 ≤ n) (h1 : n ≤ 9223372036854775807) (w : World) (htab : Lib.TabIs Tryz.prog w "internal/strconv.uint64pow10" .u64 Lib.pow10Tab) :
    Calls Tryz.prog 49 #[.int .i64 n] w fun e w' => e = .returned (.string ⟨(Lib.itoa n).toArray⟩) ∧ ∃ k os, w' = grow (w.drewN k) os := Any.strconv_Itoa laysM171 n h0 h1 w htab
end Go.Proofs.YtjgcjnkeeiaafaaGreatDoor.P3.S
