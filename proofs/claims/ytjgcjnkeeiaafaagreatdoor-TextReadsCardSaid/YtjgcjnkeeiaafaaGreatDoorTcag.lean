/-
  Contracts of a statement's group, event, relation.
-/
import Derived.Test.YtjgcjnkeeiaafaaGreatDoorTcaf
namespace Go.Proofs.YtjgcjnkeeiaafaaGreatDoor.P3.C
open Go.RowKit Go.Shelf Go.Proofs.YtjgcjnkeeiaafaaGreatDoor.B Go.Proofs.YtjgcjnkeeiaafaaGreatDoor.Lx Go.Proofs.YtjgcjnkeeiaafaaGreatDoor.P3
section
variable {W0 W W1 W2 : World} {b : Nat} {A : Option Addr} {c : Nat} {T : List Tok} {s s' : RS} {z0 z1 z2 z3 : Value}
theorem RD.far1 (h : RD W0 b A c T s z0 z1 z2 z3 W) {q : Nat} (hq : b ≠ q) (hq0 : W0.heap.size ≤ q) (i : Nat) (v : Value) : RD W0 b A c T s z0 z1 z2 z3 (W.setCell ⟨q, i, none⟩ v) :=
  ⟨(blk_other hq).trans h.f, h.l.setCell (p := ⟨q, i, none⟩) hq0 v, h.hb, h.le⟩
theorem RD.p0 (h : RD W0 b A c T s z0 z1 z2 z3 W) (v : Value) : RD W0 b A c T s v z1 z2 z3 (W.setCell ⟨b, 3, none⟩ v) := ⟨by rw [blk_set h.f]; simp, h.l.setCell h.hb _, h.hb, h.le⟩
theorem RD.p1 (h : RD W0 b A c T s z0 z1 z2 z3 W) (v : Value) : RD W0 b A c T s z0 v z2 z3 (W.setCell ⟨b, 4, none⟩ v) := ⟨by rw [blk_set h.f]; simp, h.l.setCell h.hb _, h.hb, h.le⟩
theorem RD.p2 (h : RD W0 b A c T s z0 z1 z2 z3 W) (v : Value) : RD W0 b A c T s z0 z1 v z3 (W.setCell ⟨b, 5, none⟩ v) := ⟨by rw [blk_set h.f]; simp, h.l.setCell h.hb _, h.hb, h.le⟩
theorem RD.p3 (h : RD W0 b A c T s z0 z1 z2 z3 W) (v : Value) : RD W0 b A c T s z0 z1 z2 v (W.setCell ⟨b, 6, none⟩ v) := ⟨by rw [blk_set h.f]; simp, h.l.setCell h.hb _, h.hb, h.le⟩
theorem grown_far {q i : Nat} {v : Value} (h : W.grownBy W1 (some b)) (hq : W.heap.size ≤ q) : W.grownBy (W1.setCell ⟨q, i, none⟩ v) (some b) :=
  h.andThen (grown_set W1 q i v) (fun j hj => by cases hj; exact .inl hq)
theorem grown_here {i : Nat} {v : Value} (h : W.grownBy W1 (some b)) : W.grownBy (W1.setCell ⟨b, i, none⟩ v) (some b) := h.trans (grown_set W1 b i v)
theorem heap_new' {o : Obj} {k : Nat} (h : W.heap.size = k) : (W.alloc o).heap[k]? = some o := by subst h; exact heap_new W o
/-- A box p of the call's own, beside the statement's box. -/
structure PB (Y : TypeId) (W W0 : World) (b : Nat) (A : Option Addr) (c : Nat) (T : List Tok) (s : RS) (z0 z1 z2 z3 : Value) (p : Nat) (cs : Array Value) (W1 : World) : Prop where
  r : RD W0 b A c T s z0 z1 z2 z3 W1
  x : W1.heap[p]? = some (.cells cs Y (0, 0))
  g : W.grownBy W1 (some b)
  hp : W.heap.size ≤ p
  hb : b < W.heap.size
  h0 : W0.heap.size ≤ W.heap.size
section
variable {Y : TypeId} {p : Nat} {cs : Array Value}
theorem PB.ne (h : PB Y W W0 b A c T s z0 z1 z2 z3 p cs W1) : b ≠ p := by have := h.hp; have := h.hb; omega
theorem PB.start (hr : RD W0 b A c T s z0 z1 z2 z3 W1) (hg : W.grownBy W1 (some b)) (hb : b < W.heap.size) (h0 : W0.heap.size ≤ W.heap.size) (cs : Array Value) (Y : TypeId) : PB Y W W0 b A c T s z0 z1 z2 z3 W1.heap.size cs (W1.alloc (.cells cs Y)) :=
  ⟨hr.call ((Below.refl _ _).alloc (Nat.le_refl _) _), heap_new _ _, hg.trans (World.grownBy_alloc _ _ _), hg.size, hb, h0⟩
theorem PB.call (h : PB Y W W0 b A c T s z0 z1 z2 z3 p cs W1) (hr : RD W0 b A c T s' z0 z1 z2 z3 W2) (hg : W1.grownBy W2 (some b)) : PB Y W W0 b A c T s' z0 z1 z2 z3 p cs W2 :=
  ⟨hr, (hg.block p (blk_lt h.x) (fun e => h.ne (Option.some.inj e).symm)).trans h.x, h.g.trans hg, h.hp, h.hb, h.h0⟩
theorem PB.set (h : PB Y W W0 b A c T s z0 z1 z2 z3 p cs W1) (i : Nat) (v : Value) : PB Y W W0 b A c T s z0 z1 z2 z3 p (cs.setIfInBounds i v) (W1.setCell ⟨p, i, none⟩ v) :=
  ⟨h.r.far1 h.ne (Nat.le_trans h.h0 h.hp) i v, by rw [blk_set h.x], grown_far h.g h.hp, h.hp, h.hb, h.h0⟩
theorem PB.drew (h : PB Y W W0 b A c T s z0 z1 z2 z3 p cs W1) : PB Y W W0 b A c T s z0 z1 z2 z3 p cs W1.drew := h.call (h.r.call (below_draws (Below.refl _ _) 1)) (grown_below (below_draws (Below.refl _ _) 1) _)
theorem PB.cell (h : PB Y W W0 b A c T s z0 z1 z2 z3 p cs W1) {i : Nat} {v : Value} (hi : cs[i]? = some v) : W1.cell? ⟨p, i, none⟩ = some v := cell_blk h.x hi
theorem PB.fz (h : PB Y W W0 b A c T s z0 z1 z2 z3 p cs W1) (i : Nat) : W1.frozen? ⟨p, i, none⟩ = false := frozen_blk h.x
theorem PB.lt (h : PB Y W W0 b A c T s z0 z1 z2 z3 p cs W1) : p < W1.heap.size := blk_lt h.x
end
abbrev one1 (g : Nat) : Value := .slice (some ⟨g, 0, none⟩) 1 1
abbrev sb (l : List UInt8) : Value := .string ⟨l.toArray⟩
end
/-- A statement's group has been read. -/
def GpP (W0 : World) (b : Nat) (A : Option Addr) (c : Nat) (T : List Tok) (s' : RS) (n m : List UInt8) (z1 z2 z3 : Value) (W : World) (e : Ending) (w' : World) : Prop :=
  e = .returned (.tuple #[]) ∧ ∃ g, RD W0 b A c T s' (one1 g) z1 z2 z3 w' ∧ w'.heap[g]? = some (.cells #[sb n, sb m] 37 (0, 0)) ∧ W.heap.size ≤ g ∧ W.grownBy w' (some b)
section
variable {W0 W : World} {b : Nat} {A : Option Addr} {c : Nat} {T : List Tok} {z0 z1 z2 z3 : Value}
set_option maxRecDepth 100000 in
set_option maxHeartbeats 8000000 in
theorem group_any (h : RD W0 b A c T (1, false) z0 z1 z2 z3 W) (hR : Row W0 A (rowC T)) (hT : T.length ≤ 1000000) :
    Calls Tryz.prog 56 #[.pointer (some ⟨b, 0, none⟩)] W (GpP W0 b A c T (grS (T.map bare)) (grV (T.map bare)).1 (grV (T.map bare)).2 z1 z2 z3 W) := by
  have hlb := h.lt
  have hz0 := h.l.size
  have HN := Lib.hid (name_any h hR hT)
  have HO := Lib.hid (fun (W1 : World) (h1 : RD W0 b A c T (mustS (T.map bare) [110] (1, false)) z0 z1 z2 z3 W1) => option_any h1 hR hT ⟨#[105, 110]⟩ [105, 110] (kw_of _) (by decide))
  have HS : Hid (optS (T.map bare) [105, 110] (mustS (T.map bare) [110] (1, false)) = grS (T.map bare)) := Lib.hid rfl
  have HV : Hid (takT (T.map bare) [110] (1, false) = (grV (T.map bare)).1 ∧ optV (T.map bare) [105, 110] (mustS (T.map bare) [110] (1, false)) = (grV (T.map bare)).2) := Lib.hid ⟨rfl, rfl⟩
  rw [HV.out.1] at HN
  rw [HS.out, HV.out.2] at HO
  clear h hR HS HV
  generalize (grV (T.map bare)).1 = n at *
  generalize (grV (T.map bare)).2 = m at *
  go_enter Tryz.func56, Tryz.ntmps56
  go_wp2_with fail
  refine HN.out.mono ?_
  rintro e w1 ⟨rfl, h1, g1⟩
  have P := Lib.hid (PB.start h1 g1 hlb hz0 #[sb n, .string ⟨#[]⟩] 37)
  have hp1 := g1.size
  clear h1 g1 HN
  have HC := Lib.hid (HO.out _ P.out.r)
  clear HO
  go_wp2_with fail
  refine HC.out.mono ?_
  rintro e w2 ⟨rfl, h2, g2⟩
  replace P := Lib.hid (P.out.call h2 g2)
  clear h2 g2 HC
  have p0 := P.out.cell (i := 0) rfl
  have p1 := P.out.cell (i := 1) rfl
  have f0 := P.out.fz 0
  have f1 := P.out.fz 1
  have lp := P.out.lt
  have fb := P.out.r.fz 3
  obtain ⟨⟨y0, y1⟩, y2, y3⟩ := P.out.r.c3
  have lb := P.out.r.lt
  have hne := P.out.ne
  have hne2 := P.out.ne.symm
  have P2 : Hid (PB _ W W0 b A c T (grS (T.map bare)) z0 z1 z2 z3 w1.heap.size #[sb n, sb m] _) := Lib.hid (P.out.set 1 (sb m))
  go_wp2_with fail
  go_end0
  exact ⟨rfl, w2.heap.size, (P2.out.r.p0 (one1 w2.heap.size)).call ((Below.refl _ _).alloc (Nat.le_refl _) _), heap_new' (by simp), by omega, (grown_here P2.out.g).trans (World.grownBy_alloc _ _ _)⟩
end
/-- A statement's event has been read. -/
def EvP (W0 : World) (b : Nat) (A : Option Addr) (c : Nat) (T : List Tok) (s' : RS) (v : EvV) (z0 z2 z3 : Value) (W : World) (e : Ending) (w' : World) : Prop :=
  e = .returned (.tuple #[]) ∧ ∃ g, RD W0 b A c T s' z0 (one1 g) z2 z3 w' ∧ w'.heap[g]? = some (.cells #[sb v.name, sb v.group, sb v.role, .bool v.inn, .bool v.done, .int .i64 v.due] 40 (0, 0)) ∧ W.heap.size ≤ g ∧ W.grownBy w' (some b)
section
variable {W0 W : World} {b : Nat} {A : Option Addr} {c : Nat} {T : List Tok} {z0 z1 z2 z3 : Value}
set_option maxRecDepth 100000 in
set_option maxHeartbeats 8000000 in
theorem event_any (h : RD W0 b A c T (1, false) z0 z1 z2 z3 W) (hR : Row W0 A (rowC T)) (hT : T.length ≤ 1000000) :
    Calls Tryz.prog 57 #[.pointer (some ⟨b, 0, none⟩)] W (EvP W0 b A c T (evS (T.map bare)) (evV (T.map bare)) z0 z2 z3 W) := by
  have hlb := h.lt
  have hz0 := h.l.size
  have HN := Lib.hid (name_any h hR hT)
  have HO := Lib.hid (fun (W1 : World) (h1 : RD W0 b A c T (mustS (T.map bare) [110] (1, false)) z0 z1 z2 z3 W1) => option_any h1 hR hT ⟨#[105, 110]⟩ [105, 110] (kw_of _) (by decide))
  have HMY := Lib.hid (fun (W1 : World) (h1 : RD W0 b A c T (ev1 (T.map bare)) z0 z1 z2 z3 W1) => may_any h1 hR hT ⟨#[114, 111, 108, 101]⟩ kRole (kw_of _) (by decide))
  have HMU := fun (W1 : World) (h1 : RD W0 b A c T (mayS (T.map bare) kRole (ev1 (T.map bare))) z0 z1 z2 z3 W1) => must_any h1 (seeB (T.map bare) kRole (ev1 (T.map bare)))
  rw [must_see] at HMU
  replace HMU : Hid (∀ W1 : World, RD W0 b A c T (mayS (T.map bare) kRole (ev1 (T.map bare))) z0 z1 z2 z3 W1 → Calls Tryz.prog 98 #[.pointer (some ⟨b, 0, none⟩), .bool (seeB (T.map bare) kRole (ev1 (T.map bare)))] W1 (MP W0 b A c T (.tuple #[]) (ev2 (T.map bare)) z0 z1 z2 z3 W1)) := Lib.hid HMU
  have HN2 : Hid (∀ W1 : World, RD W0 b A c T (ev2 (T.map bare)) z0 z1 z2 z3 W1 → Calls Tryz.prog 96 #[.pointer (some ⟨b, 0, none⟩)] W1 (MP W0 b A c T (sb (evV (T.map bare)).role) (ev3 (T.map bare)) z0 z1 z2 z3 W1)) := Lib.hid (fun W1 h1 => name_any h1 hR hT)
  have HE : Hid (∀ W1 : World, RD W0 b A c T (ev3 (T.map bare)) z0 z1 z2 z3 W1 → Calls Tryz.prog 55 #[.pointer (some ⟨b, 0, none⟩), .string ⟨#[101, 120, 99, 108, 117, 100, 101, 100]⟩] W1 (MP W0 b A c T (.bool (seeB (T.map bare) kExc (ev3 (T.map bare)))) (ev4 (T.map bare)) z0 z1 z2 z3 W1)) := Lib.hid (fun W1 h1 => may_any h1 hR hT ⟨#[101, 120, 99, 108, 117, 100, 101, 100]⟩ kExc (kw_of _) (by decide))
  have HDN : Hid (∀ W1 : World, RD W0 b A c T (ev4 (T.map bare)) z0 z1 z2 z3 W1 → Calls Tryz.prog 55 #[.pointer (some ⟨b, 0, none⟩), .string ⟨#[100, 111, 110, 101]⟩] W1 (MP W0 b A c T (.bool (evV (T.map bare)).done) (ev5 (T.map bare)) z0 z1 z2 z3 W1)) := Lib.hid (fun W1 h1 => may_any h1 hR hT ⟨#[100, 111, 110, 101]⟩ kDone (kw_of _) (by decide))
  have HDU : Hid (∀ W1 : World, RD W0 b A c T (ev5 (T.map bare)) z0 z1 z2 z3 W1 → Calls Tryz.prog 99 #[.pointer (some ⟨b, 0, none⟩)] W1 (MP W0 b A c T (.int .i64 (evV (T.map bare)).due) (evS (T.map bare)) z0 z1 z2 z3 W1)) := Lib.hid (fun W1 h1 => due_any h1 hR hT)
  have HX : Hid ((evV (T.map bare)).inn = !seeB (T.map bare) kExc (ev3 (T.map bare))) := Lib.hid rfl
  replace HN : Hid (Calls Tryz.prog 96 #[.pointer (some ⟨b, 0, none⟩)] W (MP W0 b A c T (sb (evV (T.map bare)).name) (mustS (T.map bare) [110] (1, false)) z0 z1 z2 z3 W)) := HN
  replace HO : Hid (∀ W1 : World, RD W0 b A c T (mustS (T.map bare) [110] (1, false)) z0 z1 z2 z3 W1 → Calls Tryz.prog 97 #[.pointer (some ⟨b, 0, none⟩), .string ⟨#[105, 110]⟩] W1 (MP W0 b A c T (sb (evV (T.map bare)).group) (ev1 (T.map bare)) z0 z1 z2 z3 W1)) := HO
  clear h hR
  generalize evV (T.map bare) = v at *
  generalize seeB (T.map bare) kRole (ev1 (T.map bare)) = q0 at *
  generalize seeB (T.map bare) kExc (ev3 (T.map bare)) = q at *
  generalize mayS (T.map bare) kRole (ev1 (T.map bare)) = sr at *
  generalize evS (T.map bare) = s6 at *
  generalize ev5 (T.map bare) = s5 at *
  generalize ev4 (T.map bare) = s4 at *
  generalize ev3 (T.map bare) = s3 at *
  generalize ev2 (T.map bare) = s2 at *
  generalize ev1 (T.map bare) = s1 at *
  go_enter Tryz.func57, Tryz.ntmps57
  go_wp2_with fail
  refine HN.out.mono ?_
  rintro e w1 ⟨rfl, h1, g1⟩
  have P := Lib.hid (PB.start h1 g1 hlb hz0 #[sb v.name, .string ⟨#[]⟩, .string ⟨#[]⟩, .bool false, .bool false, .int .i64 0] 40)
  have hp1 := g1.size
  clear h1 g1 HN
  go_wp2_with fail
  have HC := Lib.hid (HO.out _ P.out.r)
  refine HC.out.mono ?_
  rintro e w2 ⟨rfl, h2, g2⟩
  replace P := Lib.hid (P.out.call h2 g2)
  clear h2 g2 HC
  have p0 := P.out.cell (i := 0) rfl
  have p1 := P.out.cell (i := 1) rfl
  have p2 := P.out.cell (i := 2) rfl
  have p3 := P.out.cell (i := 3) rfl
  have p4 := P.out.cell (i := 4) rfl
  have p5 := P.out.cell (i := 5) rfl
  have f0 := P.out.fz 0
  have f1 := P.out.fz 1
  have f2 := P.out.fz 2
  have f3 := P.out.fz 3
  have f4 := P.out.fz 4
  have f5 := P.out.fz 5
  have lp := P.out.lt
  replace P : Hid (PB _ W W0 b A c T s1 z0 z1 z2 z3 w1.heap.size #[sb v.name, sb v.group, .string ⟨#[]⟩, .bool false, .bool false, .int .i64 0] _) := Lib.hid (P.out.set 1 (sb v.group))
  go_wp2_with fail
  clear p0 p1 p2 p3 p4 p5 f0 f1 f2 f3 f4 f5 lp
  replace P := Lib.hid P.out.drew
  refine wp_region_T (S := fun _ => True) (z := 8) (by kernel_rfl) ?_
  refine anyT_takeU (i := 0) (v := ?_) (by decide) rfl (by kernel_rfl) (by kernel_rfl) (by kernel_rfl) (fun _ _ _ h => h) trivial (by rfl) ?_ ?_
  rotate_left
  · intro W9 _
    go_simp
    try with_reducible rfl
  simp only [Act.put, List.setIfInBounds_toArray]
  try simp only [List.set_cons_zero, List.set_cons_succ]
  try simp only [List.getElem_toArray]
  repeat (first | simp only [List.getElem_cons_zero] | simp only [List.getElem_cons_succ])
  refine anyT_takeU (i := 1) (v := ?_) (by decide) rfl (by kernel_rfl) (by kernel_rfl) (by kernel_rfl) (fun _ _ _ h => h) trivial (by rfl) ?_ ?_
  rotate_left
  · intro W9 _
    go_simp
    try with_reducible rfl
  simp only [Act.put, List.setIfInBounds_toArray]
  try simp only [List.set_cons_zero, List.set_cons_succ]
  try simp only [List.getElem_toArray]
  repeat (first | simp only [List.getElem_cons_zero] | simp only [List.getElem_cons_succ])
  refine anyT_takeU (i := 2) (v := ?_) (by decide) rfl (by kernel_rfl) (by kernel_rfl) (by kernel_rfl) (fun _ _ _ h => h) trivial (by rfl) ?_ ?_
  rotate_left
  · intro W9 _
    go_simp
    try with_reducible rfl
  simp only [Act.put, List.setIfInBounds_toArray]
  try simp only [List.set_cons_zero, List.set_cons_succ]
  try simp only [List.getElem_toArray]
  repeat (first | simp only [List.getElem_cons_zero] | simp only [List.getElem_cons_succ])
  refine anyT_takeU (i := 3) (v := ?_) (by decide) rfl (by kernel_rfl) (by kernel_rfl) (by kernel_rfl) (fun _ _ _ h => h) trivial (by rfl) ?_ ?_
  rotate_left
  · intro W9 _
    go_simp
    try with_reducible rfl
  simp only [Act.put, List.setIfInBounds_toArray]
  try simp only [List.set_cons_zero, List.set_cons_succ]
  try simp only [List.getElem_toArray]
  repeat (first | simp only [List.getElem_cons_zero] | simp only [List.getElem_cons_succ])
  refine anyT_takeU (i := 4) (v := ?_) (by decide) rfl (by kernel_rfl) (by kernel_rfl) (by kernel_rfl) (fun _ _ _ h => h) trivial (by rfl) ?_ ?_
  rotate_left
  · intro W9 _
    go_simp
    try with_reducible rfl
  simp only [Act.put, List.setIfInBounds_toArray]
  try simp only [List.set_cons_zero, List.set_cons_succ]
  try simp only [List.getElem_toArray]
  repeat (first | simp only [List.getElem_cons_zero] | simp only [List.getElem_cons_succ])
  refine anyT_takeU (i := 5) (v := ?_) (by decide) rfl (by kernel_rfl) (by kernel_rfl) (by kernel_rfl) (fun _ _ _ h => h) trivial (by rfl) ?_ ?_
  rotate_left
  · intro W9 _
    go_simp
    try with_reducible rfl
  simp only [Act.put, List.setIfInBounds_toArray]
  try simp only [List.set_cons_zero, List.set_cons_succ]
  try simp only [List.getElem_toArray]
  repeat (first | simp only [List.getElem_cons_zero] | simp only [List.getElem_cons_succ])
  have HC := Lib.hid (HMY.out _ P.out.r)
  refine anyT_one' (i := 6) (by kernel_rfl) rfl (by rfl) (fun K hK => ?_)
  have HK := Lib.hid hK
  clear hK
  unfold Oper.wp
  go_simp
  refine (HC.out).mono ?_
  rintro e w9 ⟨rfl, h2, g2⟩
  replace P := Lib.hid (P.out.call h2 g2)
  clear h2 g2 HC
  refine HK.out _ _ (fun _ => trivial) ?_
  clear HK K
  have HC := Lib.hid (HMU.out _ P.out.r)
  refine anyT_one' (i := 7) (by kernel_rfl) rfl (by rfl) (fun K hK => ?_)
  have HK := Lib.hid hK
  clear hK
  unfold Oper.wp
  go_simp
  refine (HC.out).mono ?_
  rintro e w9 ⟨rfl, h2, g2⟩
  replace P := Lib.hid (P.out.call h2 g2)
  clear h2 g2 HC
  refine HK.out _ _ (fun _ => trivial) ?_
  clear HK K
  refine anyT_done (by kernel_rfl) ?_ _
  go_wp2_with fail
  have HC := Lib.hid (HN2.out _ P.out.r)
  refine HC.out.mono ?_
  rintro e w4 ⟨rfl, h2, g2⟩
  replace P := Lib.hid (P.out.call h2 g2)
  clear h2 g2 HC
  have p0 := P.out.cell (i := 0) rfl
  have p1 := P.out.cell (i := 1) rfl
  have p2 := P.out.cell (i := 2) rfl
  have p3 := P.out.cell (i := 3) rfl
  have p4 := P.out.cell (i := 4) rfl
  have p5 := P.out.cell (i := 5) rfl
  have f0 := P.out.fz 0
  have f1 := P.out.fz 1
  have f2 := P.out.fz 2
  have f3 := P.out.fz 3
  have f4 := P.out.fz 4
  have f5 := P.out.fz 5
  have lp := P.out.lt
  replace P : Hid (PB _ W W0 b A c T s3 z0 z1 z2 z3 w1.heap.size #[sb v.name, sb v.group, sb v.role, .bool false, .bool false, .int .i64 0] _) := Lib.hid (P.out.set 2 (sb v.role))
  go_wp2_with fail
  clear p0 p1 p2 p3 p4 p5 f0 f1 f2 f3 f4 f5 lp
  have HC := Lib.hid (HE.out _ P.out.r)
  refine HC.out.mono ?_
  rintro e w5 ⟨rfl, h2, g2⟩
  replace P := Lib.hid (P.out.call h2 g2)
  clear h2 g2 HC
  have p0 := P.out.cell (i := 0) rfl
  have p1 := P.out.cell (i := 1) rfl
  have p2 := P.out.cell (i := 2) rfl
  have p3 := P.out.cell (i := 3) rfl
  have p4 := P.out.cell (i := 4) rfl
  have p5 := P.out.cell (i := 5) rfl
  have f0 := P.out.fz 0
  have f1 := P.out.fz 1
  have f2 := P.out.fz 2
  have f3 := P.out.fz 3
  have f4 := P.out.fz 4
  have f5 := P.out.fz 5
  have lp := P.out.lt
  replace P : Hid (PB _ W W0 b A c T s4 z0 z1 z2 z3 w1.heap.size #[sb v.name, sb v.group, sb v.role, .bool (!q), .bool false, .int .i64 0] _) := Lib.hid (P.out.set 3 (.bool (!q)))
  go_wp2_with fail
  clear p0 p1 p2 p3 p4 p5 f0 f1 f2 f3 f4 f5 lp
  have HC := Lib.hid (HDN.out _ P.out.r)
  refine HC.out.mono ?_
  rintro e w6 ⟨rfl, h2, g2⟩
  replace P := Lib.hid (P.out.call h2 g2)
  clear h2 g2 HC
  have p0 := P.out.cell (i := 0) rfl
  have p1 := P.out.cell (i := 1) rfl
  have p2 := P.out.cell (i := 2) rfl
  have p3 := P.out.cell (i := 3) rfl
  have p4 := P.out.cell (i := 4) rfl
  have p5 := P.out.cell (i := 5) rfl
  have f0 := P.out.fz 0
  have f1 := P.out.fz 1
  have f2 := P.out.fz 2
  have f3 := P.out.fz 3
  have f4 := P.out.fz 4
  have f5 := P.out.fz 5
  have lp := P.out.lt
  replace P : Hid (PB _ W W0 b A c T s5 z0 z1 z2 z3 w1.heap.size #[sb v.name, sb v.group, sb v.role, .bool (!q), .bool v.done, .int .i64 0] _) := Lib.hid (P.out.set 4 (.bool v.done))
  go_wp2_with fail
  clear p0 p1 p2 p3 p4 p5 f0 f1 f2 f3 f4 f5 lp
  have HC := Lib.hid (HDU.out _ P.out.r)
  refine HC.out.mono ?_
  rintro e w7 ⟨rfl, h2, g2⟩
  replace P := Lib.hid (P.out.call h2 g2)
  clear h2 g2 HC
  have p0 := P.out.cell (i := 0) rfl
  have p1 := P.out.cell (i := 1) rfl
  have p2 := P.out.cell (i := 2) rfl
  have p3 := P.out.cell (i := 3) rfl
  have p4 := P.out.cell (i := 4) rfl
  have p5 := P.out.cell (i := 5) rfl
  have f0 := P.out.fz 0
  have f1 := P.out.fz 1
  have f2 := P.out.fz 2
  have f3 := P.out.fz 3
  have f4 := P.out.fz 4
  have f5 := P.out.fz 5
  have lp := P.out.lt
  have fb := P.out.r.fz 4
  obtain ⟨⟨y0, y1⟩, y2, y3⟩ := P.out.r.c3
  have lb := P.out.r.lt
  have hne := P.out.ne
  have hne2 := P.out.ne.symm
  have P2 : Hid (PB _ W W0 b A c T s6 z0 z1 z2 z3 w1.heap.size #[sb v.name, sb v.group, sb v.role, .bool (!q), .bool v.done, .int .i64 v.due] _) := Lib.hid (P.out.set 5 (.int .i64 v.due))
  clear HN2 HO HE HDN HDU HMY HMU
  go_wp2_with fail
  go_end0
  exact ⟨rfl, w7.heap.size, (P2.out.r.p1 (one1 w7.heap.size)).call ((Below.refl _ _).alloc (Nat.le_refl _) _), by rw [HX.out]; exact heap_new' (by simp), by have := P.out.g.size; omega, (grown_here P2.out.g).trans (World.grownBy_alloc _ _ _)⟩
end
/-- A statement's relation has been read. -/
def RlP (W0 : World) (b : Nat) (A : Option Addr) (c : Nat) (T : List Tok) (s' : RS) (v : RlV) (z0 z1 z3 : Value) (W : World) (e : Ending) (w' : World) : Prop :=
  e = .returned (.tuple #[]) ∧ ∃ g, RD W0 b A c T s' z0 z1 (one1 g) z3 w' ∧ w'.heap[g]? = some (.cells #[.int .i64 v.kind, sb v.src, sb v.dst, .int .i64 v.time] 42 (0, 0)) ∧ W.heap.size ≤ g ∧ W.grownBy w' (some b)
section
variable {W0 W : World} {b : Nat} {A : Option Addr} {c : Nat} {T : List Tok} {z0 z1 z2 z3 : Value}
set_option maxRecDepth 100000 in
set_option maxHeartbeats 8000000 in
theorem relation_any (h : RD W0 b A c T (0, false) z0 z1 z2 z3 W) (hR : Row W0 A (rowC T)) (hT : T.length ≤ 1000000) :
    Calls Tryz.prog 59 #[.pointer (some ⟨b, 0, none⟩)] W (RlP W0 b A c T (rlS (T.map bare)) (rlV (T.map bare)) z0 z1 z3 W) := by
  have hlb := h.lt
  have hz0 := h.l.size
  have HN : Hid (Calls Tryz.prog 101 #[.pointer (some ⟨b, 0, none⟩)] W (MP W0 b A c T (.int .i64 (rlV (T.map bare)).kind) (rl1 (T.map bare)) z0 z1 z2 z3 W)) := Lib.hid (kind_any h hR hT)
  have HF : Hid (∀ W1 : World, RD W0 b A c T (rl1 (T.map bare)) z0 z1 z2 z3 W1 → Calls Tryz.prog 96 #[.pointer (some ⟨b, 0, none⟩)] W1 (MP W0 b A c T (sb (rlV (T.map bare)).src) (rl2 (T.map bare)) z0 z1 z2 z3 W1)) := Lib.hid (fun W1 h1 => name_any h1 hR hT)
  have HG : Hid (∀ W1 : World, RD W0 b A c T (rl2 (T.map bare)) z0 z1 z2 z3 W1 → Calls Tryz.prog 96 #[.pointer (some ⟨b, 0, none⟩)] W1 (MP W0 b A c T (sb (rlV (T.map bare)).dst) (rl3 (T.map bare)) z0 z1 z2 z3 W1)) := Lib.hid (fun W1 h1 => name_any h1 hR hT)
  have HT : Hid (∀ W1 : World, RD W0 b A c T (rl3 (T.map bare)) z0 z1 z2 z3 W1 → Calls Tryz.prog 102 #[.pointer (some ⟨b, 0, none⟩), .int .i64 (rlV (T.map bare)).kind] W1 (MP W0 b A c T (.int .i64 (rlV (T.map bare)).time) (rlS (T.map bare)) z0 z1 z2 z3 W1)) := Lib.hid (fun W1 h1 => time_any h1 hR hT _)
  clear h hR
  generalize rlV (T.map bare) = v at *
  generalize rlS (T.map bare) = s4 at *
  generalize rl3 (T.map bare) = s3 at *
  generalize rl2 (T.map bare) = s2 at *
  generalize rl1 (T.map bare) = s1 at *
  go_enter Tryz.func59, Tryz.ntmps59
  go_wp2_with fail
  refine HN.out.mono ?_
  rintro e w1 ⟨rfl, h1, g1⟩
  have P := Lib.hid (PB.start h1 g1 hlb hz0 #[.int .i64 v.kind, .string ⟨#[]⟩, .string ⟨#[]⟩, .int .i64 0] 42)
  have hp1 := g1.size
  clear h1 g1 HN
  go_wp2_with fail
  have HC := Lib.hid (HF.out _ P.out.r)
  refine HC.out.mono ?_
  rintro e w2 ⟨rfl, h2, g2⟩
  replace P := Lib.hid (P.out.call h2 g2)
  clear h2 g2 HC
  have p0 := P.out.cell (i := 0) rfl
  have p1 := P.out.cell (i := 1) rfl
  have p2 := P.out.cell (i := 2) rfl
  have p3 := P.out.cell (i := 3) rfl
  have f0 := P.out.fz 0
  have f1 := P.out.fz 1
  have f2 := P.out.fz 2
  have f3 := P.out.fz 3
  have lp := P.out.lt
  replace P : Hid (PB _ W W0 b A c T s2 z0 z1 z2 z3 w1.heap.size #[.int .i64 v.kind, sb v.src, .string ⟨#[]⟩, .int .i64 0] _) := Lib.hid (P.out.set 1 (sb v.src))
  go_wp2_with fail
  clear p0 p1 p2 p3 f0 f1 f2 f3 lp
  have HC := Lib.hid (HG.out _ P.out.r)
  refine HC.out.mono ?_
  rintro e w3 ⟨rfl, h2, g2⟩
  replace P := Lib.hid (P.out.call h2 g2)
  clear h2 g2 HC
  have p0 := P.out.cell (i := 0) rfl
  have p1 := P.out.cell (i := 1) rfl
  have p2 := P.out.cell (i := 2) rfl
  have p3 := P.out.cell (i := 3) rfl
  have f0 := P.out.fz 0
  have f1 := P.out.fz 1
  have f2 := P.out.fz 2
  have f3 := P.out.fz 3
  have lp := P.out.lt
  replace P : Hid (PB _ W W0 b A c T s3 z0 z1 z2 z3 w1.heap.size #[.int .i64 v.kind, sb v.src, sb v.dst, .int .i64 0] _) := Lib.hid (P.out.set 2 (sb v.dst))
  go_wp2_with fail
  clear p0 p1 p2 p3 f0 f1 f2 f3 lp
  have HC := Lib.hid (HT.out _ P.out.r)
  refine HC.out.mono ?_
  rintro e w7 ⟨rfl, h2, g2⟩
  replace P := Lib.hid (P.out.call h2 g2)
  clear h2 g2 HC
  have p0 := P.out.cell (i := 0) rfl
  have p1 := P.out.cell (i := 1) rfl
  have p2 := P.out.cell (i := 2) rfl
  have p3 := P.out.cell (i := 3) rfl
  have f0 := P.out.fz 0
  have f1 := P.out.fz 1
  have f2 := P.out.fz 2
  have f3 := P.out.fz 3
  have lp := P.out.lt
  have fb := P.out.r.fz 5
  obtain ⟨⟨y0, y1⟩, y2, y3⟩ := P.out.r.c3
  have lb := P.out.r.lt
  have hne := P.out.ne
  have hne2 := P.out.ne.symm
  have P2 : Hid (PB _ W W0 b A c T s4 z0 z1 z2 z3 w1.heap.size #[.int .i64 v.kind, sb v.src, sb v.dst, .int .i64 v.time] _) := Lib.hid (P.out.set 3 (.int .i64 v.time))
  clear HF HG HT
  go_wp2_with fail
  go_end0
  exact ⟨rfl, w7.heap.size, (P2.out.r.p2 (one1 w7.heap.size)).call ((Below.refl _ _).alloc (Nat.le_refl _) _), heap_new' (by simp), by have := P.out.g.size; omega, (grown_here P2.out.g).trans (World.grownBy_alloc _ _ _)⟩
end
end Go.Proofs.YtjgcjnkeeiaafaaGreatDoor.P3.C
