/-
  Contracts of a statement's read, and of text.Statement. Contract of text.Statement. The graph of several statements, as it grows: contracts of partOf and of the adding of a statement's graph.
-/
import Derived.Test.YtjgcjnkeeiaafaaGreatDoorTcah
import Derived.Laws.AppendOwnNone
namespace Go.Proofs.YtjgcjnkeeiaafaaGreatDoor.P3.C
open Go.RowKit Go.Shelf Go.Proofs.YtjgcjnkeeiaafaaGreatDoor.B Go.Proofs.YtjgcjnkeeiaafaaGreatDoor.Lx Go.Proofs.YtjgcjnkeeiaafaaGreatDoor.P3
abbrev nilV : Value := .slice none 0 0
/-- The lists of a graph of one part. -/
def PVal (B : Nat) (v : PartV) (z0 z1 z2 z3 : Value) (w : World) : Prop :=
  match v with
  | .g n m => ∃ g, (z0 = one1 g ∧ z1 = nilV ∧ z2 = nilV ∧ z3 = nilV) ∧ w.heap[g]? = some (.cells #[sb n, sb m] 37 (0, 0)) ∧ B ≤ g
  | .e v => ∃ g, (z0 = nilV ∧ z1 = one1 g ∧ z2 = nilV ∧ z3 = nilV) ∧ w.heap[g]? = some (.cells #[sb v.name, sb v.group, sb v.role, .bool v.inn, .bool v.done, .int .i64 v.due] 40 (0, 0)) ∧ B ≤ g
  | .r v => ∃ g, (z0 = nilV ∧ z1 = nilV ∧ z2 = one1 g ∧ z3 = nilV) ∧ w.heap[g]? = some (.cells #[.int .i64 v.kind, sb v.src, sb v.dst, .int .i64 v.time] 42 (0, 0)) ∧ B ≤ g
  | .u v => ∃ g r, (z0 = nilV ∧ z1 = nilV ∧ z2 = nilV ∧ z3 = one1 g) ∧ w.heap[g]? = some (.cells #[sb v.name, r, sb v.sub] 74 (0, 0)) ∧ B ≤ g ∧ w.ownsRow B 9 1 r v.roles.length (v.roles.map sb)
theorem PVal.kept {B : Nat} {v : PartV} {z0 z1 z2 z3 : Value} {w w1 : World} {q : Nat} (h : PVal B v z0 z1 z2 z3 w) (hg : w.grownBy w1 (some q)) (hq : q < B) : PVal B v z0 z1 z2 z3 w1 := by
  have hb : ∀ g, B ≤ g → ∀ o, w.heap[g]? = some o → w1.heap[g]? = some o := fun g hB o ho => (hg.block g (Array.getElem?_eq_some_iff.1 ho).1 (by intro e; have := Option.some.inj e; omega)).trans ho
  cases v with
  | g n m => obtain ⟨g, h1, h2, h3⟩ := h; exact ⟨g, h1, hb g h3 _ h2, h3⟩
  | e v => obtain ⟨g, h1, h2, h3⟩ := h; exact ⟨g, h1, hb g h3 _ h2, h3⟩
  | r v => obtain ⟨g, h1, h2, h3⟩ := h; exact ⟨g, h1, hb g h3 _ h2, h3⟩
  | u v =>
    obtain ⟨g, r, h1, h2, h3, h4⟩ := h
    exact ⟨g, r, h1, hb g h3 _ h2, h3, h4.kept hg (.inr (fun e => by have := (h4.lt q e).1; omega))⟩
theorem PVal.base {B B' : Nat} {v : PartV} {z0 z1 z2 z3 : Value} {w : World} (h : PVal B v z0 z1 z2 z3 w) (hB : B' ≤ B) : PVal B' v z0 z1 z2 z3 w := by
  cases v with
  | g n m => obtain ⟨g, h1, h2, h3⟩ := h; exact ⟨g, h1, h2, Nat.le_trans hB h3⟩
  | e v => obtain ⟨g, h1, h2, h3⟩ := h; exact ⟨g, h1, h2, Nat.le_trans hB h3⟩
  | r v => obtain ⟨g, h1, h2, h3⟩ := h; exact ⟨g, h1, h2, Nat.le_trans hB h3⟩
  | u v => obtain ⟨g, r, h1, h2, h3, h4⟩ := h; exact ⟨g, r, h1, h2, Nat.le_trans hB h3, own_base h4 hB⟩
/-- A statement has been read. -/
def RdP (W0 : World) (b : Nat) (A : Option Addr) (c : Nat) (T : List Tok) (s' : RS) (v : PartV) (W : World) (e : Ending) (w' : World) : Prop :=
  e = .returned (.tuple #[]) ∧ ∃ z0 z1 z2 z3, RD W0 b A c T s' z0 z1 z2 z3 w' ∧ PVal W.heap.size v z0 z1 z2 z3 w' ∧ W.grownBy w' (some b)
section
variable {W0 W : World} {b : Nat} {A : Option Addr} {c : Nat} {T : List Tok}
set_option maxRecDepth 100000 in
set_option maxHeartbeats 4000000 in
theorem read_any (h : RD W0 b A c T (0, false) nilV nilV nilV nilV W) (hR : Row W0 A (rowC T)) (hTl : T.length ≤ 1000000) :
    Calls Tryz.prog 26 #[.pointer (some ⟨b, 0, none⟩)] W (RdP W0 b A c T (stS (T.map bare)) (stV (T.map bare)) W) := by
  have hlb := h.lt
  have HG := Lib.hid (may_any h hR hTl ⟨#[103, 114, 111, 117, 112]⟩ kGroup (kw_of _) (by decide))
  have HE := Lib.hid (fun (W1 : World) (h1 : RD W0 b A c T (0, false) nilV nilV nilV nilV W1) => may_any h1 hR hTl ⟨#[101, 118, 101, 110, 116]⟩ kEvent (kw_of _) (by decide))
  have HU := Lib.hid (fun (W1 : World) (h1 : RD W0 b A c T (0, false) nilV nilV nilV nilV W1) => may_any h1 hR hTl ⟨#[117, 115, 101, 114]⟩ kUser (kw_of _) (by decide))
  have PG := Lib.hid (fun (W1 : World) (h1 : RD W0 b A c T (1, false) nilV nilV nilV nilV W1) => group_any h1 hR hTl)
  have PE := Lib.hid (fun (W1 : World) (h1 : RD W0 b A c T (1, false) nilV nilV nilV nilV W1) => event_any h1 hR hTl)
  have PU := Lib.hid (fun (W1 : World) (h1 : RD W0 b A c T (1, false) nilV nilV nilV nilV W1) => user_any h1 hR hTl)
  have PR := Lib.hid (fun (W1 : World) (h1 : RD W0 b A c T (0, false) nilV nilV nilV nilV W1) => relation_any h1 hR hTl)
  have HS : Hid (stS (T.map bare) = endS (T.map bare) (if seeB (T.map bare) kGroup (0, false) then grS (T.map bare) else if seeB (T.map bare) kEvent (0, false) then evS (T.map bare) else if seeB (T.map bare) kUser (0, false) then usS (T.map bare) else rlS (T.map bare))) := Lib.hid rfl
  have HV : Hid (stV (T.map bare) = if seeB (T.map bare) kGroup (0, false) then .g (grV (T.map bare)).1 (grV (T.map bare)).2 else if seeB (T.map bare) kEvent (0, false) then .e (evV (T.map bare)) else if seeB (T.map bare) kUser (0, false) then .u (usV (T.map bare)) else .r (rlV (T.map bare))) := Lib.hid rfl
  have HEND := Lib.hid (fun (W1 : World) (s : RS) (z0 z1 z2 z3 : Value) (h1 : RD W0 b A c T s z0 z1 z2 z3 W1) => end_any h1)
  have HY := fun (x : Key) (e : seeB (T.map bare) x (0, false) = true) => Lib.hid (show mayS (T.map bare) x (0, false) = (1, false) from may_yes e)
  have HNO := fun (x : Key) (e : seeB (T.map bare) x (0, false) = false) => Lib.hid (show mayS (T.map bare) x (0, false) = (0, false) from may_no e)
  clear h hR
  generalize stS (T.map bare) = st at *
  generalize stV (T.map bare) = sv at *
  cases hqg : seeB (T.map bare) kGroup (0, false) with
  | true =>
    rw [hqg, if_pos rfl] at HS HV
    rw [hqg, (HY _ hqg).out] at HG
    clear hqg HE HU PE PU PR HY HNO
    go_enter Tryz.func26, Tryz.ntmps26
    go_wp2_with fail
    refine HG.out.mono ?_
    rintro e w1 ⟨rfl, h1, g1⟩
    have G1 := Lib.hid g1
    have CG := Lib.hid (PG.out _ h1)
    clear h1 g1 HG PG
    go_wp2_with fail
    refine CG.out.mono ?_
    rintro e wp ⟨rfl, g, hr, hx, hge, hg⟩
    have hgs := G1.out.size
    have V : Hid (PVal W.heap.size sv (one1 g) nilV nilV nilV wp) := Lib.hid (by rw [HV.out]; exact ⟨g, ⟨rfl, rfl, rfl, rfl⟩, hx, by omega⟩)
    have CEND := HEND.out _ _ _ _ _ _ hr
    rw [← HS.out] at CEND
    have HC := Lib.hid CEND
    have GP := Lib.hid (G1.out.trans hg)
    clear hr hx hg hge CG CEND HEND HS HV G1
    go_wp2_with fail
    refine HC.out.mono ?_
    rintro e we ⟨rfl, h9, g9⟩
    have H9 := Lib.hid h9
    have V9 := Lib.hid (V.out.kept g9 hlb)
    have G9 := Lib.hid (GP.out.trans g9)
    clear h9 g9 HC V GP
    go_wp2_with fail
    go_end0
    exact ⟨rfl, _, _, _, _, H9.out, V9.out, G9.out⟩

  | false =>
    rw [hqg, if_neg (by decide)] at HS HV
    rw [hqg, (HNO _ hqg).out] at HG
    clear hqg PG
    cases hqe : seeB (T.map bare) kEvent (0, false) with
    | true =>
      rw [hqe, if_pos rfl] at HS HV
      rw [hqe, (HY _ hqe).out] at HE
      clear hqe HU PU PR HY HNO
      go_enter Tryz.func26, Tryz.ntmps26
      go_wp2_with fail
      refine HG.out.mono ?_
      rintro e w1 ⟨rfl, h1, g1⟩
      have G1 := Lib.hid g1
      have CM := Lib.hid (HE.out _ h1)
      clear h1 g1 HG HE
      go_wp2_with fail
      refine CM.out.mono ?_
      rintro e w2 ⟨rfl, h2, g2⟩
      have G2 := Lib.hid (G1.out.trans g2)
      have CE := Lib.hid (PE.out _ h2)
      clear h2 g2 CM G1 PE
      go_wp2_with fail
      refine CE.out.mono ?_
      rintro e wp ⟨rfl, g, hr, hx, hge, hg⟩
      have hgs := G2.out.size
      have V : Hid (PVal W.heap.size sv nilV (one1 g) nilV nilV wp) := Lib.hid (by rw [HV.out]; exact ⟨g, ⟨rfl, rfl, rfl, rfl⟩, hx, by omega⟩)
      have CEND := HEND.out _ _ _ _ _ _ hr
      rw [← HS.out] at CEND
      have HC := Lib.hid CEND
      have GP := Lib.hid (G2.out.trans hg)
      clear hr hx hg hge CE CEND HEND HS HV G2
      go_wp2_with fail
      refine HC.out.mono ?_
      rintro e we ⟨rfl, h9, g9⟩
      have H9 := Lib.hid h9
      have V9 := Lib.hid (V.out.kept g9 hlb)
      have G9 := Lib.hid (GP.out.trans g9)
      clear h9 g9 HC V GP
      go_wp2_with fail
      go_end0
      exact ⟨rfl, _, _, _, _, H9.out, V9.out, G9.out⟩

    | false =>
      rw [hqe, if_neg (by decide)] at HS HV
      rw [hqe, (HNO _ hqe).out] at HE
      clear hqe PE
      cases hqu : seeB (T.map bare) kUser (0, false) with
      | true =>
        rw [hqu, if_pos rfl] at HS HV
        rw [hqu, (HY _ hqu).out] at HU
        clear hqu PR HY HNO
        go_enter Tryz.func26, Tryz.ntmps26
        go_wp2_with fail
        refine HG.out.mono ?_
        rintro e w1 ⟨rfl, h1, g1⟩
        have G1 := Lib.hid g1
        have CM := Lib.hid (HE.out _ h1)
        clear h1 g1 HG HE
        go_wp2_with fail
        refine CM.out.mono ?_
        rintro e w2 ⟨rfl, h2, g2⟩
        have G2 := Lib.hid (G1.out.trans g2)
        have CM2 := Lib.hid (HU.out _ h2)
        clear h2 g2 CM G1 HU
        go_wp2_with fail
        refine CM2.out.mono ?_
        rintro e w3 ⟨rfl, h3, g3⟩
        have G3 := Lib.hid (G2.out.trans g3)
        have CU := Lib.hid (PU.out _ h3)
        clear h3 g3 CM2 G2 PU
        go_wp2_with fail
        refine CU.out.mono ?_
        rintro e wp ⟨rfl, g, r, hr, hx, ho, hge, hg⟩
        have hgs := G3.out.size
        have V : Hid (PVal W.heap.size sv nilV nilV nilV (one1 g) wp) := Lib.hid (by rw [HV.out]; exact ⟨g, r, ⟨rfl, rfl, rfl, rfl⟩, hx, by omega, own_base ho hgs⟩)
        have CEND := HEND.out _ _ _ _ _ _ hr
        rw [← HS.out] at CEND
        have HC := Lib.hid CEND
        have GP := Lib.hid (G3.out.trans hg)
        clear hr hx hg hge CU CEND HEND HS HV G3 ho
        go_wp2_with fail
        refine HC.out.mono ?_
        rintro e we ⟨rfl, h9, g9⟩
        have H9 := Lib.hid h9
        have V9 := Lib.hid (V.out.kept g9 hlb)
        have G9 := Lib.hid (GP.out.trans g9)
        clear h9 g9 HC V GP
        go_wp2_with fail
        go_end0
        exact ⟨rfl, _, _, _, _, H9.out, V9.out, G9.out⟩

      | false =>
        rw [hqu, if_neg (by decide)] at HS HV
        rw [hqu, (HNO _ hqu).out] at HU
        clear hqu PU HY HNO
        go_enter Tryz.func26, Tryz.ntmps26
        go_wp2_with fail
        refine HG.out.mono ?_
        rintro e w1 ⟨rfl, h1, g1⟩
        have G1 := Lib.hid g1
        have CM := Lib.hid (HE.out _ h1)
        clear h1 g1 HG HE
        go_wp2_with fail
        refine CM.out.mono ?_
        rintro e w2 ⟨rfl, h2, g2⟩
        have G2 := Lib.hid (G1.out.trans g2)
        have CM2 := Lib.hid (HU.out _ h2)
        clear h2 g2 CM G1 HU
        go_wp2_with fail
        refine CM2.out.mono ?_
        rintro e w3 ⟨rfl, h3, g3⟩
        have G3 := Lib.hid (G2.out.trans g3)
        have CR := Lib.hid (PR.out _ h3)
        clear h3 g3 CM2 G2 PR
        go_wp2_with fail
        refine CR.out.mono ?_
        rintro e wp ⟨rfl, g, hr, hx, hge, hg⟩
        have hgs := G3.out.size
        have V : Hid (PVal W.heap.size sv nilV nilV (one1 g) nilV wp) := Lib.hid (by rw [HV.out]; exact ⟨g, ⟨rfl, rfl, rfl, rfl⟩, hx, by omega⟩)
        have CEND := HEND.out _ _ _ _ _ _ hr
        rw [← HS.out] at CEND
        have HC := Lib.hid CEND
        have GP := Lib.hid (G3.out.trans hg)
        clear hr hx hg hge CR CEND HEND HS HV G3
        go_wp2_with fail
        refine HC.out.mono ?_
        rintro e we ⟨rfl, h9, g9⟩
        have H9 := Lib.hid h9
        have V9 := Lib.hid (V.out.kept g9 hlb)
        have G9 := Lib.hid (GP.out.trans g9)
        clear h9 g9 HC V GP
        go_wp2_with fail
        go_end0
        exact ⟨rfl, _, _, _, _, H9.out, V9.out, G9.out⟩
end
end Go.Proofs.YtjgcjnkeeiaafaaGreatDoor.P3.C

namespace Go.Proofs.YtjgcjnkeeiaafaaGreatDoor.P3.C
open Go.RowKit Go.Shelf Go.Proofs.YtjgcjnkeeiaafaaGreatDoor.B Go.Proofs.YtjgcjnkeeiaafaaGreatDoor.Lx Go.Proofs.YtjgcjnkeeiaafaaGreatDoor.P3
theorem PVal.sl {B : Nat} {v : PartV} {z0 z1 z2 z3 : Value} {w : World} (h : PVal B v z0 z1 z2 z3 w) : (∃ a n c, z0 = .slice a n c) ∧ (∃ a n c, z1 = .slice a n c) ∧ (∃ a n c, z2 = .slice a n c) ∧ ∃ a n c, z3 = .slice a n c := by
  cases v with
  | g n m => obtain ⟨g, ⟨rfl, rfl, rfl, rfl⟩, _⟩ := h; exact ⟨⟨_, _, _, rfl⟩, ⟨_, _, _, rfl⟩, ⟨_, _, _, rfl⟩, ⟨_, _, _, rfl⟩⟩
  | e v => obtain ⟨g, ⟨rfl, rfl, rfl, rfl⟩, _⟩ := h; exact ⟨⟨_, _, _, rfl⟩, ⟨_, _, _, rfl⟩, ⟨_, _, _, rfl⟩, ⟨_, _, _, rfl⟩⟩
  | r v => obtain ⟨g, ⟨rfl, rfl, rfl, rfl⟩, _⟩ := h; exact ⟨⟨_, _, _, rfl⟩, ⟨_, _, _, rfl⟩, ⟨_, _, _, rfl⟩, ⟨_, _, _, rfl⟩⟩
  | u v => obtain ⟨g, r, ⟨rfl, rfl, rfl, rfl⟩, _⟩ := h; exact ⟨⟨_, _, _, rfl⟩, ⟨_, _, _, rfl⟩, ⟨_, _, _, rfl⟩, ⟨_, _, _, rfl⟩⟩
abbrev grZ : Value := .agg #[nilV, nilV, nilV, nilV]
/-- What Statement hands back. -/
def StP (L : List B3) (w : World) (e : Ending) (w' : World) : Prop :=
  Below w.heap.size w w' ∧ (stS L).1 ≤ L.length ∧ if (stS L).2 = true then e = .returned (.tuple #[grZ, .int .i64 ((stS L).1 : Int), .int .i64 2])
    else ∃ z0 z1 z2 z3, e = .returned (.tuple #[.agg #[z0, z1, z2, z3], .int .i64 0, .int .i64 0]) ∧ PVal w.heap.size (stV L) z0 z1 z2 z3 w'
theorem grown_low {w W W' : World} {b : Nat} (hb : Below w.heap.size w W) (hg : W.grownBy W' (some b)) (h : w.heap.size ≤ b) : Below w.heap.size w W' := hb.grown hg hb.size (fun j hj => by cases hj; exact h)
theorem grown4 (W : World) (q : Nat) (v0 v1 v2 v3 : Value) : W.grownBy (set4 W q v0 v1 v2 v3) (some q) := (((grown_set W q 0 v0).trans (grown_set _ q 1 v1)).trans (grown_set _ q 2 v2)).trans (grown_set _ q 3 v3)
set_option maxRecDepth 100000 in
set_option maxHeartbeats 4000000 in
theorem statement_any (w : World) (A : Option Addr) (c : Nat) (T : List Tok) (hR : Row w A (rowC T)) (hTl : T.length ≤ 1000000) :
    Calls Tryz.prog 9 #[.slice A T.length c] w (StP (T.map bare) w) := by
  obtain ⟨W, hW⟩ : ∃ W, W = (w.alloc (.cells #[nilV, nilV, nilV, nilV] 28)).alloc (.cells #[.slice A T.length c, .int .i64 0, .bool false, nilV, nilV, nilV, nilV] 85) := ⟨_, rfl⟩
  have hbW : Below w.heap.size w W := by rw [hW]; exact ((Below.refl _ _).alloc (Nat.le_refl _) _).alloc (by rw [World.size_alloc]; omega) _
  have hsz : W.heap.size = w.heap.size + 1 + 1 := by rw [hW, World.size_alloc, World.size_alloc]
  have hbx : W.heap[w.heap.size + 1]? = some (.cells #[.slice A T.length c, .int .i64 0, .bool false, nilV, nilV, nilV, nilV] 85 (0, 0)) := by rw [hW]; exact heap_new' (by rw [World.size_alloc])
  have hrx : W.heap[w.heap.size]? = some (.cells #[nilV, nilV, nilV, nilV] 28 (0, 0)) := by rw [hW]; exact heap_old (by rw [World.size_alloc]; omega) (heap_new _ _)
  have hRD : RD w (w.heap.size + 1) A c T (0, false) nilV nilV nilV nilV W := ⟨hbx, hbW, by omega, Nat.zero_le _⟩
  have HC := Lib.hid (read_any hRD hR hTl)
  have HB := Lib.hid hbW
  have HRX := Lib.hid (fun (w1 : World) (g1 : W.grownBy w1 (some (w.heap.size + 1))) => (g1.block w.heap.size (by omega) (by intro e; have := Option.some.inj e; omega)).trans hrx)
  have HS : Hid (∀ e w', StP (T.map bare) w e w' ↔ (Below w.heap.size w w' ∧ (stS (T.map bare)).1 ≤ T.length ∧ if (stS (T.map bare)).2 = true then e = .returned (.tuple #[grZ, .int .i64 ((stS (T.map bare)).1 : Int), .int .i64 2])
    else ∃ z0 z1 z2 z3, e = .returned (.tuple #[.agg #[z0, z1, z2, z3], .int .i64 0, .int .i64 0]) ∧ PVal w.heap.size (stV (T.map bare)) z0 z1 z2 z3 w')) := Lib.hid (fun e w' => by unfold StP; rw [List.length_map])
  clear hR hRD hbx hrx hbW
  generalize StP (T.map bare) w = SP at *
  generalize stV (T.map bare) = sv at *
  generalize stS (T.map bare) = st at *
  subst hW
  go_enter Tryz.func9, Tryz.ntmps9
  go_wp2_with fail
  refine HC.out.mono ?_
  rintro e w1 ⟨rfl, z0, z1, z2, z3, hr, hv, hg⟩
  obtain ⟨c0, c1, c2⟩ := hr.c0
  obtain ⟨⟨c3, c4⟩, c5, c6⟩ := hr.c3
  have ll := hr.lt
  have hx := HRX.out w1 hg
  have y0 := cell_blk (i := 0) hx rfl
  have y1 := cell_blk (i := 1) hx rfl
  have y2 := cell_blk (i := 2) hx rfl
  have y3 := cell_blk (i := 3) hx rfl
  have f0 := frozen_blk (i := 0) hx
  have f1 := frozen_blk (i := 1) hx
  have f2 := frozen_blk (i := 2) hx
  have f3 := frozen_blk (i := 3) hx
  have HX := Lib.hid hx
  have hlx := blk_lt hx
  obtain ⟨⟨a0, n0, k0, rfl⟩, ⟨a1, n1, k1, rfl⟩, ⟨a2, n2, k2, rfl⟩, a3, n3, k3, rfl⟩ := hv.sl
  have HV := Lib.hid hv
  have HBB := Lib.hid (grown_low HB.out hg (by omega))
  have HLE := Lib.hid hr.le
  have hsz2 := hsz
  clear hr hv hg hx HC HRX HB
  obtain ⟨k, q⟩ := st
  simp only at c1 c2
  cases q with
  | true =>
    go_wp2_with fail
    go_region
    go_wp2_with fail
    obtain ⟨w5, hw5⟩ : ∃ w5, w5 = set4 w1 w.heap.size nilV nilV nilV nilV := ⟨_, rfl⟩
    have e4 := blk4 HX.out nilV nilV nilV nilV
    have b4 := below_set4 HBB.out (Nat.le_refl _) nilV nilV nilV nilV
    rw [← hw5] at e4 b4
    unfold set4 at hw5
    rw [← hw5]
    have e5 : w5.drew.heap[w.heap.size]? = some (.cells #[nilV, nilV, nilV, nilV] 28 (0, 0)) := e4
    have x0 := cell_blk (i := 0) e5 rfl
    have x1 := cell_blk (i := 1) e5 rfl
    have x2 := cell_blk (i := 2) e5 rfl
    have x3 := cell_blk (i := 3) e5 rfl
    exact bodyPost_ret (v := .tuple #[grZ, .int .i64 (k : Int), .int .i64 2]) (by simp [results, Tryz.results9, go_sem, x0, x1, x2, x3]) rfl ((HS.out _ _).2 ⟨below_draws b4 1, HLE.out, by simp⟩)
  | false =>
    go_wp2_with fail
    obtain ⟨w5, hw5⟩ : ∃ w5, w5 = set4 w1 w.heap.size (.slice a0 n0 k0) (.slice a1 n1 k1) (.slice a2 n2 k2) (.slice a3 n3 k3) := ⟨_, rfl⟩
    have e5 := blk4 HX.out (.slice a0 n0 k0) (.slice a1 n1 k1) (.slice a2 n2 k2) (.slice a3 n3 k3)
    have b4 := below_set4 HBB.out (Nat.le_refl _) (.slice a0 n0 k0) (.slice a1 n1 k1) (.slice a2 n2 k2) (.slice a3 n3 k3)
    have v4 := HV.out.kept (grown4 w1 w.heap.size (.slice a0 n0 k0) (.slice a1 n1 k1) (.slice a2 n2 k2) (.slice a3 n3 k3)) (by omega)
    rw [← hw5] at e5 b4 v4
    unfold set4 at hw5
    rw [← hw5]
    have x0 := cell_blk (i := 0) e5 rfl
    have x1 := cell_blk (i := 1) e5 rfl
    have x2 := cell_blk (i := 2) e5 rfl
    have x3 := cell_blk (i := 3) e5 rfl
    exact bodyPost_ret (v := .tuple #[.agg #[.slice a0 n0 k0, .slice a1 n1 k1, .slice a2 n2 k2, .slice a3 n3 k3], .int .i64 0, .int .i64 0]) (by simp [results, Tryz.results9, go_sem, x0, x1, x2, x3]) rfl ((HS.out _ _).2 ⟨b4, HLE.out, by rw [if_neg (by decide)]; exact ⟨_, _, _, _, rfl, v4.base (by omega)⟩⟩)
end Go.Proofs.YtjgcjnkeeiaafaaGreatDoor.P3.C

namespace Go.Proofs.YtjgcjnkeeiaafaaGreatDoor.P3.C
open Go.RowKit Go.Shelf Go.Proofs.YtjgcjnkeeiaafaaGreatDoor.B Go.Proofs.YtjgcjnkeeiaafaaGreatDoor.Lx Go.Proofs.YtjgcjnkeeiaafaaGreatDoor.P3
theorem own_types {W : World} {B B' e e' z z' n n' : Nat} {v v' : Value} {xs xs' : List Value} (h : W.ownsRow B e z v n xs) (h' : W.ownsRow B' e' z' v' n' xs') (hne : e ≠ e') {q : Nat} (hq : v.ownBlock = some q) : v'.ownBlock ≠ some q := by
  intro hq'
  rcases h.2 with ⟨rfl, _⟩ | ⟨g, cap, cur, rfl, _, hg, _⟩
  · cases hq
  · rcases h'.2 with ⟨rfl, _⟩ | ⟨g', cap', cur', rfl, _, hg', _⟩
    · cases hq'
    · simp only [Value.ownBlock, Option.some.injEq] at hq hq'
      subst hq hq'
      rw [hg] at hg'
      simp only [Option.some.injEq, Obj.cells.injEq] at hg'
      exact hne hg'.2.1
theorem kept_ne {W W1 : World} {B e z n : Nat} {v vj : Value} {xs : List Value} (h : W.ownsRow B e z v n xs) (hg : W.grownBy W1 vj.ownBlock) (hne : ∀ q, v.ownBlock = some q → vj.ownBlock ≠ some q) : W1.ownsRow B e z v n xs := by
  cases hv : v.ownBlock with
  | none => exact h.kept hg (.inl hv)
  | some q => exact h.kept hg (.inr (fun e => hne q hv (by rw [← e, hv])))
/-- A row beside one that has grown, where that is stored in a box. -/
theorem kp {W W1 : World} {B e ej z zj n nj bw : Nat} {v vj : Value} {xs xj cs : List Value} {T : TypeId} (hr : W.ownsRow B e z v n xs) (hj : W.ownsRow B ej zj vj nj xj) (hne : e ≠ ej) (hg : W.grownBy W1 vj.ownBlock) (hf : W1.heap[bw]? = some (.cells cs.toArray T (0, 0))) (hw : e ≠ T) (i : Nat) (u : Value) :
    (W1.setCell ⟨bw, i, none⟩ u).ownsRow B e z v n xs :=
  have hr1 := kept_ne hr hg (fun _ hq => own_types hr hj hne hq)
  own_set hr1 (own_far hr1 hf hw) u
/-- The graph of several statements, and where they begin. -/
structure WH (wB : World) (bw : Nat) (v0 v1 v2 v3 : Value) (G : List Gp) (E : List Ev) (R : List Rl) (U : List Us) (s : Nat → Value) (bl : Nat → List Int) (W : World) : Prop where
  f : W.heap[bw]? = some (.cells #[v0, v1, v2, v3, s 0, s 1, s 2, s 3, s 4] 52 (0, 0))
  o0 : W.ownsRow wB.heap.size 37 2 v0 G.length (G.flatMap gpC)
  o1 : W.ownsRow wB.heap.size 40 6 v1 E.length (E.flatMap evC)
  o2 : W.ownsRow wB.heap.size 42 4 v2 R.length (R.flatMap rlC)
  o3 : W.ownsRow wB.heap.size 74 3 v3 U.length (U.flatMap usC)
  ro : ∀ u ∈ U, W.ownsRow wB.heap.size 9 1 (.slice u.ra u.roles.length u.rc) u.roles.length (u.roles.map Value.string)
  st : ∀ p, p < 5 → W.ownsRow wB.heap.size 3 1 (s p) (bl p).length ((bl p).map (Value.int .i64))
  dis : ∀ p q, p < 5 → q < 5 → p ≠ q → ∀ k, (s p).ownBlock = some k → (s q).ownBlock ≠ some k
  l : Below wB.heap.size wB W
  hb : wB.heap.size ≤ bw
section
variable {wB W W1 : World} {bw : Nat} {v0 v1 v2 v3 : Value} {G : List Gp} {E : List Ev} {R : List Rl} {U : List Us} {s : Nat → Value} {bl : Nat → List Int}
theorem WH.lt (h : WH wB bw v0 v1 v2 v3 G E R U s bl W) : bw < W.heap.size := blk_lt h.f
theorem WH.call (h : WH wB bw v0 v1 v2 v3 G E R U s bl W) (hb : Below W.heap.size W W1) : WH wB bw v0 v1 v2 v3 G E R U s bl W1 :=
  ⟨(hb.block _ h.lt).trans h.f, Go.Proofs.YtjgcjnkeeiaafaaGreatDoor.B.own_below h.o0 hb, Go.Proofs.YtjgcjnkeeiaafaaGreatDoor.B.own_below h.o1 hb, Go.Proofs.YtjgcjnkeeiaafaaGreatDoor.B.own_below h.o2 hb, Go.Proofs.YtjgcjnkeeiaafaaGreatDoor.B.own_below h.o3 hb, fun u hu => Go.Proofs.YtjgcjnkeeiaafaaGreatDoor.B.own_below (h.ro u hu) hb, fun p hp => Go.Proofs.YtjgcjnkeeiaafaaGreatDoor.B.own_below (h.st p hp) hb, h.dis, h.l.trans (hb.mono h.l.size), h.hb⟩
theorem WH.cells (h : WH wB bw v0 v1 v2 v3 G E R U s bl W) : (W.cell? ⟨bw, 0, none⟩ = some v0 ∧ W.cell? ⟨bw, 1, none⟩ = some v1 ∧ W.cell? ⟨bw, 2, none⟩ = some v2 ∧ W.cell? ⟨bw, 3, none⟩ = some v3) ∧ (W.cell? ⟨bw, 4, none⟩ = some (s 0) ∧ W.cell? ⟨bw, 5, none⟩ = some (s 1) ∧ W.cell? ⟨bw, 6, none⟩ = some (s 2) ∧ W.cell? ⟨bw, 7, none⟩ = some (s 3) ∧ W.cell? ⟨bw, 8, none⟩ = some (s 4)) :=
  ⟨⟨cell_blk h.f rfl, cell_blk h.f rfl, cell_blk h.f rfl, cell_blk h.f rfl⟩, cell_blk h.f rfl, cell_blk h.f rfl, cell_blk h.f rfl, cell_blk h.f rfl, cell_blk h.f rfl⟩
theorem WH.fz (h : WH wB bw v0 v1 v2 v3 G E R U s bl W) (i : Nat) : W.frozen? ⟨bw, i, none⟩ = false := frozen_blk h.f
theorem WH.mid0 (h : WH wB bw v0 v1 v2 v3 G E R U s bl W) (hg : W.grownBy W1 v0.ownBlock) : W1.heap[bw]? = some (.cells #[v0, v1, v2, v3, s 0, s 1, s 2, s 3, s 4] 52 (0, 0)) :=
  (hg.block _ h.lt (fun e => own_far h.o0 h.f (by decide) e.symm)).trans h.f
theorem WH.put0 (h : WH wB bw v0 v1 v2 v3 G E R U s bl W) {v' : Value} {N : List Gp} (ho : W1.ownsRow wB.heap.size 37 2 v' (G.length + N.length) (G.flatMap gpC ++ N.flatMap gpC)) (hg : W.grownBy W1 v0.ownBlock) :
    WH wB bw v' v1 v2 v3 (G ++ N) E R U s bl (W1.setCell ⟨bw, 0, none⟩ v') := by
  have hf := h.mid0 hg
  exact ⟨by rw [blk_set hf]; simp, by rw [List.length_append, List.flatMap_append]; exact own_set ho (own_far ho hf (by decide)) v', kp h.o1 h.o0 (by decide) hg hf (by decide) 0 v', kp h.o2 h.o0 (by decide) hg hf (by decide) 0 v', kp h.o3 h.o0 (by decide) hg hf (by decide) 0 v', fun u hu => kp (h.ro u hu) h.o0 (by decide) hg hf (by decide) 0 v', fun p hp => kp (h.st p hp) h.o0 (by decide) hg hf (by decide) 0 v', h.dis, (h.l.grown hg h.l.size (fun q hq => (h.o0.lt q hq).1)).setCell (p := ⟨bw, 0, none⟩) h.hb v', h.hb⟩
theorem WH.mid1 (h : WH wB bw v0 v1 v2 v3 G E R U s bl W) (hg : W.grownBy W1 v1.ownBlock) : W1.heap[bw]? = some (.cells #[v0, v1, v2, v3, s 0, s 1, s 2, s 3, s 4] 52 (0, 0)) :=
  (hg.block _ h.lt (fun e => own_far h.o1 h.f (by decide) e.symm)).trans h.f
theorem WH.put1 (h : WH wB bw v0 v1 v2 v3 G E R U s bl W) {v' : Value} {N : List Ev} (ho : W1.ownsRow wB.heap.size 40 6 v' (E.length + N.length) (E.flatMap evC ++ N.flatMap evC)) (hg : W.grownBy W1 v1.ownBlock) :
    WH wB bw v0 v' v2 v3 G (E ++ N) R U s bl (W1.setCell ⟨bw, 1, none⟩ v') := by
  have hf := h.mid1 hg
  exact ⟨by rw [blk_set hf]; simp, kp h.o0 h.o1 (by decide) hg hf (by decide) 1 v', by rw [List.length_append, List.flatMap_append]; exact own_set ho (own_far ho hf (by decide)) v', kp h.o2 h.o1 (by decide) hg hf (by decide) 1 v', kp h.o3 h.o1 (by decide) hg hf (by decide) 1 v', fun u hu => kp (h.ro u hu) h.o1 (by decide) hg hf (by decide) 1 v', fun p hp => kp (h.st p hp) h.o1 (by decide) hg hf (by decide) 1 v', h.dis, (h.l.grown hg h.l.size (fun q hq => (h.o1.lt q hq).1)).setCell (p := ⟨bw, 1, none⟩) h.hb v', h.hb⟩
theorem WH.mid2 (h : WH wB bw v0 v1 v2 v3 G E R U s bl W) (hg : W.grownBy W1 v2.ownBlock) : W1.heap[bw]? = some (.cells #[v0, v1, v2, v3, s 0, s 1, s 2, s 3, s 4] 52 (0, 0)) :=
  (hg.block _ h.lt (fun e => own_far h.o2 h.f (by decide) e.symm)).trans h.f
theorem WH.put2 (h : WH wB bw v0 v1 v2 v3 G E R U s bl W) {v' : Value} {N : List Rl} (ho : W1.ownsRow wB.heap.size 42 4 v' (R.length + N.length) (R.flatMap rlC ++ N.flatMap rlC)) (hg : W.grownBy W1 v2.ownBlock) :
    WH wB bw v0 v1 v' v3 G E (R ++ N) U s bl (W1.setCell ⟨bw, 2, none⟩ v') := by
  have hf := h.mid2 hg
  exact ⟨by rw [blk_set hf]; simp, kp h.o0 h.o2 (by decide) hg hf (by decide) 2 v', kp h.o1 h.o2 (by decide) hg hf (by decide) 2 v', by rw [List.length_append, List.flatMap_append]; exact own_set ho (own_far ho hf (by decide)) v', kp h.o3 h.o2 (by decide) hg hf (by decide) 2 v', fun u hu => kp (h.ro u hu) h.o2 (by decide) hg hf (by decide) 2 v', fun p hp => kp (h.st p hp) h.o2 (by decide) hg hf (by decide) 2 v', h.dis, (h.l.grown hg h.l.size (fun q hq => (h.o2.lt q hq).1)).setCell (p := ⟨bw, 2, none⟩) h.hb v', h.hb⟩
theorem WH.mid3 (h : WH wB bw v0 v1 v2 v3 G E R U s bl W) (hg : W.grownBy W1 v3.ownBlock) : W1.heap[bw]? = some (.cells #[v0, v1, v2, v3, s 0, s 1, s 2, s 3, s 4] 52 (0, 0)) :=
  (hg.block _ h.lt (fun e => own_far h.o3 h.f (by decide) e.symm)).trans h.f
theorem WH.put3 (h : WH wB bw v0 v1 v2 v3 G E R U s bl W) {v' : Value} {N : List Us} (ho : W1.ownsRow wB.heap.size 74 3 v' (U.length + N.length) (U.flatMap usC ++ N.flatMap usC)) (hg : W.grownBy W1 v3.ownBlock) (hn : ∀ u ∈ N, W.ownsRow wB.heap.size 9 1 (.slice u.ra u.roles.length u.rc) u.roles.length (u.roles.map Value.string)) :
    WH wB bw v0 v1 v2 v' G E R (U ++ N) s bl (W1.setCell ⟨bw, 3, none⟩ v') := by
  have hf := h.mid3 hg
  exact ⟨by rw [blk_set hf]; simp, kp h.o0 h.o3 (by decide) hg hf (by decide) 3 v', kp h.o1 h.o3 (by decide) hg hf (by decide) 3 v', kp h.o2 h.o3 (by decide) hg hf (by decide) 3 v', by rw [List.length_append, List.flatMap_append]; exact own_set ho (own_far ho hf (by decide)) v', fun u hu => by
    rcases List.mem_append.1 hu with hu | hu
    · exact kp (h.ro u hu) h.o3 (by decide) hg hf (by decide) 3 v'
    · exact kp (hn u hu) h.o3 (by decide) hg hf (by decide) 3 v', fun p hp => kp (h.st p hp) h.o3 (by decide) hg hf (by decide) 3 v', h.dis, (h.l.grown hg h.l.size (fun q hq => (h.o3.lt q hq).1)).setCell (p := ⟨bw, 3, none⟩) h.hb v', h.hb⟩
/-- A beginning is put behind those of its part. -/
theorem WH.midS (h : WH wB bw v0 v1 v2 v3 G E R U s bl W) {p : Nat} (hp : p < 5) (hg : W.grownBy W1 (s p).ownBlock) : W1.heap[bw]? = some (.cells #[v0, v1, v2, v3, s 0, s 1, s 2, s 3, s 4] 52 (0, 0)) :=
  (hg.block _ h.lt (fun e => own_far (h.st p hp) h.f (by decide) e.symm)).trans h.f
theorem WH.putS (h : WH wB bw v0 v1 v2 v3 G E R U s bl W) {p : Nat} (hp : p < 5) {v' : Value} {x : Int} (ho : W1.ownsRow wB.heap.size 3 1 v' ((bl p).length + 1) ((bl p).map (Value.int .i64) ++ [.int .i64 x])) (hg : W.grownBy W1 (s p).ownBlock) (hat : v'.ownBlock = (s p).ownBlock ∨ ∃ q, v'.ownBlock = some q ∧ W.heap.size ≤ q) :
    WH wB bw v0 v1 v2 v3 G E R U (fun i => if i = p then v' else s i) (fun i => if i = p then bl i ++ [x] else bl i) (W1.setCell ⟨bw, 4 + p, none⟩ v') := by
  have hf := h.midS hp hg
  have hsp := h.st p hp
  refine ⟨?_, kp h.o0 hsp (by decide) hg hf (by decide) _ v', kp h.o1 hsp (by decide) hg hf (by decide) _ v', kp h.o2 hsp (by decide) hg hf (by decide) _ v', kp h.o3 hsp (by decide) hg hf (by decide) _ v', fun u hu => kp (h.ro u hu) hsp (by decide) hg hf (by decide) _ v', fun q hq => ?_, fun q r hq hr hqr k hk => ?_, (h.l.grown hg h.l.size (fun q hq => (hsp.lt q hq).1)).setCell (p := ⟨bw, 4 + p, none⟩) h.hb v', h.hb⟩
  · rw [blk_set hf]
    obtain rfl | rfl | rfl | rfl | rfl : p = 0 ∨ p = 1 ∨ p = 2 ∨ p = 3 ∨ p = 4 := by omega
    all_goals simp
  · by_cases e : q = p
    · subst e
      simp only [if_true]
      rw [List.length_append, List.length_singleton, List.map_append]
      exact own_set ho (own_far ho hf (by decide)) v'
    · simp only [if_neg e]
      have h1 := kept_ne (h.st q hq) hg (fun k hk => h.dis q p hq hp e k hk)
      exact own_set h1 (own_far h1 hf (by decide)) v'
  · by_cases e1 : q = p
    · subst e1
      simp only [if_true] at hk
      rw [if_neg (fun e => hqr e.symm)]
      rcases hat with h' | ⟨k', h', hk'⟩
      · exact h.dis q r hq hr hqr k (h'.symm.trans hk)
      · intro e
        rw [hk] at h'; injection h' with h'
        have := ((h.st r hr).lt k e).2; omega
    · simp only [if_neg e1] at hk
      by_cases e2 : r = p
      · subst e2
        simp only [if_true]
        rcases hat with h' | ⟨k', h', hk'⟩
        · rw [h']; exact h.dis q r hq hr hqr k hk
        · intro e
          rw [e] at h'; injection h' with h'
          have := ((h.st q hq).lt k hk).2; omega
      · simp only [if_neg e2]
        exact h.dis q r hq hr hqr k hk
end
set_option maxHeartbeats 1000000 in
theorem partOf_any (w : World) (a0 a1 a2 a3 : Option Addr) (n0 n1 n2 n3 c0 c1 c2 c3 : Nat) (k : Nat) (hk : k = if 0 < n0 then 1 else if 0 < n1 then 2 else if 0 < n2 then 3 else 4) :
    Calls Tryz.prog 30 #[.agg #[.slice a0 n0 c0, .slice a1 n1 c1, .slice a2 n2 c2, .slice a3 n3 c3]] w fun e w' => e = .returned (.int .i64 (k : Int)) ∧ Below w.heap.size w w' := by
  have hb : Below w.heap.size w (w.alloc (.cells #[.slice a0 n0 c0, .slice a1 n1 c1, .slice a2 n2 c2, .slice a3 n3 c3] 28)) := (Below.refl _ _).alloc (Nat.le_refl _) _
  by_cases h0 : 0 < n0
  · rw [if_pos h0] at hk
    subst hk
    have q : (n0 : Int) > 0 := by omega
    clear h0
    go_enter Tryz.func30, Tryz.ntmps30
    go_wp2_with fail
    go_ret
    exact ⟨rfl, hb⟩
  · rw [if_neg h0] at hk
    have q0 : ¬ (n0 : Int) > 0 := by omega
    clear h0
    by_cases h1 : 0 < n1
    · rw [if_pos h1] at hk
      subst hk
      have q : (n1 : Int) > 0 := by omega
      clear h1
      go_enter Tryz.func30, Tryz.ntmps30
      go_wp2_with fail
      go_ret
      exact ⟨rfl, hb⟩
    · rw [if_neg h1] at hk
      have q1 : ¬ (n1 : Int) > 0 := by omega
      clear h1
      by_cases h2 : 0 < n2
      · rw [if_pos h2] at hk
        subst hk
        have q : (n2 : Int) > 0 := by omega
        clear h2
        go_enter Tryz.func30, Tryz.ntmps30
        go_wp2_with fail
        go_ret
        exact ⟨rfl, hb⟩
      · rw [if_neg h2] at hk
        subst hk
        have q2 : ¬ (n2 : Int) > 0 := by omega
        clear h2
        go_enter Tryz.func30, Tryz.ntmps30
        go_wp2_with fail
        go_ret
        exact ⟨rfl, hb⟩
end Go.Proofs.YtjgcjnkeeiaafaaGreatDoor.P3.C
