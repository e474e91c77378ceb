/-
  Contract of the document's own group. Contract of the document's own look at a group; what lies behind two boxes. Contract of the document's own there.
-/
import Derived.Test.YtjgcjnkeeiaafaaGreatDoorTcch
import Derived.Test.YtjgcjnkeeiaafaaGreatDoorTcbj
import Derived.Deep.RegionLaw
namespace Go.Proofs.YtjgcjnkeeiaafaaGreatDoor.P3.D
open Go.RowKit Go.Shelf Go.Proofs.YtjgcjnkeeiaafaaGreatDoor Go.Proofs.YtjgcjnkeeiaafaaGreatDoor.P3 Go.Proofs.YtjgcjnkeeiaafaaGreatDoor.P3.C Go.Proofs.YtjgcjnkeeiaafaaGreatDoor.P3.L Go.Proofs.YtjgcjnkeeiaafaaGreatDoor.Lx
/-- append onto a row of the call's own, as one step of a region that draws. -/
theorem step_append {P : Program} {ops : Array Oper} {o : Oper} {a : Act} {w : World} {K : Act → World → Prop} {Q : Exit → Act → World → Prop} {E : Prop}
    (hg : o.guard = none) (s x : Operand) (t : TypeId) (hop : o.op = Op.call { callee := Callee.builtin Builtin.append, args := #[s, x], argTypes := #[t, t] })
    (B : Nat) (e : TypeId) (i : TypeInfo) (z : Value) (size bytes : Nat) (h1 : P.underlying t = some (.slice e)) (h2 : P.info? e = some i) (h3 : i.zero = some z) (h4 : i.size = size) (h5 : i.bytes = bytes) (h6 : z.cells.size = size) (h7 : 0 < size)
    (v : Value) (n : Nat) (xs : List Value) (hs : a.eval s = v) (hown : w.ownsRow B e size v n xs)
    (ad : Addr) (m c : Nat) (news : List Value) (hx : a.eval x = .slice (some ad) m c) (hn : news.length = m * size) (hc : ∀ j u, news[j]? = some u → w.cell? (ad.add j) = some u) (h1c : ∀ u ∈ news, u.oneCell' = true)
    (b1 : n + m ≤ maxLen) (b2 : (n + m) * bytes ≤ 140737488355328) (hb : B ≤ w.heap.size)
    (hK : ∀ v' w', w'.ownsRow B e size v' (n + m) (xs ++ news) → w.grownBy w' v.ownBlock → K (a.put o.dst v') w') :
    if Region.wanted o (yielded ops a.tmps) = true then Oper.wp P o a w K Q else E := by
  have hw : Region.wanted o (yielded ops a.tmps) = true := by simp [Region.wanted, hg]
  rw [if_pos hw]
  obtain ⟨v', w', hrun, r1, r2, _⟩ := run_append_own (P := P) w B t o.type e i z size bytes h1 h2 h3 h4 h5 h6 h7 v n xs hown ad m c news hn hc h1c b1 b2 hb
  unfold Oper.wp
  simp [execOp, hop, resolve, invoke, builtin, hs, hx, hrun, Result.andThen]
  exact hK v' w' r1 r2
/-- A row that does not lie in the block that may turn. -/
def Far (gb : Nat) (A : Option Addr) : Prop := ∀ b o, A = some ⟨b, o, none⟩ → b ≠ gb
theorem row_grown {w w' : World} {gb : Nat} {A : Option Addr} {xs : List Value} (h : Row w A xs) (hf : Far gb A) (hg : w.grownBy w' (some gb)) : Row w' A xs := by
  intro hn
  obtain ⟨b, o, h1, h2, h3⟩ := h hn
  refine ⟨b, o, h1, by have := hg.size; omega, fun j u hu => ?_⟩
  have hb := hg.block b h2 (fun e => hf b o h1 (Option.some.inj e))
  have h4 := h3 j u hu
  unfold World.cell? at h4 ⊢
  simp only at h4 ⊢
  rw [hb]; exact h4
theorem info_gp : (Tryz.prog.info? 37).map (fun i => (i.zero, i.size, i.bytes)) = some (some (.agg #[.string ⟨#[]⟩, .string ⟨#[]⟩]), 2, 32) := by kernel_rfl
/-- What one of the document's parts hands back: below 0, and the graph's box bears the part; or the place of what is wrong. -/
def SgP (gb : Nat) (s : RS) (v : PartV) (w : World) (e : Ending) (w' : World) : Prop :=
  w.grownBy w' (some gb) ∧ e = .returned (.int .i64 (resI s)) ∧ (s.2 = false → ∃ z0 z1 z2 z3, w'.heap[gb]? = some (.cells #[z0, z1, z2, z3] 28 (0, 0)) ∧ GrO w.heap.size [v] z0 z1 z2 z3 w')
theorem sg_bad {gb n : Nat} {v : PartV} {w w' : World} (h : w.grownBy w' (some gb)) : SgP gb (n, true) v w (.returned (.int .i64 (n : Int))) w' := ⟨h, rfl, fun h => by cases h⟩
theorem gro_gp {B : Nat} {W : World} {z0 : Value} {a b : List UInt8} (h : W.ownsRow B 37 2 z0 1 (gpC ⟨bytes a, bytes b⟩)) : GrO B [.g a b] z0 nilV nilV nilV W :=
  ⟨[], rfl, h, World.ownsRow_nil _ _ _ _, World.ownsRow_nil _ _ _ _, World.ownsRow_nil _ _ _ _, fun _ h => nomatch h⟩
theorem grown_of {w W : World} {gb : Nat} (hb : Below w.heap.size w W) : w.grownBy W (some gb) := ⟨hb.os, hb.tape, hb.output, hb.size, fun k hk _ => hb.block k hk⟩
/-- Behind an append to what was nil, and a store into the graph's box. -/
theorem after_put {w W w9 : World} {gb i : Nat} {cs : Array Value} {T : TypeId} {v' : Value} (hb : Below w.heap.size w W) (hbox : w.heap[gb]? = some (.cells cs T (0, 0))) (hgrow : W.grownBy w9 none) :
    w.grownBy (w9.setCell ⟨gb, i, none⟩ v') (some gb) ∧ (w9.setCell ⟨gb, i, none⟩ v').heap[gb]? = some (.cells (cs.setIfInBounds i v') T (0, 0)) ∧ w9.heap[gb]? = some (.cells cs T (0, 0)) := by
  have h0 := (hb.block gb (B.blk_lt hbox)).trans hbox
  have h9 := (hgrow.block gb (B.blk_lt h0) (by intro h; cases h)).trans h0
  have hg9 : w.grownBy w9 (some gb) := (grown_of hb).trans ⟨hgrow.os, hgrow.tape, hgrow.output, hgrow.size, fun k hk _ => hgrow.block k hk (by intro h; cases h)⟩
  refine ⟨hg9.trans ⟨rfl, rfl, rfl, by simp, fun k _ hk => Below.heap_setCell _ _ _ _ (fun e => hk (by rw [e]))⟩, B.blk_set h9, h9⟩
theorem own_off {w w9 : World} {gb e z n : Nat} {v : Value} {xs : List Value} (h : w9.ownsRow w.heap.size e z v n xs) (hg : gb < w.heap.size) : v.ownBlock ≠ some gb := fun e => by have := (h.lt gb e).1; omega
set_option maxRecDepth 100000 in
set_option maxHeartbeats 8000000 in
theorem rgroup_any (w : World) (gb : Nat) (A : Option Addr) (c : Nat) (T : List Tok) (KA : Option Addr) (kc : Nat) (hg : w.heap[gb]? = some (.cells #[nilV, nilV, nilV, nilV] 28 (0, 0))) (hR : Row w A (rowC T)) (hK : KR w KA (T.map bare))
    (hfA : Far gb A) (hfK : Far gb KA) (hl : T.length ≤ 1000000) (h1 : 1 ≤ T.length) :
    Calls Tryz.prog 40 #[.pointer (some ⟨gb, 0, none⟩), .slice A T.length c, .slice KA (T.length + 1) kc] w (SgP gb (dGr (T.map bare)) (.g (grV (T.map bare)).1 (grV (T.map bare)).2) w) := by
  obtain ⟨i0, hi0, hi1, hi2, hi3⟩ := info_parts info_gp
  have HI0 := Lib.hid hi0
  have HI1 := Lib.hid hi1
  have HI2 := Lib.hid hi2
  have HI3 := Lib.hid hi3
  clear hi0 hi1 hi2 hi3
  have hlen : (T.map bare).length = T.length := List.length_map ..
  obtain ⟨b, o, rfl, hb, hc⟩ := hK.at_
  obtain ⟨s, hs, he⟩ := hc 1 (by rw [hlen]; exact h1)
  have HK := Lib.hid hK
  have HR := Lib.hid hR
  have HFK := Lib.hid hfK
  have HG := Lib.hid hg
  have HL := Lib.hid hlen
  have h1' : (1 : Int) < ((T.length + 1 : Nat) : Int) := by omega
  have hself : Hid (w.grownBy w (some gb)) := Lib.hid (World.grownBy.refl _ _)
  have HE : Hid (∀ {n : Nat} {b : Bool}, dGr (T.map bare) = (n, b) → ∀ e w', SgP gb (n, b) (.g (grV (T.map bare)).1 (grV (T.map bare)).2) w e w' → SgP gb (dGr (T.map bare)) (.g (grV (T.map bare)).1 (grV (T.map bare)).2) w e w') := Lib.hid (fun h e w' hh => by rw [h]; exact hh)
  cases hq : (s.toList == [110]) with
  | false =>
    have HF := Lib.hid (HE.out (show dGr (T.map bare) = (1, true) by unfold dGr; rw [if_neg (fun h => by rw [he, h] at hq; exact absurd hq (by decide))]) _ _ (sg_bad hself.out))
    clear hc he hK hR hg
    generalize SgP gb (dGr (T.map bare)) (.g (grV (T.map bare)).1 (grV (T.map bare)).2) w = SP at *
    go_enter Tryz.func40, Tryz.ntmps40
    go_wp2_with fail
    first | exact HF.out | (go_ret; exact HF.out)
  | true =>
    have hn1 : clsAt (T.map bare) 1 = [110] := he.symm.trans (eq_of_beq hq)
    have hlt : 1 < T.length := by rw [← hlen]; exact at_lt (by rw [hn1]; decide)
    have CO := Lib.hid (optional_any w A c T (some ⟨b, o, none⟩) kc 2 ⟨#[105, 110]⟩ hR hK (by omega) (by rw [Lib.toList_data]; decide) hl)
    obtain ⟨tb, to_, rfl, htb, htc⟩ := tok_at hR hlt
    obtain ⟨_, t1, _, _⟩ := htc 1 hlt
    have hT1 : (1 : Int) < (T.length : Int) := by omega
    have HTX := Lib.hid (txt_at hlt)
    have HN1 := Lib.hid hn1
    rw [show (⟨#[105, 110]⟩ : ByteArray).toList = [105, 110] from by rw [Lib.toList_data]] at CO
    clear hc he hK hR htc hn1
    generalize T[1]!.text = nm at *
    have HD : Hid (dGr (T.map bare) = if (dOpt (T.map bare) [105, 110] 2).2 = true then dOpt (T.map bare) [105, 110] 2 else dEnd (T.map bare) (dOpt (T.map bare) [105, 110] 2).1) := Lib.hid (by unfold dGr; rw [if_pos HN1.out])
    have HV := Lib.hid (gr_val (l := T.map bare) HN1.out)
    have HLE := Lib.hid (dopt_le (l := T.map bare) (x := [105, 110]) (i := 2) (by rw [hlen]; omega))
    unfold OpP at CO
    have HOV : Hid (dOptV (T.map bare) [105, 110] 2 = dOptV (T.map bare) [105, 110] 2) := Lib.hid rfl
    generalize dOptV (T.map bare) [105, 110] 2 = ov at *
    generalize dOpt (T.map bare) [105, 110] 2 = op at *
    obtain ⟨oi, ob⟩ := op
    simp only at CO HD HV HLE
    cases ob with
    | true =>
      have HF := Lib.hid (HE.out HD.out _ _ (sg_bad hself.out))
      generalize SgP gb (dGr (T.map bare)) (.g (grV (T.map bare)).1 (grV (T.map bare)).2) w = SP at *
      clear hg
      go_enter Tryz.func40, Tryz.ntmps40
      go_wp2_with fail
      refine CO.out.mono ?_
      rintro e w1 ⟨sx, rfl, _, hw⟩
      subst hw
      go_wp2_with fail
      first | exact HF.out | (go_ret; exact HF.out)
    | false =>
      have hdg : dGr (T.map bare) = dEnd (T.map bare) oi := HD.out
      have hgv := HV.out rfl
      have hole := HLE.out rfl
      rw [hdg, hgv, HTX.out]
      have HOLE := Lib.hid hole
      have g0 := B.cell_blk (i := 0) hg rfl
      have gl := B.blk_lt hg
      clear hdg hgv hole HE HD HV HLE HN1 hself
      go_enter Tryz.func40, Tryz.ntmps40
      go_wp2_with fail
      refine CO.out.mono ?_
      rintro e w1 ⟨sx, rfl, hsx, hw⟩
      subst hw
      have HSX := Lib.hid (hsx (by first | rfl | trivial))
      clear hsx CO
      have HX := Lib.hid (B.heap_new w (.cells #[.string ⟨nm.toArray⟩, .string sx] 37))
      have HBW := Lib.hid (fun X : World => fun h : Below w.heap.size w X => h)
      go_wp2_with fail
      go_region_law (first
        | (refine step_append rfl (.tmp 28) (.tmp 35) 23 rfl w.heap.size 37 i0 _ 2 32 Tryz.underlying23 HI0.out HI1.out HI2.out HI3.out rfl (by omega) (.slice none 0 0) 0 [] rfl (World.ownsRow_nil _ _ _ _) ⟨w.heap.size, 0, none⟩ 1 1 [.string ⟨nm.toArray⟩, .string sx] rfl rfl (fun j u hj => by rw [Addr.add_lit, Nat.zero_add]; exact B.cell_blk HX.out (by simpa using hj)) (by intro u hu; simp at hu; rcases hu with rfl | rfl <;> rfl) (by unfold maxLen; omega) (by omega) (by simp) ?_; intro v' w9 hown' hgrow; obtain ⟨pa, pc, rfl⟩ := B.own_slice hown'; obtain ⟨p1, p2, p3⟩ := after_put (i := 0) (v' := .slice pa 1 pc) (B.below_draws ((Below.refl w.heap.size w).alloc (Nat.le_refl _) _) 1) HG.out hgrow; have HP1 := Lib.hid p1; have HP2 := Lib.hid p2; have HOW := Lib.hid (B.own_set (i := 0) hown' (own_off hown' gl) (.slice pa 1 pc)); have f9 := B.frozen_blk (i := 0) p3; have q9 := B.cell_blk (i := 0) p3 rfl; have l9 := B.blk_lt p3; clear hown' hgrow p1 p2 p3))
      all_goals
        have CE := ends_any _ (some ⟨b, o, none⟩) kc (T.map bare) oi (row_grown HK.out HFK.out HP1.out) HOLE.out
        rw [hlen] at CE
        have HCE := Lib.hid CE
        clear CE
        go_wp2_with fail
        refine HCE.out.mono ?_
        rintro e w1 ⟨rfl, hw⟩
        subst hw
        go_wp2_with fail
        go_ret
        exact ⟨HP1.out, rfl, fun _ => ⟨_, _, _, _, HP2.out, gro_gp (by rw [show bytes ov = sx from (of_list HSX.out).symm]; exact HOW.out)⟩⟩
end Go.Proofs.YtjgcjnkeeiaafaaGreatDoor.P3.D

namespace Go.Proofs.YtjgcjnkeeiaafaaGreatDoor
open Go.RowKit Go.Shelf
theorem rbox {w wr : World} {g : Gr} {cs : Array Value} {T : TypeId} (hB : Below (w.heap.size + 2) ((boxW w g).alloc (.cells cs T)) wr) :
    (wr.cell? ⟨w.heap.size, 0, none⟩ = some (.slice g.ga g.gs.length g.gc) ∧ wr.cell? ⟨w.heap.size, 1, none⟩ = some (.slice g.ea g.es.length g.ec) ∧ wr.cell? ⟨w.heap.size, 2, none⟩ = some (.slice g.ra g.rs.length g.rc) ∧ wr.cell? ⟨w.heap.size, 3, none⟩ = some (.slice g.ua g.us.length g.uc)) ∧
    ∀ j u, cs[j]? = some u → wr.cell? ⟨w.heap.size + 1, j, none⟩ = some u := by
  refine ⟨box_cells (((Below.refl _ _).alloc (by rw [box_size]; omega) _).trans (hB.mono (by omega))), fun j u hu => ?_⟩
  have hh := heap_new (boxW w g) (.cells cs T)
  rw [box_size] at hh
  exact cell_blk ((hB.block (w.heap.size + 1) (by omega)).trans hh) hu
theorem rbox_old {w wr : World} {g : Gr} {cs : Array Value} {T : TypeId} (hB : Below (w.heap.size + 2) ((boxW w g).alloc (.cells cs T)) wr) : Below w.heap.size w wr :=
  (box_below w g).trans (((Below.refl _ _).alloc (by rw [box_size]; omega) _).trans (hB.mono (by omega)))
theorem rbox_more {w w1 w2 : World} {g : Gr} {cs : Array Value} {T : TypeId} (h1 : Below (w.heap.size + 2) ((boxW w g).alloc (.cells cs T)) w1) (h2 : Below w1.heap.size w1 w2) : Below (w.heap.size + 2) ((boxW w g).alloc (.cells cs T)) w2 :=
  h1.trans (h2.mono (by have := h1.size; rw [World.size_alloc, box_size] at this; exact this))
theorem rbox_size (w : World) (g : Gr) (o : Obj) : ((boxW w g).alloc o).heap.size = w.heap.size + 2 := by rw [World.size_alloc, box_size]
theorem ahead_has {α : Type} [BEq α] [LawfulBEq α] {l : List α} {k : α} {i : Nat} (h : i ≤ l.length) : (hasB l k && aheadB l k i) = aheadB l k i := by
  cases ha : aheadB l k i with
  | false => rw [Bool.and_false]
  | true =>
    unfold aheadB at ha
    rw [decide_eq_true_eq] at ha
    rw [Bool.and_true]
    exact List.contains_iff_mem.2 (List.idxOf_lt_length_iff.1 (by omega))
theorem gns_len (g : Gr) : (gns g).length = g.gs.length := List.length_map _
set_option maxRecDepth 100000 in
set_option maxHeartbeats 2000000 in
theorem rgroup_any (w : World) (g : Gr) (i : Nat) (hI : InG w g) (hz : SzG g) (hi : i < g.gs.length) :
    Calls Tryz.prog 44 #[.agg #[.slice g.ga g.gs.length g.gc, .slice g.ea g.es.length g.ec, .slice g.ra g.rs.length g.rc, .slice g.ua g.us.length g.uc], .int .i64 i] w fun e w' => e = .returned (.int .i64 (groupE g i)) ∧ Below w.heap.size w w' := by
  obtain ⟨b, off, hA, hb, hc⟩ := hI.gs.at_ (k := 2) (fun _ => rfl) (by omega) hi
  have k0 := hc 0 _ rfl
  rw [Nat.add_zero] at k0
  have k1 := hc 1 _ rfl
  have HI := Lib.hid hI
  clear hI hc
  have z1 := hz.gs
  obtain ⟨hsn, hsp⟩ := hz.gp _ (mem_at hi)
  clear hz
  rw [← (box_below w g).cell (p := ⟨b, _, none⟩) hb] at k0 k1
  have i0 : (0 : Int) ≤ (i : Int) := Int.natCast_nonneg _
  have i1 : (i : Int) < (g.gs.length : Int) := by omega
  have HE : Hid (groupE g i = if nameK g.gs[i]!.name.toList then
    if aheadB (gns g) g.gs[i]!.name.toList i then 6
    else if g.gs[i]!.parent.toList == [] then 0
    else if aheadB (gns g) g.gs[i]!.parent.toList i then 0 else 10
    else 5) := Lib.hid (by unfold groupE; rw [ahead_has (by rw [gns_len]; omega)])
  have C0 := fun W => Lib.hid (rname_any g.gs[i]!.name W hsn)
  have C1 := fun W hW => Lib.hid (hasGroup_any W g g.gs[i]!.name i hW z1 (Nat.le_of_lt hi))
  have C2 := fun W hW => Lib.hid (hasGroup_any W g g.gs[i]!.parent i hW z1 (Nat.le_of_lt hi))
  generalize g.gs[i]! = p at *
  unfold boxW at k0 k1
  cases hn : nameK p.name.toList with
  | false =>
    rw [hn] at C0 HE
    clear hn
    rw [hA] at k0 k1 ⊢
    have HA := Lib.hid hA
    clear hA
    go_enter Tryz.func44, Tryz.ntmps44
    go_wp2_with fail
    refine (C0 _).out.mono ?_
    rintro e w1 ⟨rfl, hb1⟩
    rw [← HA.out] at hb1
    rw [show ((w.alloc _).alloc _).heap.size = w.heap.size + 2 from rbox_size w g _] at hb1
    go_wp2_with fail
    go_ret
    exact ⟨ret_i64 (by rw [HE.out]; rfl), rbox_old hb1⟩
  | true =>
    rw [hn] at C0 HE
    clear hn
    cases h1 : aheadB (gns g) p.name.toList i with
    | true =>
      rw [h1] at C1 HE
      clear h1
      rw [hA] at k0 k1 ⊢
      have HA := Lib.hid hA
      clear hA
      go_enter Tryz.func44, Tryz.ntmps44
      go_wp2_with fail
      refine (C0 _).out.mono ?_
      rintro e w1 ⟨rfl, hb1⟩
      rw [← HA.out] at hb1
      rw [show ((w.alloc _).alloc _).heap.size = w.heap.size + 2 from rbox_size w g _] at hb1
      obtain ⟨⟨a0, a1, a2, a3⟩, hx⟩ := rbox hb1
      have x0 : w1.cell? ⟨w.heap.size + 1, 0, none⟩ = some (.string p.name) := hx 0 _ rfl
      have x1 : w1.cell? ⟨w.heap.size + 1, 1, none⟩ = some (.string p.parent) := hx 1 _ rfl
      clear hx k0 k1
      go_wp2_with fail
      refine (C1 _ (HI.out.below (Nat.le_refl _) (rbox_old hb1))).out.mono ?_
      rintro e w2 ⟨rfl, hb2⟩
      have hB2 := rbox_more hb1 hb2
      go_wp2_with fail
      go_ret
      exact ⟨ret_i64 (by rw [HE.out]; rfl), rbox_old hB2⟩
    | false =>
      rw [h1] at C1 HE
      clear h1
      cases hp : (p.parent.toList == []) with
      | true =>
        rw [hp] at HE
        rw [hA] at k0 k1 ⊢
        have HA := Lib.hid hA
        clear hA
        go_enter Tryz.func44, Tryz.ntmps44
        go_wp2_with fail
        refine (C0 _).out.mono ?_
        rintro e w1 ⟨rfl, hb1⟩
        rw [← HA.out] at hb1
        rw [show ((w.alloc _).alloc _).heap.size = w.heap.size + 2 from rbox_size w g _] at hb1
        obtain ⟨⟨a0, a1, a2, a3⟩, hx⟩ := rbox hb1
        have x0 : w1.cell? ⟨w.heap.size + 1, 0, none⟩ = some (.string p.name) := hx 0 _ rfl
        have x1 : w1.cell? ⟨w.heap.size + 1, 1, none⟩ = some (.string p.parent) := hx 1 _ rfl
        clear hx k0 k1
        go_wp2_with fail
        refine (C1 _ (HI.out.below (Nat.le_refl _) (rbox_old hb1))).out.mono ?_
        rintro e w2 ⟨rfl, hb2⟩
        have hB2 := rbox_more hb1 hb2
        obtain ⟨⟨a0', a1', a2', a3'⟩, hx⟩ := rbox hB2
        have x1' : w2.cell? ⟨w.heap.size + 1, 1, none⟩ = some (.string p.parent) := hx 1 _ rfl
        clear hx a0 a1 a2 a3 x0 x1
        go_wp2_with fail
        go_ret
        exact ⟨ret_i64 (by rw [HE.out]; rfl), rbox_old hB2⟩
      | false =>
        rw [hp] at HE
        cases h2 : aheadB (gns g) p.parent.toList i with
        | _ =>
          rw [h2] at C2 HE
          clear h2
          rw [hA] at k0 k1 ⊢
          have HA := Lib.hid hA
          clear hA
          go_enter Tryz.func44, Tryz.ntmps44
          go_wp2_with fail
          refine (C0 _).out.mono ?_
          rintro e w1 ⟨rfl, hb1⟩
          rw [← HA.out] at hb1
          rw [show ((w.alloc _).alloc _).heap.size = w.heap.size + 2 from rbox_size w g _] at hb1
          obtain ⟨⟨a0, a1, a2, a3⟩, hx⟩ := rbox hb1
          have x0 : w1.cell? ⟨w.heap.size + 1, 0, none⟩ = some (.string p.name) := hx 0 _ rfl
          have x1 : w1.cell? ⟨w.heap.size + 1, 1, none⟩ = some (.string p.parent) := hx 1 _ rfl
          clear hx k0 k1
          go_wp2_with fail
          refine (C1 _ (HI.out.below (Nat.le_refl _) (rbox_old hb1))).out.mono ?_
          rintro e w2 ⟨rfl, hb2⟩
          have hB2 := rbox_more hb1 hb2
          obtain ⟨⟨a0', a1', a2', a3'⟩, hx⟩ := rbox hB2
          have x1' : w2.cell? ⟨w.heap.size + 1, 1, none⟩ = some (.string p.parent) := hx 1 _ rfl
          clear hx a0 a1 a2 a3 x0 x1
          go_wp2_with fail
          refine (C2 _ (HI.out.below (Nat.le_refl _) (rbox_old hB2))).out.mono ?_
          rintro e w3 ⟨rfl, hb3⟩
          have hB3 := rbox_more hB2 hb3
          clear a0' a1' a2' a3' x1'
          go_wp2_with fail
          go_ret
          exact ⟨ret_i64 (by rw [HE.out]; rfl), rbox_old hB3⟩
end Go.Proofs.YtjgcjnkeeiaafaaGreatDoor

namespace Go.Proofs.YtjgcjnkeeiaafaaGreatDoor
open Go.RowKit Go.Shelf
set_option maxRecDepth 100000 in
set_option maxHeartbeats 1000000 in
theorem rthere_any (w : World) (g : Gr) (s : ByteArray) (hI : InG w g) (hz : SzG g) :
    Calls Tryz.prog 90 #[.agg #[.slice g.ga g.gs.length g.gc, .slice g.ea g.es.length g.ec, .slice g.ra g.rs.length g.rc, .slice g.ua g.us.length g.uc], .string s] w fun e w' => e = .returned (.bool (thereB g s.toList)) ∧ Below w.heap.size w w' := by
  have HI := Lib.hid hI
  clear hI
  have z1 := hz.gs
  have z2 := hz.es
  clear hz
  have HT : Hid (thereB g s.toList = (hasB (ens g) s.toList || hasB (gns g) s.toList)) := Lib.hid rfl
  have C1 := fun W hW => Lib.hid (hasGroup_any W g s g.gs.length hW z1 (Nat.le_refl _))
  have C2 := fun W hW => Lib.hid (hasEvent_any W g s g.es.length hW z2 (Nat.le_refl _))
  rw [show aheadB (gns g) s.toList g.gs.length = hasB (gns g) s.toList from ahead_all Gp.name] at C1
  rw [show aheadB (ens g) s.toList g.es.length = hasB (ens g) s.toList from ahead_all Ev.name] at C2
  have hbx := box_below w g
  cases h1 : hasB (gns g) s.toList with
  | true =>
    rw [h1] at C1 HT
    clear h1
    go_enter Tryz.func90, Tryz.ntmps90
    go_wp2_with fail
    refine (C1 _ (HI.out.below (Nat.le_refl _) hbx)).out.mono ?_
    rintro e w1 ⟨rfl, hb1⟩
    go_wp2_with fail
    go_ret
    exact ⟨ret_bool (by rw [HT.out, Bool.or_true]), hbx.trans (hb1.mono hbx.size)⟩
  | false =>
    rw [h1] at C1 HT
    clear h1
    go_enter Tryz.func90, Tryz.ntmps90
    go_wp2_with fail
    refine (C1 _ (HI.out.below (Nat.le_refl _) hbx)).out.mono ?_
    rintro e w1 ⟨rfl, hb1⟩
    have hB1 : Below (w.heap.size + 1) (boxW w g) w1 := by rw [← box_size w g]; exact hb1
    obtain ⟨a0, a1, a2, a3⟩ := box_cells hB1
    have hbw := hbx.trans (hb1.mono hbx.size)
    go_wp2_with fail
    refine (C2 _ (HI.out.below (Nat.le_refl _) hbw)).out.mono ?_
    rintro e w2 ⟨rfl, hb2⟩
    go_wp2_with fail
    go_ret
    exact ⟨ret_bool (by rw [HT.out, Bool.or_false]), hbw.trans (hb2.mono hbw.size)⟩
end Go.Proofs.YtjgcjnkeeiaafaaGreatDoor
