/-
  Contracts of Net.has, and of the closure by which a walk comes to a point.
-/
import Derived.Test.YtigicbnkfmbolaaCac
import Derived.Maps.AppendAt
namespace Go.Proofs.Ytigicbnkfmbolaa.R6
open Go.RowKit Go.Shelf Go.Proofs.Ytigicbnkfmbolaa.B
def hasI (n : Nat) (i : Int) : Bool := decide (0 ≤ i) && decide (i < (n : Int))
set_option maxHeartbeats 400000 in
theorem has_any (A : Option Addr) (n c : Nat) (i : Int) (w : World) : Calls Try.prog 72 #[.slice A n c, .int .i64 i] w fun e w' => e = .returned (.bool (hasI n i)) ∧ w = w' := by
  go_enter Try.func72, Try.ntmps72
  go_wp2
  all_goals go_ret
  all_goals exact ⟨ret_bool (by rw [Bool.eq_iff_iff]; simp [hasI]; try omega), rfl⟩
theorem set_map {α : Type} (f : α → Value) (l : List α) (k : Nat) (y : α) : (l.map f).set k (f y) = (l.set k y).map f := by rw [List.map_set]
theorem info_int' : (Try.prog.info? 3).map (fun i => (i.zero, i.size, i.bytes)) = some (some (.int .i64 0), 1, 8) := by kernel_rfl
/-- What a walk's own stores leave. -/
theorem DS.known {x : Cx} {W : World} {K : List Bool} {X : List Int} {P : List Nat} {vp : Value} (h : DS x W K X P vp) (a : Nat) : DS x (W.setCell ⟨x.S + 4, a, none⟩ (.bool true)) (K.set a true) X P vp ∧ Ext (fun k => k = x.S + 4) W (W.setCell ⟨x.S + 4, a, none⟩ (.bool true)) := by
  have he : Ext (fun k => k = x.S + 4) W (W.setCell ⟨x.S + 4, a, none⟩ (.bool true)) := Ext.set W _ rfl
  have hz := h.sz
  have hst := h.kr.stored a (.bool true)
  rw [set_map] at hst
  refine ⟨h.own (fun k => k = x.S + 4) (fun k hk => .inl ⟨by omega, by omega, .inl hk⟩) he hst.1 ?_ ?_ ?_ (fun y hy => h.ze y ?_), he⟩
  · exact own_keep h.xr (fun g hg => he.block g (own_block h.xr hg).2 (fun e => by simp only [Value.ownBlock, Option.some.injEq] at hg; omega))
  · exact (he.block _ (by omega) (by omega)).trans h.pb
  · exact own_keep h.pr (fun g hg => he.block g (own_block h.pr hg).2 (fun e => by have := (own_block h.pr hg).1; omega))
  · rcases Nat.lt_or_ge a K.length with ha | ha
    · rw [set_get ha] at hy
      split at hy
      · cases hy
      · exact hy
    · rw [List.set_eq_of_length_le ha] at hy; exact hy
theorem DS.next {x : Cx} {W : World} {K : List Bool} {X : List Int} {P : List Nat} {vp : Value} (h : DS x W K X P vp) (a : Nat) (i : Int) (ha : K[a]! = true) : DS x (W.setCell ⟨x.S + 6, a, none⟩ (.int .i64 i)) K (X.set a i) P vp ∧ Ext (fun k => k = x.S + 6) W (W.setCell ⟨x.S + 6, a, none⟩ (.int .i64 i)) := by
  have he : Ext (fun k => k = x.S + 6) W (W.setCell ⟨x.S + 6, a, none⟩ (.int .i64 i)) := Ext.set W _ rfl
  have hz := h.sz
  have hst := h.xr.stored a (.int .i64 i)
  rw [set_map] at hst
  refine ⟨h.own (fun k => k = x.S + 6) (fun k hk => .inl ⟨by omega, by omega, .inr (.inl hk)⟩) he ?_ hst.1 ?_ ?_ (fun y hy => ?_), he⟩
  · exact own_keep h.kr (fun g hg => he.block g (own_block h.kr hg).2 (fun e => by simp only [Value.ownBlock, Option.some.injEq] at hg; omega))
  · exact (he.block _ (by omega) (by omega)).trans h.pb
  · exact own_keep h.pr (fun g hg => he.block g (own_block h.pr hg).2 (fun e => by have := (own_block h.pr hg).1; omega))
  · rcases Nat.lt_or_ge a X.length with hl | hl
    · rw [set_get hl]
      split
      · rename_i e; subst e; rw [ha] at hy; cases hy
      · exact h.ze y hy
    · rw [List.set_eq_of_length_le hl]; exact h.ze y hy
/-- A row that grew, and is stored into its box. -/
theorem DS.pushed {x : Cx} {W W1 : World} {K : List Bool} {X : List Int} {P : List Nat} {vp v' : Value} {a : Nat} (h : DS x W K X P vp) (ho : W1.ownsRow (x.S + 11) 3 1 v' (P.length + 1) (P.map iv ++ [iv a])) (hg : W.grownBy W1 vp.ownBlock) :
    DS x (W1.setCell ⟨x.S + 8, 0, none⟩ v') K X (P ++ [a]) v' ∧ Ext (fun k => k = x.S + 8 ∨ vp.ownBlock = some k) W (W1.setCell ⟨x.S + 8, 0, none⟩ v') ∧ W1.heap[x.S + 8]? = some (.cells #[vp] 33 (0, 0)) := by
  have hz := h.sz
  have he : Ext (fun k => k = x.S + 8 ∨ vp.ownBlock = some k) W W1 := ⟨hg.os, hg.tape, hg.output, hg.size, fun k hk hn => hg.block k hk (fun e => hn (.inr e.symm))⟩
  have he2 : Ext (fun k => k = x.S + 8 ∨ vp.ownBlock = some k) W (W1.setCell ⟨x.S + 8, 0, none⟩ v') := he.trans (Ext.set (F := fun k => k = x.S + 8) W1 v' rfl) (fun i hi => .inl (.inl hi))
  have hpb : W1.heap[x.S + 8]? = some (.cells #[vp] 33 (0, 0)) := (hg.block _ (by omega) (fun e => by have := (own_block h.pr e.symm).1; omega)).trans h.pb
  refine ⟨h.own _ (fun k hk => ?_) he2 ?_ ?_ ?_ ?_ h.ze, he2, hpb⟩
  · rcases hk with hk | hk
    · exact .inl ⟨by omega, by omega, .inr (.inr hk)⟩
    · exact .inr hk
  · exact own_keep h.kr (fun g hg => he2.block g (own_block h.kr hg).2 (fun e => by
      simp only [Value.ownBlock, Option.some.injEq] at hg
      rcases e with e | e
      · omega
      · have := (own_block h.pr e).1; omega))
  · exact own_keep h.xr (fun g hg => he2.block g (own_block h.xr hg).2 (fun e => by
      simp only [Value.ownBlock, Option.some.injEq] at hg
      rcases e with e | e
      · omega
      · have := (own_block h.pr e).1; omega))
  · rw [blk_set hpb]; rfl
  · rw [List.length_append, List.map_append]
    refine own_keep ho (fun g hg => blk_other ?_)
    have := (own_block ho hg).1; omega
theorem map_get {α : Type} [Inhabited α] (f : α → Value) {l : List α} {i : Nat} (h : i < l.length) : (l.map f)[i]? = some (f l[i]!) := by
  rw [List.getElem?_map, List.getElem?_eq_getElem h, getElem!_pos l i h]; rfl
theorem DS.kl {x : Cx} {W : World} {K : List Bool} {X : List Int} {P : List Nat} {vp : Value} (h : DS x W K X P vp) : K.length = x.rs.length := by have := h.kr.1; simpa using this
theorem DS.xl {x : Cx} {W : World} {K : List Bool} {X : List Int} {P : List Nat} {vp : Value} (h : DS x W K X P vp) : X.length = x.rs.length := by have := h.xr.1; simpa using this
theorem DS.kc {x : Cx} {W : World} {K : List Bool} {X : List Int} {P : List Nat} {vp : Value} (h : DS x W K X P vp) {a : Nat} (ha : a < x.rs.length) : W.cell? ⟨x.S + 4, a, none⟩ = some (.bool K[a]!) := (h.kr.cellAt a (by omega)).trans (map_get _ (by rw [h.kl]; exact ha))
theorem DS.xc {x : Cx} {W : World} {K : List Bool} {X : List Int} {P : List Nat} {vp : Value} (h : DS x W K X P vp) {a : Nat} (ha : a < x.rs.length) : W.cell? ⟨x.S + 6, a, none⟩ = some (.int .i64 X[a]!) := (h.xr.cellAt a (by omega)).trans (map_get _ (by rw [h.xl]; exact ha))
theorem Sep.none (x : Cx) (vp : Value) : Sep x (fun _ => False) vp := ⟨fun _ h => h.elim, fun _ _ h => h⟩
theorem DS.below {x : Cx} {W W' : World} {K : List Bool} {X : List Int} {P : List Nat} {vp : Value} (h : DS x W K X P vp) (hb : Below W.heap.size W W') : DS x W' K X P vp := h.user (Sep.none x vp) (Ext.of_below hb)
theorem UO.below {σ : Type} {Pg : Program} {x : Cx} {o : Op σ} {U : σ → World → (Nat → Prop) → Prop} {Q Ql : Nat → σ → Prop} {fc fw fl : Nat} {cc cw cl : Array Value} (u : UO Pg x o U Q Ql fc fw fl cc cw cl) {s : σ} {W W' : World} {F : Nat → Prop} (h : U s W F) (hb : Below W.heap.size W W') : U s W' F :=
  u.own (G := fun _ => False) h (fun _ _ h => h) (Ext.of_below hb)
theorem DD.below {σ : Type} {Pg : Program} {x : Cx} {o : Op σ} {U : σ → World → (Nat → Prop) → Prop} {Q Ql : Nat → σ → Prop} {fc fw fl : Nat} {cc cw cl : Array Value} (u : UO Pg x o U Q Ql fc fw fl cc cw cl) {W W' : World} {s : St σ} {X : List Int} {P : List Nat} (h : DD x U W s X P) (hb : Below W.heap.size W W') : DD x U W' s X P := by
  obtain ⟨vp, F, h1, h2, h3⟩ := h
  exact ⟨vp, F, h1.below hb, u.below h2 hb, h3⟩
variable {σ : Type} {x : Cx} {o : Op σ} {U : σ → World → (Nat → Prop) → Prop} {Q Ql : Nat → σ → Prop} {fc fw fl : Nat} {cc cw cl : Array Value}
set_option maxRecDepth 100000 in
set_option maxHeartbeats 2000000 in
theorem goTo_any (u : UO Try.prog x o U Q Ql fc fw fl cc cw cl) (W : World) (s : St σ) (X : List Int) (P : List Nat) (a : Nat) (h : DD x U W s X P) (ha : a < x.rs.length) (hP : P.length ≤ 100000) (hQ : Q a s.2) :
    Calls Try.prog 70 #[iv a, pt (x.S + 5), pt (x.S + 8), pt (x.S + 1)] W fun e W' => (∃ v, e = .returned v) ∧ DD x U W' (goT o a s) X (P ++ [a]) := by
  obtain ⟨i0, hi0, hi1, hi2, hi3⟩ := info_parts info_int'
  obtain ⟨vp, F, hd, hu, hs⟩ := h
  have hz := hd.sz
  obtain ⟨va, vc, rfl⟩ := own_slice hd.pr
  obtain ⟨h1, e1⟩ := hd.known a
  have hlt : x.S + 4 < W.heap.size := by omega
  have hlt5 : x.S + 5 < W.heap.size := by omega
  have hlt8 : x.S + 8 < W.heap.size := by omega
  have hlt1 : x.S + 1 < W.heap.size := by omega
  have cK : W.cell? ⟨x.S + 5, 0, none⟩ = some (rowAt (x.S + 4) x.rs.length) := cell_blk (i := 0) hd.fx.k rfl
  have cP : W.cell? ⟨x.S + 8, 0, none⟩ = some (.slice va P.length vc) := cell_blk (i := 0) hd.pb rfl
  have cC : W.cell? ⟨x.S + 1, 0, none⟩ = some (.func (.func fc) #[] cc) := by rw [← u.vc]; exact cell_blk (i := 0) hd.fx.fc rfl
  have fP : W.frozen? ⟨x.S + 8, 0, none⟩ = false := frozen_blk (i := 0) hd.pb
  have fr4 := hd.kr.frozenAt a
  have hc4 := hd.kc ha
  have hk0 : (0 : Int) ≤ (a : Int) := Int.natCast_nonneg _
  have hk1 : (a : Int) < (x.rs.length : Int) := by omega
  have H1 := Lib.hid h1
  have HS := Lib.hid hs
  have hu1 := u.own hu (own_off hs (fun k hk => .inl ⟨by omega, by omega, .inl hk⟩)) e1
  have HU := Lib.hid hu1
  have hu2 := Lib.hid u
  have HQ := Lib.hid hQ
  have ec := u.ec
  obtain ⟨W1, hW1⟩ : ∃ W1, W1 = W.setCell ⟨x.S + 4, a, none⟩ (.bool true) := ⟨_, rfl⟩
  have HW1 := Lib.hid hW1
  clear hd hu hs hQ u h1 e1 hu1 hW1
  go_enter Try.func70, Try.ntmps70
  go_wp2_with (at_builtin; refine wpList_append_own_at _ rfl (.tmp 8) (.tmp 10) 33 rfl (x.S + 11) 3 i0 _ 1 8 Try.underlying33 hi0 hi1 hi2 hi3 rfl (by omega) _ _ _ rfl (H1.out.pr.alloc _) ⟨W.heap.size, 0, none⟩ 1 1 [iv a] rfl rfl ?c1 ?c2 ?c3 ?c4 ?c5 ?_)
  case c1 =>
    intro j v hj
    have hn := heap_new (W.setCell ⟨x.S + 4, a, none⟩ (.bool true)) (.cells #[iv a] 3)
    rw [World.size_setCell] at hn
    match j, hj with
    | 0, hj => cases hj; exact cell_blk hn rfl
  case c2 => intro v hv; simp at hv; rw [hv]; rfl
  case c3 => unfold maxLen; omega
  case c4 => omega
  case c5 => rw [World.size_alloc, World.size_setCell]; omega
  intro v' w4 hown' hgrow _ hat
  obtain ⟨va', vc', rfl⟩ := own_slice hown'
  have hb1 := (Below.refl (W.setCell ⟨x.S + 4, a, none⟩ (.bool true)).heap.size (W.setCell ⟨x.S + 4, a, none⟩ (.bool true))).alloc (Nat.le_refl _) (.cells #[iv a] 3)
  have h2 := H1.out.below hb1
  have u2 := hu2.out.below HU.out hb1
  obtain ⟨h3, e3, b4⟩ := h2.pushed (a := a) hown' hgrow
  have f4 := frozen_blk (i := 0) b4
  have p4 : w4.cell? ⟨x.S + 8, 0, none⟩ = some (.slice va P.length vc) := cell_blk (i := 0) b4 rfl
  have u3 := hu2.out.own u2 (own_off HS.out (fun k hk => by
    rcases hk with hk | hk
    · exact .inl ⟨by omega, by omega, .inr (.inr hk)⟩
    · exact .inr hk)) e3
  have s3 : Sep x F (.slice va' (P.length + 1) vc') := ⟨HS.out.f, fun g hg hf => by
    rcases hat with h' | h'
    · exact HS.out.p g (h'.symm.trans hg) hf
    · rw [hg] at h'
      injection h' with h'
      have := hu2.out.lt _ _ _ g HU.out hf
      rw [World.size_setCell] at this; omega⟩
  have c4 : w4.cell? ⟨x.S + 1, 0, none⟩ = some (.func (.func fc) #[] cc) := by
    rw [← hu2.out.vc]
    exact cell_blk (i := 0) ((blk_other (v := .slice va' (P.length + 1) vc') (b := x.S + 8) (i := 0) (by omega)).symm.trans h3.fx.fc) rfl
  have z4 : x.S + 11 ≤ w4.heap.size := by have := h3.sz; rw [World.size_setCell] at this; exact this
  have C := Lib.hid (hu2.out.come s.2 _ F a u3 ha HQ.out)
  have H3 := Lib.hid h3
  have S3 := Lib.hid s3
  clear hown' hgrow b4 h3 e3 u3 s3 u2 h2 hb1 H1 HU HS
  go_wp2_with fail
  refine C.out.mono ?_
  rintro e w5 ⟨⟨v, rfl⟩, F', hu5, he5, hF5⟩
  have h5 := H3.out.user S3.out he5
  have s5 := S3.out.user H3.out hF5
  clear C
  go_wp2_with fail
  go_end0
  exact ⟨⟨_, rfl⟩, _, F', h5, hu5, s5⟩
end Go.Proofs.Ytigicbnkfmbolaa.R6
