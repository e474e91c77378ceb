/-
  Contract of the closure by which a walk goes on from a point. Contract of the function that a walker hands back.
-/
import Derived.Test.YtigicbnkfmbolaaCad
namespace Go.Proofs.Ytigicbnkfmbolaa.R6
open Go.RowKit Go.Shelf Go.Proofs.Ytigicbnkfmbolaa.B
/-- What a cell of ints holds. -/
def cellI (w : World) (p : Addr) : Int := match w.cell? p with | some (.int _ i) => i | _ => 0
theorem cellI_of {w : World} {p : Addr} {i : Int} (h : w.cell? p = some (.int .i64 i)) : cellI w p = i := by unfold cellI; rw [h]
theorem last_at (P : List Nat) (a : Nat) : ((P ++ [a]).map iv)[P.length]? = some (iv a) := by simp
variable {σ : Type} {x : Cx} {o : Op σ} {U : σ → World → (Nat → Prop) → Prop} {Q Ql : Nat → σ → Prop} {fc fw fl : Nat} {cc cw cl : Array Value}
theorem wr_draw (w : World) (n : Nat) : Below w.heap.size w (w.drewN n) := below_draws (Below.refl _ _) n
/-- The search so far: the first i ways of a point are gone. -/
def tI (x : Cx) (o : Op σ) (f a : Nat) (s : St σ) (i : Nat) : St σ := (wyR x.net.length (x.rs[a]!.l.take i)).foldl (stepD o (dfs x.net o f) a) s
theorem tI_zero (x : Cx) (o : Op σ) (f a : Nat) (s : St σ) : tI x o f a s 0 = s := by simp [tI, wyR]
theorem tI_all (x : Cx) (o : Op σ) (f a : Nat) (s : St σ) {i : Nat} (hi : i = x.rs[a]!.l.length) : dfs x.net o (f + 1) a s = ((tI x o f a s i).1, o.leave a (tI x o f a s i).2) := by
  subst hi
  unfold tI
  rw [List.take_length, dfs, wy_R, show x.net[a]! = x.rs[a]!.l from net_at _ _]
theorem tI_skip {f a i : Nat} {s : St σ} (hi : i < x.rs[a]!.l.length) (h : hasI x.rs.length x.rs[a]!.l[i]! = false) : tI x o f a s (i + 1) = tI x o f a s i := by
  unfold tI
  rw [wyR_next hi, if_neg, List.append_nil]
  rintro ⟨h1, h2⟩
  rw [show x.net.length = x.rs.length from net_len _] at h2
  have : hasI x.rs.length x.rs[a]!.l[i]! = true := by unfold hasI; rw [decide_eq_true h1, decide_eq_true h2]; rfl
  rw [this] at h; cases h
theorem tI_go {f a i b : Nat} {s : St σ} (hi : i < x.rs[a]!.l.length) (hb : x.rs[a]!.l[i]! = (b : Int)) (hlt : b < x.rs.length) : tI x o f a s (i + 1) = stepD o (dfs x.net o f) a (tI x o f a s i) b ∧ b ∈ wy x.net a := by
  constructor
  · unfold tI
    rw [wyR_next hi, hb, if_pos ⟨by omega, by rw [show x.net.length = x.rs.length from net_len _]; omega⟩, List.foldl_append]
    rfl
  · rw [wy_mem]
    refine ⟨?_, by rw [show x.net.length = x.rs.length from net_len _]; exact hlt⟩
    rw [show x.net[a]! = x.rs[a]!.l from net_at _ _, ← hb, getElem!_pos _ i hi]
    exact List.getElem_mem hi
/-- The path's last point is taken away. -/
theorem DS.popped {x : Cx} {W : World} {K : List Bool} {X : List Int} {P : List Nat} {A : Option Addr} {c a : Nat} (h : DS x W K X (P ++ [a]) (.slice A (P.length + 1) c)) :
    DS x (W.setCell ⟨x.S + 8, 0, none⟩ (.slice A P.length c)) K X P (.slice A P.length c) ∧ Ext (fun k => k = x.S + 8) W (W.setCell ⟨x.S + 8, 0, none⟩ (.slice A P.length c)) := by
  have hz := h.sz
  have he : Ext (fun k => k = x.S + 8) W (W.setCell ⟨x.S + 8, 0, none⟩ (.slice A P.length c)) := Ext.set (F := fun k => k = x.S + 8) W _ rfl
  refine ⟨h.own _ (fun k hk => .inl ⟨by omega, by omega, .inr (.inr hk)⟩) he ?_ ?_ ?_ ?_ h.ze, he⟩
  · exact own_keep h.kr (fun g hg => he.block g (own_block h.kr hg).2 (fun e => by simp only [Value.ownBlock, Option.some.injEq] at hg; omega))
  · exact own_keep h.xr (fun g hg => he.block g (own_block h.xr hg).2 (fun e => by simp only [Value.ownBlock, Option.some.injEq] at hg; omega))
  · rw [blk_set h.pb]; rfl
  · have hp := h.pr
    rw [List.length_append, List.length_singleton] at hp
    have h2 := own_take (m := P.length) hp (by omega)
    have e : ((P ++ [a]).map iv).take P.length = P.map iv := by rw [List.map_append, List.take_append_of_le_length (by simp), List.take_of_length_le (by simp)]
    rw [e] at h2
    exact own_keep h2 (fun g hg => he.block g (own_block h2 hg).2 (fun e => by have := (own_block h2 hg).1; omega))
theorem Sep.popped {x : Cx} {F : Nat → Prop} {A : Option Addr} {n m c : Nat} (h : Sep x F (.slice A n c)) : Sep x F (.slice A m c) := ⟨h.f, fun g hg => h.p g (by cases A <;> exact hg)⟩
set_option maxRecDepth 100000 in
set_option maxHeartbeats 4000000 in
theorem visit_any (u : UO Try.prog x o U Q Ql fc fw fl cc cw cl) (hn : NetIn x.w0 x.A x.rs) (hrow : ∀ r ∈ x.rs, r.l.length ≤ 100000)
    {Pre : Nat → St σ → Prop} {Post : Nat → St σ → St σ → Prop} {Inv : Nat → St σ → List Nat → St σ → Prop} (R : Rule x.net o Pre Post Inv)
    (hQ : ∀ a s ws t b, Inv a s ws t → b ∈ wy x.net a → t.1[b]! = false → Q b t.2) (hL : ∀ a s t, Inv a s (wy x.net a) t → Ql a t.2) :
    ∀ (f : Nat) (a calls : Nat) (s : St σ) (X : List Int) (P : List Nat) (W : World), a < x.rs.length → unk s.1 < f → Pre a s → s.1[a]! = true → X[a]! = 0 → calls + unk s.1 ≤ 1000 → P.length + unk s.1 ≤ 1000 → DD x U W s X (P ++ [a]) →
      Calls Try.prog 71 #[iv calls, pt (x.S + 8), pt (x.S + 7), pt x.S, pt (x.S + 5), pt (x.S + 9), pt (x.S + 10), pt (x.S + 2), pt (x.S + 3)] W fun e W' =>
        (∃ v, e = .returned v) ∧ ∃ X', DD x U W' (dfs x.net o f a s) X' P ∧ ∀ y : Nat, s.1[y]! = true → y ≠ a → X'[y]! = X[y]! := by
  intro f
  induction f with
  | zero => intro a calls s X P W _ h; omega
  | succ f ih =>
    intro a calls s X P W ha hun hpre hka hxa hcal hP h
    have IH := Lib.hid ih
    have HN := Lib.hid hn
    have HR := Lib.hid hrow
    have RR := Lib.hid R
    have HQ := Lib.hid hQ
    have HL := Lib.hid hL
    have UU := Lib.hid u
    have HPR := Lib.hid hpre
    have HUN := Lib.hid hun
    have HKA := Lib.hid hka
    have e41 := enters_of Try.func70 (by kernel_rfl) rfl
    have e42 := enters_of Try.func71 (by kernel_rfl) rfl
    have ew := u.ew
    have el := u.el
    have HD := Lib.hid h
    obtain ⟨vp, F, hd, hu, hs⟩ := h
    have hz := hd.sz
    have hkl := hd.kl
    have hpr := hd.pr
    rw [List.length_append, List.length_singleton] at hpr
    obtain ⟨va, vc, rfl⟩ := own_slice hpr
    have cP : W.cell? ⟨x.S + 8, 0, none⟩ = some (.slice va (P.length + 1) vc) := cell_blk (i := 0) hd.pb rfl
    obtain ⟨g, gc, hg, hg1, hg2⟩ := own_head hpr (by omega)
    injection hg with hga hgb hgc
    subst hga
    have cL : W.cell? ⟨g, P.length, none⟩ = some (iv a) := (hpr.cellAt P.length (by omega)).trans (last_at P a)
    have hlt8 : x.S + 8 < W.heap.size := by omega
    have HKL := Lib.hid hkl
    clear ih hn hrow R hQ hL u hpre hun hd hu hs hka hkl hpr
    go_enter Try.func71, Try.ntmps71
    go_wp2_with fail
    go_loopw [12] (fun _ wr => ∃ (i : Nat) (X1 : List Int), i ≤ x.rs[a]!.l.length ∧ X1[a]! = (i : Int) ∧ Hid (DD x U wr (tI x o f a s i) X1 (P ++ [a])) ∧ Hid (∀ y : Nat, s.1[y]! = true → y ≠ a → X1[y]! = X[y]!)) (fun _ wr => x.rs[a]!.l.length - (cellI wr ⟨x.S + 6, a, none⟩).toNat)
    case atStart => exact ⟨0, X, Nat.zero_le _, by rw [hxa]; rfl, Lib.hid (by rw [tI_zero]; exact HD.out), Lib.hid (fun _ _ _ => rfl)⟩
    case round =>
      obtain ⟨i, X1, hi, hxi, HD1, HX1⟩ := hrel
      clear HD
      obtain ⟨vp1, F1, hd, hu, hs⟩ := HD1.out
      have hz1 := hd.sz
      obtain ⟨bn, off, hA, hbn, hcn⟩ := HN.out.at_ ha
      rw [← hd.bel.cell (p := ⟨bn, _, none⟩) hbn] at hcn
      have hbz := hd.bel.size
      have cn : wr.cell? ⟨x.S, 0, none⟩ = some (.slice (some ⟨bn, off, none⟩) x.rs.length x.c) := by rw [← hA]; exact cell_blk (i := 0) hd.fx.n rfl
      have cx : wr.cell? ⟨x.S + 7, 0, none⟩ = some (rowAt (x.S + 6) x.rs.length) := cell_blk (i := 0) hd.fx.nx rfl
      have cxa := hd.xc ha
      rw [hxi] at cxa
      have fxa := hd.xr.frozenAt a
      have hme := cellI_of cxa
      have hk0 : (0 : Int) ≤ (a : Int) := Int.natCast_nonneg _
      have hk1 : (a : Int) < (x.rs.length : Int) := by omega
      have hi0 : (0 : Int) ≤ (i : Int) := Int.natCast_nonneg _
      by_cases hlt : i < x.rs[a]!.l.length
      · have hrm : x.rs[a]! ∈ x.rs := Go.Proofs.Ytigicbnkfmbolaa.B.mem_at ha
        obtain ⟨b2, off2, hra, hb2, hc2⟩ := row_at (HN.out.row _ hrm) hlt
        rw [← hd.bel.cell (p := ⟨b2, _, none⟩) hb2] at hc2
        rw [hra] at hcn
        have hrl := HR.out _ hrm
        have hxl := hd.xl
        have hwsub : ∀ b ∈ wyR x.net.length (x.rs[a]!.l.take i), b ∈ wy x.net a := fun b hb => by
          rw [wy_R, show x.net[a]! = x.rs[a]!.l from net_at _ _]; exact wyR_sub b hb
        have hpart := RR.out.part f a s (by rw [show x.net.length = x.rs.length from net_len _]; exact ha) (by rw [HKL.out, show x.net.length = x.rs.length from net_len _]) HUN.out HPR.out (wyR x.net.length (x.rs[a]!.l.take i)) hwsub
        have hka1 : (tI x o f a s i).1[a]! = true := hpart.2.up a HKA.out
        have HSK := fun h => Lib.hid (tI_skip (x := x) (o := o) (f := f) (s := s) hlt h)
        have HGO := fun b hb h => Lib.hid (tI_go (x := x) (o := o) (f := f) (b := b) (s := s) hlt hb h)
        have hi1 : (i : Int) < (x.rs[a]!.l.length : Int) := by omega
        have HPT : Hid (Inv a s (wyR x.net.length (x.rs[a]!.l.take i)) (tI x o f a s i) ∧ LeK s.1 (tI x o f a s i).1) := Lib.hid hpart
        have HDS := Lib.hid hd
        have HU1 := Lib.hid hu
        have HS1 := Lib.hid hs
        have HKA1 := Lib.hid hka1
        have HXI := Lib.hid hxi
        clear hd hu hs hpart hwsub hka1 HD1 hxi
        obtain ⟨t, ht⟩ : ∃ t, t = x.rs[a]!.l[i]! := ⟨_, rfl⟩
        rw [← ht] at hc2 HSK HGO
        have hL : ∃ rl, rl = x.rs[a]!.l.length := ⟨_, rfl⟩
        obtain ⟨rl, hL⟩ := hL
        rw [← hL] at hcn hlt hi hi1 hrl ⊢
        clear ht hL hra
        have CH := fun W => Lib.hid (has_any (some ⟨bn, off, none⟩) x.rs.length x.c t W)
        cases hh : hasI x.rs.length t with
        | false =>
          have HST := (HSK hh).out
          rw [hh] at CH
          have HN6 := fun n => Lib.hid ((HDS.out.below (wr_draw wr n)).next a ((i : Int) + 1) HKA1.out)
          have HUN6 := fun n => Lib.hid (UU.out.own (UU.out.below HU1.out (wr_draw wr n)) (own_off HS1.out (fun k hk => .inl ⟨by omega, by omega, .inr (.inl hk)⟩)) (HN6 n).out.2)
          clear HSK HGO hh
          go_wp2_with fail
          go_quiet (fail)
          go_wp2_with fail
          go_quiet (fail)
          go_wp2_with (go_at_call 72; refine (CH _).out.mono ?_; rintro e w' ⟨rfl, rfl⟩)
          go_roundw
          case rel => exact ⟨i + 1, X1.set a ((i : Int) + 1), by omega, by rw [set_get (by omega), if_pos rfl]; rfl, Lib.hid ⟨vp1, F1, by rw [HST]; exact (HN6 _).out.1, by rw [HST]; exact (HUN6 _).out, HS1.out⟩, Lib.hid (fun y h1 h2 => by rw [set_get (by omega), if_neg h2]; exact HX1.out y h1 h2)⟩
          case measure => rw [cellI_of ((HN6 _).out.1.xc ha), hme, set_get (by omega), if_pos rfl]; omega
        | true =>
          rw [hh] at CH
          obtain ⟨b, rfl⟩ : ∃ b : Nat, t = (b : Int) := ⟨t.toNat, by simp [hasI] at hh; omega⟩
          have hbn : b < x.rs.length := by simp [hasI] at hh; omega
          obtain ⟨HST, hbw⟩ := (HGO b rfl hbn).out
          clear HSK HGO hh
          have ckn : wr.cell? ⟨x.S + 5, 0, none⟩ = some (rowAt (x.S + 4) x.rs.length) := cell_blk (i := 0) HDS.out.fx.k rfl
          have ckb := HDS.out.kc hbn
          have hbk0 : (0 : Int) ≤ (b : Int) := Int.natCast_nonneg _
          have hbk1 : (b : Int) < (x.rs.length : Int) := by omega
          cases hkb : (tI x o f a s i).1[b]! with
          | true =>
            rw [hkb] at ckb
            have cwy : wr.cell? ⟨x.S + 2, 0, none⟩ = some (.func (.func fw) #[] cw) := by rw [← UU.out.vw]; exact cell_blk (i := 0) HDS.out.fx.fw rfl
            have CW := fun n => Lib.hid (UU.out.way (tI x o f a s i).2 (wr.drewN n) F1 a b (UU.out.below HU1.out (wr_draw wr n)) ha hbn)
            have HD2 := fun n => Lib.hid (HDS.out.below (wr_draw wr n))
            have HST2 : Hid (tI x o f a s (i + 1) = ((tI x o f a s i).1, o.way a b (tI x o f a s i).2)) := Lib.hid (by rw [HST]; unfold stepD; rw [hkb]; rfl)
            clear HST hkb
            go_wp2_with fail
            go_quiet (fail)
            go_wp2_with fail
            go_quiet (fail)
            go_wp2_with (go_at_call 72; refine (CH _).out.mono ?_; rintro e w' ⟨rfl, rfl⟩)
            refine (CW _).out.mono ?_
            rintro e w5 ⟨⟨v, rfl⟩, F', hu5, he5, hF5⟩
            have h5 := (HD2 _).out.user HS1.out he5
            have s5 := HS1.out.user (HD2 _).out hF5
            have hka5 := HKA1.out
            have HXE := HXI.out
            have cx5 : w5.cell? ⟨x.S + 7, 0, none⟩ = some (rowAt (x.S + 6) x.rs.length) := cell_blk (i := 0) h5.fx.nx rfl
            have cxa5 := h5.xc ha
            rw [HXE] at cxa5
            have fxa5 := h5.xr.frozenAt a
            have hz5 := h5.sz
            have h6 := h5.next a ((i : Int) + 1) hka5
            have HU6 := Lib.hid (UU.out.own hu5 (own_off s5 (fun k hk => .inl ⟨by omega, by omega, .inr (.inl hk)⟩)) h6.2)
            have H6 := Lib.hid h6.1
            have S6 := Lib.hid s5
            clear h6 h5 s5 hu5 he5 hF5 HXE hka5 CW HD2 CH
            go_wp2_with fail
            go_roundw
            case rel => exact ⟨i + 1, X1.set a ((i : Int) + 1), by omega, by rw [set_get (by omega), if_pos rfl]; rfl, Lib.hid ⟨vp1, F', by rw [HST2.out]; exact H6.out, by rw [HST2.out]; exact HU6.out, S6.out⟩, Lib.hid (fun y h1 h2 => by rw [set_get (by omega), if_neg h2]; exact HX1.out y h1 h2)⟩
            case measure => rw [cellI_of (H6.out.xc ha), hme, set_get (by omega), if_pos rfl]; omega
          | false =>
            rw [hkb] at ckb
            have hun1 := HUN.out
            have htl := HDS.out.kl
            have hule := unk_le HPT.out.2
            have hult : unk (goT o b (tI x o f a s i)).1 < unk (tI x o f a s i).1 := unk_set (by rw [htl]; exact hbn) hkb
            have hq0 := HQ.out a s _ _ b HPT.out.1 hbw hkb
            have hpb := RR.out.pre a s _ _ b (by rw [show x.net.length = x.rs.length from net_len _]; exact ha) hbw (htl.trans (show x.net.length = x.rs.length from net_len _).symm) HPT.out.1 hkb
            have hxb : X1[b]! = 0 := HDS.out.ze b hkb
            have hkn : (goT o b (tI x o f a s i)).1[b]! = true := by show ((tI x o f a s i).1.set b true)[b]! = true; rw [set_get (by rw [htl]; exact hbn), if_pos rfl]
            have hab : a ≠ b := fun e => by subst e; rw [HKA1.out] at hkb; cases hkb
            have hka2 : (goT o b (tI x o f a s i)).1[a]! = true := by show ((tI x o f a s i).1.set b true)[a]! = true; rw [set_get (by rw [htl]; exact hbn), if_neg hab]; exact HKA1.out
            have CG := fun n => Lib.hid (goTo_any UU.out (wr.drewN n) (tI x o f a s i) X1 (P ++ [a]) b ⟨vp1, F1, HDS.out.below (wr_draw wr n), UU.out.below HU1.out (wr_draw wr n), HS1.out⟩ hbn (by rw [List.length_append, List.length_singleton]; omega) hq0)
            have cgo : wr.cell? ⟨x.S + 9, 0, none⟩ = some (.func (.func 70) #[] #[pt (x.S + 5), pt (x.S + 8), pt (x.S + 1)]) := cell_blk (i := 0) HDS.out.fx.go rfl
            have HST2 : Hid (tI x o f a s (i + 1) = ((dfs x.net o f b (goT o b (tI x o f a s i))).1, o.way a b (dfs x.net o f b (goT o b (tI x o f a s i))).2)) := Lib.hid (by rw [HST]; unfold stepD; rw [hkb]; rfl)
            have HUP : Hid (∀ y : Nat, s.1[y]! = true → (goT o b (tI x o f a s i)).1[y]! = true ∧ y ≠ b) := Lib.hid (fun y hy => by
              have h1 := HPT.out.2.up y hy
              have hyb : y ≠ b := fun e => by subst e; rw [hkb] at h1; cases h1
              refine ⟨?_, hyb⟩
              show ((tI x o f a s i).1.set b true)[y]! = true
              rw [set_get (by rw [htl]; exact hbn), if_neg hyb]; exact h1)
            have CV := fun W h => Lib.hid (IH.out b (calls + 1) (goT o b (tI x o f a s i)) X1 (P ++ [a]) W hbn (by omega) hpb hkn hxb (by omega) (by rw [List.length_append, List.length_singleton]; omega) h)
            have hmono := dfs_mono x.net o f b (goT o b (tI x o f a s i))
            have hka3 := Lib.hid (hmono.up a hka2)
            have hka4 := Lib.hid hka2
            have HAB := Lib.hid hab
            have hc1 : (calls : Int) < 1024 := by omega
            have hc0 : (0 : Int) ≤ (calls : Int) := Int.natCast_nonneg _
            clear HST hkb hmono hka2 hab hkn hxb hpb hq0 hult hule htl
            go_wp2_with fail
            go_quiet (fail)
            go_wp2_with fail
            go_quiet (fail)
            go_wp2_with (go_at_call 72; refine (CH _).out.mono ?_; rintro e w' ⟨rfl, rfl⟩)
            refine (CG _).out.mono ?_
            rintro e w3 ⟨⟨v, rfl⟩, hdd3⟩
            have C3 := CV w3 hdd3
            obtain ⟨vp3, F3, h3, _, _⟩ := hdd3
            have hz3 := h3.sz
            have cvi : w3.cell? ⟨x.S + 10, 0, none⟩ = some (.func (.func 71) #[] #[pt (x.S + 8), pt (x.S + 7), pt x.S, pt (x.S + 5), pt (x.S + 9), pt (x.S + 10), pt (x.S + 2), pt (x.S + 3)]) := cell_blk (i := 0) h3.fx.vi rfl
            clear CG CV CH h3
            rw [show iv (calls + 1) = Value.int .i64 ((calls : Int) + 1) from rfl] at C3
            go_wp2_with fail
            refine C3.out.mono ?_
            rintro e w4 ⟨⟨v4, rfl⟩, X4, ⟨vp4, F4, h4, u4, s4⟩, hx4⟩
            have hz4 := h4.sz
            have hp4 := h4.pr
            rw [List.length_append, List.length_singleton] at hp4
            obtain ⟨va4, vc4, rfl⟩ := own_slice hp4
            have cp4 : w4.cell? ⟨x.S + 8, 0, none⟩ = some (.slice va4 (P.length + 1) vc4) := cell_blk (i := 0) h4.pb rfl
            have cwy : w4.cell? ⟨x.S + 2, 0, none⟩ = some (.func (.func fw) #[] cw) := by rw [← UU.out.vw]; exact cell_blk (i := 0) h4.fx.fw rfl
            have CW := Lib.hid (UU.out.way (dfs x.net o f b (goT o b (tI x o f a s i))).2 w4 F4 a b u4 ha hbn)
            have H4 := Lib.hid h4
            have S4 := Lib.hid s4
            have HX4 := Lib.hid hx4
            have HXE := (hx4 a hka4.out HAB.out).trans HXI.out
            clear h4 s4 u4 hx4 hp4
            go_wp2_with fail
            refine CW.out.mono ?_
            rintro e w5 ⟨⟨v, rfl⟩, F', hu5, he5, hF5⟩
            have h5 := H4.out.user S4.out he5
            have s5 := S4.out.user H4.out hF5
            have hka5 := hka3.out
            have hxl5 := h5.xl
            have cx5 : w5.cell? ⟨x.S + 7, 0, none⟩ = some (rowAt (x.S + 6) x.rs.length) := cell_blk (i := 0) h5.fx.nx rfl
            have cxa5 := h5.xc ha
            rw [HXE] at cxa5
            have fxa5 := h5.xr.frozenAt a
            have hz5 := h5.sz
            have h6 := h5.next a ((i : Int) + 1) hka5
            have HU6 := Lib.hid (UU.out.own hu5 (own_off s5 (fun k hk => .inl ⟨by omega, by omega, .inr (.inl hk)⟩)) h6.2)
            have H6 := Lib.hid h6.1
            have S6 := Lib.hid s5
            clear h6 h5 s5 hu5 he5 hF5 HXE hka5 CW
            go_wp2_with fail
            go_roundw
            case rel => exact ⟨i + 1, X4.set a ((i : Int) + 1), by omega, by rw [set_get (by omega), if_pos rfl]; rfl, Lib.hid ⟨_, F', by rw [HST2.out]; exact H6.out, by rw [HST2.out]; exact HU6.out, S6.out⟩, Lib.hid (fun y h1 h2 => by rw [set_get (by omega), if_neg h2]; exact (HX4.out y (HUP.out y h1).1 (HUP.out y h1).2).trans (HX1.out y h1 h2))⟩
            case measure => rw [cellI_of (H6.out.xc ha), hme, set_get (by omega), if_pos rfl]; omega
      · have hii : i = x.rs[a]!.l.length := by omega
        have HA := Lib.hid (tI_all x o f a s hii)
        have hfull : wyR x.net.length (x.rs[a]!.l.take i) = wy x.net a := by rw [hii, List.take_length, wy_R, show x.net[a]! = x.rs[a]!.l from net_at _ _]
        have hpart := RR.out.part f a s (by rw [show x.net.length = x.rs.length from net_len _]; exact ha) (by rw [HKL.out, show x.net.length = x.rs.length from net_len _]) HUN.out HPR.out (wyR x.net.length (x.rs[a]!.l.take i)) (fun b hb => by rw [← hfull]; exact hb)
        rw [hfull] at hpart
        have hql := HL.out a s _ hpart.1
        rw [← hfull] at hql
        have C := fun n => Lib.hid (UU.out.leave (tI x o f a s i).2 (wr.drewN n) F1 a (UU.out.below hu (wr_draw wr n)) ha hql)
        have cl3 : wr.cell? ⟨x.S + 3, 0, none⟩ = some (.func (.func fl) #[] cl) := by rw [← UU.out.vl]; exact cell_blk (i := 0) hd.fx.fl rfl
        have HD2 := fun n => Lib.hid (hd.below (wr_draw wr n))
        have HS2 := Lib.hid hs
        have hnlt : decide ((i : Int) < (x.rs[a]!.l.length : Int)) = false := by rw [decide_eq_false_iff_not]; omega
        clear hpart hql hfull hd hu hs HD1 hii hi hme
        generalize x.rs[a]! = r at *
        generalize r.l.length = rl at *
        go_wp2_with fail
        go_quiet (fail)
        go_wp2_with fail
        refine (C _).out.mono ?_
        rintro e w5 ⟨⟨v, rfl⟩, F', hu5, he5, hF5⟩
        have h5 := (HD2 _).out.user HS2.out he5
        have s5 := HS2.out.user (HD2 _).out hF5
        have hp5 := h5.pr
        rw [List.length_append, List.length_singleton] at hp5
        obtain ⟨va5, vc5, rfl⟩ := own_slice hp5
        obtain ⟨h6, e6⟩ := h5.popped
        have cp5 : w5.cell? ⟨x.S + 8, 0, none⟩ = some (.slice va5 (P.length + 1) vc5) := cell_blk (i := 0) h5.pb rfl
        have fp5 : w5.frozen? ⟨x.S + 8, 0, none⟩ = false := frozen_blk (i := 0) h5.pb
        have hcc := (own_cap hp5).1
        have hz5 := h5.sz
        have u6 := UU.out.own hu5 (own_off s5 (fun k hk => .inl ⟨by omega, by omega, .inr (.inr hk)⟩)) e6
        have H6 := Lib.hid h6
        have U6 := Lib.hid u6
        have S6 := Lib.hid (s5.popped (m := P.length))
        clear C HD2 h5 s5 hp5 h6 e6 u6 hu5 he5 hF5
        go_wp2_with fail
        go_end0
        exact ⟨⟨_, rfl⟩, X1, ⟨_, F', by rw [HA.out]; exact H6.out, by rw [HA.out]; exact U6.out, S6.out⟩, HX1.out⟩
end Go.Proofs.Ytigicbnkfmbolaa.R6

namespace Go.Proofs.Ytigicbnkfmbolaa.R6
open Go.RowKit Go.Shelf Go.Proofs.Ytigicbnkfmbolaa.B
/-- How long the list in a cell is. -/
def cellL (w : World) (p : Addr) : Nat := match w.cell? p with | some (.slice _ n _) => n | _ => 0
theorem cellL_of {w : World} {p : Addr} {A : Option Addr} {n c : Nat} (h : w.cell? p = some (.slice A n c)) : cellL w p = n := by unfold cellL; rw [h]
variable {σ : Type} {x : Cx} {o : Op σ} {U : σ → World → (Nat → Prop) → Prop} {Q Ql : Nat → σ → Prop} {fc fw fl : Nat} {cc cw cl : Array Value}
/-- What a call of the function that is handed back leaves. -/
def walkI (n : NetL) (o : Op σ) (s : St σ) (i : Int) : St σ := if hasI n.length i then walkD n o (n.length + 1) s i.toNat else s
set_option maxRecDepth 100000 in
set_option maxHeartbeats 4000000 in
theorem walk_any (u : UO Try.prog x o U Q Ql fc fw fl cc cw cl) (hn : NetIn x.w0 x.A x.rs) (hN : x.rs.length ≤ 900) (hrow : ∀ r ∈ x.rs, r.l.length ≤ 100000)
    {Pre : Nat → St σ → Prop} {Post : Nat → St σ → St σ → Prop} {Inv : Nat → St σ → List Nat → St σ → Prop} (R : Rule x.net o Pre Post Inv)
    (hQ : ∀ a s ws t b, Inv a s ws t → b ∈ wy x.net a → t.1[b]! = false → Q b t.2) (hL : ∀ a s t, Inv a s (wy x.net a) t → Ql a t.2)
    (s : St σ) (X : List Int) (i : Int) (W : World) (h : DD x U W s X []) (hq : ∀ a : Nat, i = (a : Int) → a < x.rs.length → s.1[a]! = false → Q a s.2 ∧ Pre a (goT o a s)) :
    Calls Try.prog 73 #[.int .i64 i, pt x.S, pt (x.S + 5), pt (x.S + 9), pt (x.S + 8), pt (x.S + 10)] W fun e W' => (∃ v, e = .returned v) ∧ ∃ X', DD x U W' (walkI x.net o s i) X' [] := by
  have e41 := enters_of Try.func70 (by kernel_rfl) rfl
  have e42 := enters_of Try.func71 (by kernel_rfl) rfl
  have hnl : x.net.length = x.rs.length := net_len _
  obtain ⟨vp, F, hd, hu, hs⟩ := h
  have hz := hd.sz
  obtain ⟨va, vc, rfl⟩ := own_slice hd.pr
  have cn : W.cell? ⟨x.S, 0, none⟩ = some (.slice x.A x.rs.length x.c) := cell_blk (i := 0) hd.fx.n rfl
  have ck : W.cell? ⟨x.S + 5, 0, none⟩ = some (rowAt (x.S + 4) x.rs.length) := cell_blk (i := 0) hd.fx.k rfl
  have CH := Lib.hid (has_any x.A x.rs.length x.c i W)
  cases hh : hasI x.rs.length i with
  | false =>
    have HW : Hid (walkI x.net o s i = s) := Lib.hid (by unfold walkI; rw [hnl, hh]; rfl)
    rw [hh] at CH
    have HD : Hid (DD x U W s X []) := Lib.hid ⟨_, F, hd, hu, hs⟩
    clear hh hd hu hs hq hQ hL u hn R hrow
    go_enter Try.func73, Try.ntmps73
    go_wp2_with (go_at_call 72; refine CH.out.mono ?_; rintro e w' ⟨rfl, rfl⟩)
    refine bodyPost_ret (results_none rfl _ _ _) rfl ?_
    exact ⟨⟨_, rfl⟩, X, by rw [HW.out]; exact HD.out⟩
  | true =>
    rw [hh] at CH
    obtain ⟨a, rfl⟩ : ∃ a : Nat, i = (a : Int) := ⟨i.toNat, by simp [hasI] at hh; omega⟩
    have ha : a < x.rs.length := by simp [hasI] at hh; omega
    have hk0 : (0 : Int) ≤ (a : Int) := Int.natCast_nonneg _
    have hk1 : (a : Int) < (x.rs.length : Int) := by omega
    have cka := hd.kc ha
    cases hka : s.1[a]! with
    | true =>
      have HW : Hid (walkI x.net o s (a : Int) = s) := Lib.hid (by unfold walkI; rw [hnl, hh, Int.toNat_natCast]; unfold walkD; rw [hka]; simp)
      rw [hka] at cka
      have HD : Hid (DD x U W s X []) := Lib.hid ⟨_, F, hd, hu, hs⟩
      clear hh hd hu hs hq hQ hL u hn R hrow hka
      go_enter Try.func73, Try.ntmps73
      go_wp2_with (go_at_call 72; refine CH.out.mono ?_; rintro e w' ⟨rfl, rfl⟩)
      refine bodyPost_ret (results_none rfl _ _ _) rfl ?_
      exact ⟨⟨_, rfl⟩, X, by rw [HW.out]; exact HD.out⟩
    | false =>
      have HW : Hid (walkI x.net o s (a : Int) = dfs x.net o (x.rs.length + 1) a (goT o a s)) := Lib.hid (by
        unfold walkI; rw [hnl, hh, if_pos rfl, Int.toNat_natCast]; unfold walkD; rw [hnl, if_pos ⟨ha, hka⟩])
      rw [hka] at cka
      obtain ⟨hqa, hpa⟩ := hq a rfl ha hka
      have cgo : W.cell? ⟨x.S + 9, 0, none⟩ = some (.func (.func 70) #[] #[pt (x.S + 5), pt (x.S + 8), pt (x.S + 1)]) := cell_blk (i := 0) hd.fx.go rfl
      have hul := unk_len (goT o a s).1
      have hgl : (goT o a s).1.length = x.rs.length := by show (s.1.set a true).length = _; rw [List.length_set, hd.kl]
      have hkn : (goT o a s).1[a]! = true := by show (s.1.set a true)[a]! = true; rw [set_get (by rw [hd.kl]; exact ha), if_pos rfl]
      have hxa := hd.ze a hka
      have CG := Lib.hid (goTo_any u W s X [] a ⟨_, F, hd, hu, hs⟩ ha (Nat.zero_le _) hqa)
      have CV := fun W h => Lib.hid (visit_any u hn hrow R hQ hL (x.rs.length + 1) a 1 (goT o a s) X [] W ha (by omega) hpa hkn hxa (by omega) (by simp; omega) h)
      rw [show iv 1 = Value.int .i64 1 from rfl] at CV
      clear hd hu hs hq hQ hL u hn R hrow hka hqa hpa hul hgl hkn hxa hh
      go_enter Try.func73, Try.ntmps73
      go_wp2_with (go_at_call 72; refine CH.out.mono ?_; rintro e w' ⟨rfl, rfl⟩)
      refine CG.out.mono ?_
      rintro e w3 ⟨⟨v, rfl⟩, hdd3⟩
      have H3 := Lib.hid hdd3
      clear hdd3 CG
      go_wp2_with fail
      go_loopw [] (fun wr => (DD x U wr (goT o a s) X [a]) ∨ (∃ X', DD x U wr (dfs x.net o (x.rs.length + 1) a (goT o a s)) X' [])) (fun wr => cellL wr ⟨x.S + 8, 0, none⟩)
      case atStart => exact .inl H3.out
      case round =>
        clear H3
        rcases hrel with hdd | ⟨X', hdd⟩
        · have C := Lib.hid (CV wr hdd)
          obtain ⟨vp1, F1, hd, _, _⟩ := hdd
          obtain ⟨va1, vc1, rfl⟩ := own_slice hd.pr
          have cp : wr.cell? ⟨x.S + 8, 0, none⟩ = some (.slice va1 1 vc1) := cell_blk (i := 0) hd.pb rfl
          have cvi : wr.cell? ⟨x.S + 10, 0, none⟩ = some (.func (.func 71) #[] #[pt (x.S + 8), pt (x.S + 7), pt x.S, pt (x.S + 5), pt (x.S + 9), pt (x.S + 10), pt (x.S + 2), pt (x.S + 3)]) := cell_blk (i := 0) hd.fx.vi rfl
          have hme := cellL_of cp
          clear hd CV
          go_wp2_with fail
          refine C.out.mono ?_
          rintro e w4 ⟨⟨v4, rfl⟩, X4, hdd4, _⟩
          have H4 := Lib.hid hdd4
          clear hdd4 C
          go_wp2_with fail
          go_roundw
          case rel => exact .inr ⟨X4, H4.out⟩
          case measure =>
            obtain ⟨vp4, F4, hd4, _, _⟩ := H4.out
            obtain ⟨va4, vc4, rfl⟩ := own_slice hd4.pr
            rw [hme, cellL_of (cell_blk (i := 0) hd4.pb rfl)]
            exact Nat.zero_lt_one
        · have H := Lib.hid hdd
          obtain ⟨vp1, F1, hd, _, _⟩ := hdd
          obtain ⟨va1, vc1, rfl⟩ := own_slice hd.pr
          have cp : wr.cell? ⟨x.S + 8, 0, none⟩ = some (.slice va1 0 vc1) := cell_blk (i := 0) hd.pb rfl
          clear hd CV
          go_wp2_with fail
          go_end0
          exact ⟨⟨_, rfl⟩, X', by rw [HW.out]; exact H.out⟩
end Go.Proofs.Ytigicbnkfmbolaa.R6
