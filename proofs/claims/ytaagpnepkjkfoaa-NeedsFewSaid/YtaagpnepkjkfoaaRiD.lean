/-
  Contract of the function that a walker hands back.
-/
import Derived.Test.YtaagpnepkjkfoaaRiC
namespace Go.Proofs.Ytaagpnepkjkfoaa.R6
open Go.RowKit Go.Shelf Go.Proofs.Ytaagpnepkjkfoaa.B

/-- How long the list in a cell is. -/
def cellL (w : World) (p : Addr) : Nat := match w.cell? p with | some (.slice _ n _) => n | _ => 0
theorem cellL_of {w : World} {p : Addr} {A : Option Addr} {n c : Nat} (h : w.cell? p = some (.slice A n c)) : cellL w p = n := by unfold cellL; rw [h]
variable {σ : Type} {x : Cx} {o : Op σ} {U : σ → World → (Nat → Prop) → Prop} {Q Ql : Nat → σ → Prop} {fc fw fl : Nat} {cc cw cl : Array Value}
/-- What a call of the function that is handed back leaves. -/
def walkI (n : NetL) (o : Op σ) (s : St σ) (i : Int) : St σ := if hasI n.length i then walkD n o (n.length + 1) s i.toNat else s

set_option maxRecDepth 100000 in
set_option maxHeartbeats 4000000 in
theorem walk_any (u : UO Try.prog x o U Q Ql fc fw fl cc cw cl) (hn : NetIn x.w0 x.A x.rs) (hN : x.rs.length ≤ 900) (hrow : ∀ r ∈ x.rs, r.l.length ≤ 100000)
    {Pre : Nat → St σ → Prop} {Post : Nat → St σ → St σ → Prop} {Inv : Nat → St σ → List Nat → St σ → Prop} (R : Rule x.net o Pre Post Inv)
    (hQ : ∀ a s ws t b, Inv a s ws t → b ∈ wy x.net a → t.1[b]! = false → Q b t.2) (hL : ∀ a s t, Inv a s (wy x.net a) t → Ql a t.2)
    (s : St σ) (X : List Int) (i : Int) (W : World) (h : DD x U W s X []) (hq : ∀ a : Nat, i = (a : Int) → a < x.rs.length → s.1[a]! = false → Q a s.2 ∧ Pre a (goT o a s)) :
    Calls Try.prog 79 #[.int .i64 i, pt x.S, pt (x.S + 5), pt (x.S + 9), pt (x.S + 8), pt (x.S + 10)] W fun e W' => (∃ v, e = .returned v) ∧ ∃ X', DD x U W' (walkI x.net o s i) X' [] := by
  have e41 := enters_of Try.func77 (by kernel_rfl) rfl
  have e42 := enters_of Try.func78 (by kernel_rfl) rfl
  have hnl : x.net.length = x.rs.length := net_len _
  obtain ⟨vp, F, hd, hu, hs⟩ := h
  have hz := hd.sz
  obtain ⟨va, vc, rfl⟩ := own_slice hd.pr
  have cn : W.cell? ⟨x.S, 0, none⟩ = some (.slice x.A x.rs.length x.c) := cell_blk (i := 0) hd.fx.n rfl
  have ck : W.cell? ⟨x.S + 5, 0, none⟩ = some (rowAt (x.S + 4) x.rs.length) := cell_blk (i := 0) hd.fx.k rfl
  have CH := Lib.hid (has_any x.A x.rs.length x.c i W)
  cases hh : hasI x.rs.length i with
  | false =>
    have HW : Hid (walkI x.net o s i = s) := Lib.hid (by unfold walkI; rw [hnl, hh]; rfl)
    rw [hh] at CH
    have HD : Hid (DD x U W s X []) := Lib.hid ⟨_, F, hd, hu, hs⟩
    clear hh hd hu hs hq hQ hL u hn R hrow
    go_enter Try.func79, Try.ntmps79
    go_wp2_with (go_at_call 72; refine CH.out.mono ?_; rintro e w' ⟨rfl, rfl⟩)
    refine bodyPost_ret (results_none rfl _ _ _) rfl ?_
    exact ⟨⟨_, rfl⟩, X, by rw [HW.out]; exact HD.out⟩
  | true =>
    rw [hh] at CH
    obtain ⟨a, rfl⟩ : ∃ a : Nat, i = (a : Int) := ⟨i.toNat, by simp [hasI] at hh; omega⟩
    have ha : a < x.rs.length := by simp [hasI] at hh; omega
    have hk0 : (0 : Int) ≤ (a : Int) := Int.natCast_nonneg _
    have hk1 : (a : Int) < (x.rs.length : Int) := by omega
    have cka := hd.kc ha
    cases hka : s.1[a]! with
    | true =>
      have HW : Hid (walkI x.net o s (a : Int) = s) := Lib.hid (by unfold walkI; rw [hnl, hh, Int.toNat_natCast]; unfold walkD; rw [hka]; simp)
      rw [hka] at cka
      have HD : Hid (DD x U W s X []) := Lib.hid ⟨_, F, hd, hu, hs⟩
      clear hh hd hu hs hq hQ hL u hn R hrow hka
      go_enter Try.func79, Try.ntmps79
      go_wp2_with (go_at_call 72; refine CH.out.mono ?_; rintro e w' ⟨rfl, rfl⟩)
      refine bodyPost_ret (results_none rfl _ _ _) rfl ?_
      exact ⟨⟨_, rfl⟩, X, by rw [HW.out]; exact HD.out⟩
    | false =>
      have HW : Hid (walkI x.net o s (a : Int) = dfs x.net o (x.rs.length + 1) a (goT o a s)) := Lib.hid (by
        unfold walkI; rw [hnl, hh, if_pos rfl, Int.toNat_natCast]; unfold walkD; rw [hnl, if_pos ⟨ha, hka⟩])
      rw [hka] at cka
      obtain ⟨hqa, hpa⟩ := hq a rfl ha hka
      have cgo : W.cell? ⟨x.S + 9, 0, none⟩ = some (.func (.func 77) #[] #[pt (x.S + 5), pt (x.S + 8), pt (x.S + 1)]) := cell_blk (i := 0) hd.fx.go rfl
      have hul := unk_len (goT o a s).1
      have hgl : (goT o a s).1.length = x.rs.length := by show (s.1.set a true).length = _; rw [List.length_set, hd.kl]
      have hkn : (goT o a s).1[a]! = true := by show (s.1.set a true)[a]! = true; rw [set_get (by rw [hd.kl]; exact ha), if_pos rfl]
      have hxa := hd.ze a hka
      have CG := Lib.hid (goTo_any u W s X [] a ⟨_, F, hd, hu, hs⟩ ha (Nat.zero_le _) hqa)
      have CV := fun W h => Lib.hid (visit_any u hn hrow R hQ hL (x.rs.length + 1) a 1 (goT o a s) X [] W ha (by omega) hpa hkn hxa (by omega) (by simp; omega) h)
      rw [show iv 1 = Value.int .i64 1 from rfl] at CV
      clear hd hu hs hq hQ hL u hn R hrow hka hqa hpa hul hgl hkn hxa hh
      go_enter Try.func79, Try.ntmps79
      go_wp2_with (go_at_call 72; refine CH.out.mono ?_; rintro e w' ⟨rfl, rfl⟩)
      refine CG.out.mono ?_
      rintro e w3 ⟨⟨v, rfl⟩, hdd3⟩
      have H3 := Lib.hid hdd3
      clear hdd3 CG
      go_wp2_with fail
      go_loopw [] (fun wr => (DD x U wr (goT o a s) X [a]) ∨ (∃ X', DD x U wr (dfs x.net o (x.rs.length + 1) a (goT o a s)) X' [])) (fun wr => cellL wr ⟨x.S + 8, 0, none⟩)
      case atStart => exact .inl H3.out
      case round =>
        clear H3
        rcases hrel with hdd | ⟨X', hdd⟩
        · have C := Lib.hid (CV wr hdd)
          obtain ⟨vp1, F1, hd, _, _⟩ := hdd
          obtain ⟨va1, vc1, rfl⟩ := own_slice hd.pr
          have cp : wr.cell? ⟨x.S + 8, 0, none⟩ = some (.slice va1 1 vc1) := cell_blk (i := 0) hd.pb rfl
          have cvi : wr.cell? ⟨x.S + 10, 0, none⟩ = some (.func (.func 78) #[] #[pt (x.S + 8), pt (x.S + 7), pt x.S, pt (x.S + 5), pt (x.S + 9), pt (x.S + 10), pt (x.S + 2), pt (x.S + 3)]) := cell_blk (i := 0) hd.fx.vi rfl
          have hme := cellL_of cp
          clear hd CV
          go_wp2_with fail
          refine C.out.mono ?_
          rintro e w4 ⟨⟨v4, rfl⟩, X4, hdd4, _⟩
          have H4 := Lib.hid hdd4
          clear hdd4 C
          go_wp2_with fail
          go_roundw
          case rel => exact .inr ⟨X4, H4.out⟩
          case measure =>
            obtain ⟨vp4, F4, hd4, _, _⟩ := H4.out
            obtain ⟨va4, vc4, rfl⟩ := own_slice hd4.pr
            rw [hme, cellL_of (cell_blk (i := 0) hd4.pb rfl)]
            exact Nat.zero_lt_one
        · have H := Lib.hid hdd
          obtain ⟨vp1, F1, hd, _, _⟩ := hdd
          obtain ⟨va1, vc1, rfl⟩ := own_slice hd.pr
          have cp : wr.cell? ⟨x.S + 8, 0, none⟩ = some (.slice va1 0 vc1) := cell_blk (i := 0) hd.pb rfl
          clear hd CV
          go_wp2_with fail
          go_end0
          exact ⟨⟨_, rfl⟩, X', by rw [HW.out]; exact H.out⟩
end Go.Proofs.Ytaagpnepkjkfoaa.R6
