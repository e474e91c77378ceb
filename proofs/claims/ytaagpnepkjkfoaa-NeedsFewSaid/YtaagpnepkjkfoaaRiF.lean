/-
  Contract of Reach.
-/
import Derived.Test.YtaagpnepkjkfoaaRiE
namespace Go.Proofs.Ytaagpnepkjkfoaa.R6
open Go.RowKit Go.Shelf Go.Proofs.Ytaagpnepkjkfoaa.B

/-- Where the list of Reach lies: a row at g, its box behind it. -/
def UR (N g : Nat) (s : List Bool) (W : World) (F : Nat → Prop) : Prop :=
  s.length = N ∧ W.heap[g + 1]? = some (.cells #[rowAt g N] 72 (0, 0)) ∧ W.ownsRow g 4 1 (rowAt g N) N (s.map Value.bool) ∧ F = fun k => k = g ∨ k = g + 1
theorem UR.keep {N g : Nat} {s : List Bool} {W W' : World} {F : Nat → Prop} (h : UR N g s W F) (hk : ∀ k, F k → W'.heap[k]? = W.heap[k]?) : UR N g s W' F := by
  obtain ⟨h1, h2, h3, rfl⟩ := h
  exact ⟨h1, (hk _ (.inr rfl)).trans h2, own_keep h3 (fun k hg => hk k (.inl (by simp only [Value.ownBlock, Option.some.injEq] at hg; exact hg.symm))), rfl⟩
set_option maxHeartbeats 400000 in
theorem nothing_any (W : World) (a : Nat) : Calls Try.prog 48 #[iv a] W fun e W' => (∃ v, e = .returned v) ∧ W' = W := by
  go_enter Try.func48, Try.ntmps48
  go_wp2
  go_end0
  exact ⟨⟨_, rfl⟩, rfl⟩
set_option maxHeartbeats 400000 in
theorem led_any (W : World) (N g a b : Nat) (s : List Bool) (F : Nat → Prop) (h : UR N g s W F) (hb : b < N) : Calls Try.prog 50 #[iv a, iv b, pt (g + 1)] W fun e W' => (∃ v, e = .returned v) ∧ UR N g (s.set b true) W' F ∧ Ext F W W' := by
  obtain ⟨h1, h2, h3, rfl⟩ := h
  have cB : W.cell? ⟨g + 1, 0, none⟩ = some (rowAt g N) := cell_blk (i := 0) h2 rfl
  have hc := (h3.cellAt b (by omega)).trans (map_get _ (by omega))
  have hf := h3.frozenAt b
  have hlt : g < W.heap.size := (own_block h3 rfl).2
  have hk0 : (0 : Int) ≤ (b : Int) := Int.natCast_nonneg _
  have hk1 : (b : Int) < (N : Int) := by omega
  have hst := (h3.stored b (.bool true)).1
  rw [set_map] at hst
  have H2 := Lib.hid h2
  have HS := Lib.hid hst
  clear h2 hst h3
  go_enter Try.func50, Try.ntmps50
  go_wp2_with fail
  go_end0
  exact ⟨⟨_, rfl⟩, ⟨by rw [List.length_set]; exact h1, (blk_other (by omega)).trans H2.out, HS.out, rfl⟩, Ext.set (F := fun k => k = g ∨ k = g + 1) W (p := ⟨g, b, none⟩) (.bool true) (.inl rfl)⟩
/-- The doings of Reach. -/
theorem uo_reach (x : Cx) (g : Nat) (h1 : x.fc = .func (.func 48) #[] #[]) (h2 : x.fw = .func (.func 50) #[] #[pt (g + 1)]) (h3 : x.fl = .func (.func 48) #[] #[]) :
    UO Try.prog x opR (UR x.rs.length g) (fun _ _ => True) (fun _ _ => True) 48 50 48 #[] #[pt (g + 1)] #[] := by
  refine ⟨h1, h2, h3, enters_of Try.func48 (by kernel_rfl) rfl, enters_of Try.func50 (by kernel_rfl) rfl, enters_of Try.func48 (by kernel_rfl) rfl,
    fun s W W' F h _ hk => h.keep hk, fun s W F k h hk => ?_, fun s W F a h _ _ => ?_, fun s W F a b h _ hb => ?_, fun s W F a h _ _ => ?_⟩
  · obtain ⟨_, h2, h3, rfl⟩ := h
    rcases hk with rfl | rfl
    · exact (own_block h3 rfl).2
    · exact blk_lt h2
  · show Calls Try.prog 48 #[iv a] W _
    exact (nothing_any W a).mono fun e W' ⟨hv, hw⟩ => ⟨hv, F, by rw [hw]; exact h, by rw [hw]; exact Ext.refl _ _, fun k hk => .inl hk⟩
  · show Calls Try.prog 50 #[iv a, iv b, pt (g + 1)] W _
    exact (led_any W x.rs.length g a b s F h hb).mono fun e W' ⟨hv, hu, he⟩ => ⟨hv, F, hu, he, fun k hk => .inl hk⟩
  · show Calls Try.prog 48 #[iv a] W _
    exact (nothing_any W a).mono fun e W' ⟨hv, hw⟩ => ⟨hv, F, by rw [hw]; exact h, by rw [hw]; exact Ext.refl _ _, fun k hk => .inl hk⟩

/-- What Reach tells of any number. -/
def reachI (n : NetL) (i : Int) : List Nat := if hasI n.length i then reachL n i.toNat else []
def ledI (n : NetL) (i : Int) : List Bool := (walkI n opR (List.replicate n.length false, List.replicate n.length false) i).2
theorem reachI_is (n : NetL) (i : Int) : reachI n i = (List.range n.length).filter fun j => (ledI n i)[j]! := by
  unfold reachI ledI walkI
  cases hh : hasI n.length i with
  | true => rw [if_pos rfl, if_pos rfl]; rfl
  | false =>
    rw [if_neg (by decide), if_neg (by decide)]
    refine (List.filter_eq_nil_iff.2 (fun j _ => ?_)).symm
    show ¬ (List.replicate n.length false)[j]! = true
    rw [rep_get]; simp
theorem ledI_len (n : NetL) (i : Int) : (ledI n i).length = n.length := by
  unfold ledI walkI
  split
  · rw [walk_led_len]; simp
  · simp
theorem range_at {N k : Nat} (h : k < N) : (List.range N)[k]! = k := by rw [getElem!_pos _ k (by simpa using h)]; simp
theorem map_iv_app (P : List Nat) (a : Nat) : (P ++ [a]).map iv = P.map iv ++ [iv a] := by simp
set_option maxRecDepth 100000 in
set_option maxHeartbeats 4000000 in
theorem reach_any (w : World) (A : Option Addr) (c : Nat) (rs : List RW) (i : Int) (hn : NetIn w A rs) (hN : rs.length ≤ 900) (hrow : ∀ r ∈ rs, r.l.length ≤ 100000) :
    Calls Try.prog 18 #[.slice A rs.length c, .int .i64 i] w fun e w' => ∃ v, e = .returned v ∧ w'.ownsRow w.heap.size 3 1 v (reachI (netOf rs) i).length ((reachI (netOf rs) i).map iv) ∧ Below w.heap.size w w' := by
  obtain ⟨i0, hi0, hi1, hi2, hi3⟩ := info_parts info_int'
  have hnl : (netOf rs).length = rs.length := net_len _
  have hmf : ∀ (fn : Fn) (first cap : Array Value) (w : World), (Instr.makeFunc fn first cap).run Try.prog w = .ok (.func fn first cap) w := fun _ _ _ _ => rfl
  have hb := make_bools rs.length (by omega)
  have e43 := enters_of Try.func79 (by kernel_rfl) rfl
  have HRE := Lib.hid (reachI_is (netOf rs) i)
  rw [hnl] at HRE
  have HLL := Lib.hid (ledI_len (netOf rs) i)
  have HLE : Hid (ledI (netOf rs) i = (walkI (netOf rs) opR (List.replicate rs.length false, List.replicate rs.length false) i).2) := Lib.hid (by unfold ledI; rw [hnl])
  -- the memory of led
  obtain ⟨cs, hcs⟩ : ∃ cs, cs = ((List.replicate rs.length false).map Value.bool).toArray := ⟨_, rfl⟩
  rw [← hcs] at hb
  obtain ⟨W2, hW2⟩ : ∃ W2, W2 = (w.alloc (.cells cs 4)).alloc (.cells #[rowAt w.heap.size rs.length] 72) := ⟨_, rfl⟩
  have hs2 : W2.heap.size = w.heap.size + 2 := by rw [hW2, World.size_alloc, World.size_alloc]
  have hb2 : Below w.heap.size w W2 := by rw [hW2]; exact ((Below.refl _ w).alloc (Nat.le_refl _) _).alloc (by rw [World.size_alloc]; omega) _
  have hu2 : UR rs.length w.heap.size (List.replicate rs.length false) W2 (fun k => k = w.heap.size ∨ k = w.heap.size + 1) := by
    refine ⟨by simp, ?_, own_all (Nat.le_refl _) ?_ (by simp) (by omega), rfl⟩
    · rw [hW2]
      have := heap_new (w.alloc (.cells cs 4)) (.cells #[rowAt w.heap.size rs.length] 72)
      rw [World.size_alloc] at this; exact this
    · rw [hW2, ← hcs]; exact heap_old (by rw [World.size_alloc]; omega) (heap_new _ _)
  -- the walker's memory
  obtain ⟨x, hx⟩ : ∃ x : Cx, x = ⟨w, W2.heap.size, rs, A, c, .func (.func 48) #[] #[], .func (.func 50) #[] #[pt (w.heap.size + 1)], .func (.func 48) #[] #[]⟩ := ⟨_, rfl⟩
  have hxr : x.rs = rs := by rw [hx]
  have hxS : x.S = w.heap.size + 2 := by rw [hx]; exact hs2
  have hxw : x.w0 = w := by rw [hx]
  have uo := uo_reach x w.heap.size (by rw [hx]) (by rw [hx]) (by rw [hx])
  have C1 := Lib.hid (walker_any W2 A rs.length c 48 50 48 #[] #[pt (w.heap.size + 1)] #[] hN)
  have hds := blocks_ds hb2 rs A c (.func (.func 48) #[] #[]) (.func (.func 50) #[] #[pt (w.heap.size + 1)]) (.func (.func 48) #[] #[]) hN
  rw [← hx] at hds
  obtain ⟨W3, hW3⟩ : ∃ W3, W3 = (blocks W2.heap.size A rs.length c (.func (.func 48) #[] #[]) (.func (.func 50) #[] #[pt (w.heap.size + 1)]) (.func (.func 48) #[] #[])).foldl World.alloc W2 := ⟨_, rfl⟩
  rw [← hW3] at hds C1
  have hb3 : Below W2.heap.size W2 W3 := by rw [hW3]; exact allocs_below _ _ (Nat.le_refl _)
  have hu3 : UR rs.length w.heap.size (List.replicate rs.length false) W3 (fun k => k = w.heap.size ∨ k = w.heap.size + 1) := hu2.keep (fun k hk => hb3.block k (by omega))
  have hdd : DD x (UR x.rs.length w.heap.size) W3 (List.replicate rs.length false, List.replicate rs.length false) (List.replicate rs.length 0) [] :=
    ⟨_, _, hds, by rw [hxr]; exact hu3, ⟨fun k hk => by rw [hxw, hxS]; omega, fun g hg => by cases hg⟩⟩
  have C2 := Lib.hid (walk_any uo (by rw [hxw, hxr, hx]; exact hn) (by rw [hxr]; exact hN) (by rw [hxr]; exact hrow) (rule_triv x.net opR) (fun _ _ _ _ _ _ _ _ => trivial) (fun _ _ _ _ => trivial) _ _ i W3 hdd (fun _ _ _ _ => ⟨trivial, trivial⟩))
  rw [hxS] at C2
  rw [hs2] at C1
  have HN2 : Hid (x.net = netOf rs) := Lib.hid (by rw [hx]; rfl)
  have HXW := Lib.hid hxw
  have HXR := Lib.hid hxr
  have HXS := Lib.hid hxS
  have hlt2 := hs2
  clear hdd hu3 hb3 hds hW3 uo hu2 hn hrow hcs hx hxr hxS hxw hb2
  subst hW2
  go_enter Try.func18, Try.ntmps18
  go_wp2_with fail
  refine C1.out.mono ?_
  rintro e w3 ⟨rfl, rfl⟩
  go_wp2_with fail
  refine C2.out.mono ?_
  rintro e W4 ⟨⟨v, rfl⟩, X', vp, F, hd, ⟨hl4, hb4, ho4, rfl⟩, hs⟩
  rw [HXR.out] at hb4 ho4
  rw [HN2.out, ← HLE.out] at ho4
  have hbel := hd.bel
  rw [HXW.out] at hbel
  have HB4 := Lib.hid hbel
  have HO4 := Lib.hid ho4
  have cb4 : W4.cell? ⟨w.heap.size + 1, 0, none⟩ = some (rowAt w.heap.size rs.length) := cell_blk (i := 0) hb4 rfl
  have hlt4 : w.heap.size + 1 < W4.heap.size := blk_lt hb4
  have hll := HLL.out
  rw [hnl] at hll
  generalize ledI (netOf rs) i = led at *
  obtain ⟨q, hq⟩ : ∃ q : Nat → Bool, q = fun j => led[j]! := ⟨_, rfl⟩
  rw [← hq] at HRE
  have HQ := fun j => Lib.hid (congrFun hq j)
  clear hq
  clear hd hb4 ho4 hs hbel hl4 C1 C2 HLE HLL HN2 HXW HXR HXS hb hs2 hlt2
  go_wp2_with fail
  clear cb4
  go_loopw [7, 22] (fun v j wr => ∃ k : Nat, k ≤ rs.length ∧ j = .int .i64 k ∧ Hid (wr.ownsRow w.heap.size 3 1 v (selL q (List.range rs.length) k).length ((selL q (List.range rs.length) k).map iv)) ∧ (∀ g, v.ownBlock = some g → W4.heap.size ≤ g) ∧ Hid (Below W4.heap.size W4 wr)) (fun _ j _ => rs.length - (intOf j).toNat)
  case atStart => exact ⟨0, Nat.zero_le _, rfl, Lib.hid (World.ownsRow_nil _ _ _ _), fun g hg => by (cases hg), Lib.hid (Below.refl _ _)⟩
  case round =>
    obtain ⟨k, hk, rfl, HV, hvb, HB⟩ := hrel
    have hB := HB.out.size
    by_cases hlt : k < rs.length
    · have hc := (HO4.out.cellAt k (by omega)).trans (map_get _ (by omega))
      rw [← HB.out.cell (p := ⟨w.heap.size, k, none⟩) (show w.heap.size < W4.heap.size by omega)] at hc
      have hk0 : (0 : Int) ≤ (k : Int) := Int.natCast_nonneg _
      have hk1 : (k : Int) < (rs.length : Int) := by omega
      have hs := sel_len q (List.range rs.length) k
      have hrk := range_at hlt
      have hkr : k < (List.range rs.length).length := by simpa using hlt
      obtain ⟨va, vc, rfl⟩ := own_slice HV.out
      cases hp : led[k]! with
      | false =>
        have e1 := sel_no (p := q) hkr (by rw [hrk, (HQ k).out]; exact hp)
        have HE1 := Lib.hid e1
        rw [hp] at hc
        clear hrk hkr e1
        go_wp2_with fail
        go_roundw
        case rel => exact ⟨k + 1, hlt, by go_num, by rw [HE1.out]; exact HV, hvb, HB⟩
        case measure => simp [intOf]; omega
      | true =>
        have e1 := sel_yes (p := q) hkr (by rw [hrk, (HQ k).out]; exact hp)
        rw [hrk] at e1
        have HE1 := Lib.hid e1
        rw [hp] at hc
        clear hrk hkr e1
        go_wp2_with (at_builtin; refine wpList_append_own_at _ rfl (.tmp 28) (.tmp 30) 26 rfl w.heap.size 3 i0 _ 1 8 Try.underlying26 hi0 hi1 hi2 hi3 rfl (by omega) _ _ _ rfl (HV.out.alloc _) ⟨wr.heap.size, 0, none⟩ 1 1 [iv k] rfl rfl ?c1 ?c2 ?c3 ?c4 ?c5 ?_)
        case c1 =>
          intro j u hj
          have hn := heap_new wr (.cells #[iv k] 3)
          match j, hj with
          | 0, hj => cases hj; exact cell_blk hn rfl
        case c2 => intro u hu; simp at hu; rw [hu]; rfl
        case c3 => unfold maxLen; omega
        case c4 => omega
        case c5 => rw [World.size_alloc]; omega
        intro v' w4 hown' hgrow _ hat
        have HB5 : Hid (Below W4.heap.size W4 w4) := Lib.hid ((HB.out.alloc hB _).grown hgrow (by rw [World.size_alloc]; omega) hvb)
        have hvb' : ∀ g, v'.ownBlock = some g → W4.heap.size ≤ g := fun g hg => by
          rcases hat with h' | h'
          · exact hvb g (h'.symm.trans hg)
          · rw [hg] at h'; injection h' with h'; omega
        have HV5 : Hid (w4.ownsRow w.heap.size 3 1 v' (selL q (List.range rs.length) (k + 1)).length ((selL q (List.range rs.length) (k + 1)).map iv)) := Lib.hid (by
          rw [HE1.out, List.length_append, map_iv_app]; exact hown')
        clear hown' hgrow hat HE1
        go_wp2_with fail
        go_roundw
        case rel => exact ⟨k + 1, hlt, by go_num, HV5, hvb', HB5⟩
        case measure => simp [intOf]; omega
    · obtain rfl : k = rs.length := by omega
      have e : selL q (List.range rs.length) rs.length = reachI (netOf rs) i := by
        rw [HRE.out, ← sel_all]; simp
      rw [e] at HV
      go_wp2_with fail
      go_ret
      exact ⟨_, rfl, HV.out, HB4.out.trans (HB.out.mono HB4.out.size)⟩
end Go.Proofs.Ytaagpnepkjkfoaa.R6
