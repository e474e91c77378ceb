/-
  Contracts of needs.gathered, maps.Copy, needs.joined at ways.
-/
import Derived.Test.YtaagpnepkjkfoaaNdW
namespace Go.Proofs.Ytaagpnepkjkfoaa.N7
open Go.RowKit Go.Shelf Go.Proofs.Ytaagpnepkjkfoaa.B Go.Proofs.Ytaagpnepkjkfoaa.R6

theorem mkW (w : World) : (Instr.makeMap 89 none).run Try.prog w = .ok (.map (some w.heap.size)) (w.alloc (.map #[] 0)) := by
  simp [Instr.makeMap, Result.andThen]
/-- What stands while ties are gone through. -/
structure GJ (w : World) (EA TA : Option Addr) (en ec tn tc N : Nat) (ka kb : Ti → Int) (ok : Ti → Bool) (ts : List Ti) (k : Nat) (W : World) : Prop where
  m : MS 92 W (w.heap.size + 1) k (WL N (gW N ka kb ok (ts.take k)))
  f : W.heap[w.heap.size]? = some (.cells #[.slice EA en ec, .slice TA tn tc] 45 (0, 0))
  l : Below w.heap.size w W
theorem GJ.call {w W W' : World} {EA TA : Option Addr} {en ec tn tc N k : Nat} {ka kb : Ti → Int} {ok : Ti → Bool} {ts : List Ti} (h : GJ w EA TA en ec tn tc N ka kb ok ts k W) (hb : Below W.heap.size W W') : GJ w EA TA en ec tn tc N ka kb ok ts k W' :=
  ⟨h.m.below hb, (hb.block _ (by have := h.m.lt; omega)).trans h.f, h.l.trans (hb.mono h.l.size)⟩
theorem GJ.skip {w W : World} {EA TA : Option Addr} {en ec tn tc N k : Nat} {ka kb : Ti → Int} {ok : Ti → Bool} {ts : List Ti} (h : GJ w EA TA en ec tn tc N ka kb ok ts k W) (e : ∀ l, WL N (gW N ka kb ok (ts.take k)) l ↔ WL N (gW N ka kb ok (ts.take (k + 1))) l) : GJ w EA TA en ec tn tc N ka kb ok ts (k + 1) W :=
  ⟨(h.m.mono (Nat.le_succ _)).congr e, h.f, h.l⟩
theorem GJ.put {w W : World} {EA TA : Option Addr} {en ec tn tc N k x y : Nat} {ka kb : Ti → Int} {ok : Ti → Bool} {ts : List Ti} (h : GJ w EA TA en ec tn tc N ka kb ok ts k W) (hk : k < maxLen) (hx : x ≤ 9223372036854775807) (hy : y ≤ 9223372036854775807)
    (e : ∀ l, (WL N (gW N ka kb ok (ts.take k)) l ∨ l = wlit x y) ↔ WL N (gW N ka kb ok (ts.take (k + 1))) l) :
    ∃ w1, (Instr.mapUpdate 89 (.map (some (w.heap.size + 1))) (.agg #[.int .i64 (x : Int), .int .i64 (y : Int)]) (.agg #[])).run Try.prog W = .ok () w1 ∧ GJ w EA TA en ec tn tc N ka kb ok ts (k + 1) w1 := by
  obtain ⟨w1, h1, h2, h3⟩ := h.m.put lawW Try.underlying89 hk (keyW (wfN hx) (wfN hy))
  have hz := h.m.lt
  exact ⟨w1, h1, h2.congr e, (h3.block _ (by omega) (fun e => by have := Option.some.inj e; omega)).trans h.f, h.l.grown h3 h.l.size (fun j hj => by cases hj; omega)⟩
set_option maxRecDepth 100000 in
set_option maxHeartbeats 4000000 in
theorem gathered_way (w : World) (EA TA : Option Addr) (en ec tc : Nat) (ts : List Ti) (ka kb : Ti → Int) (ok : Ti → Bool) (fl : Nat) (lb : Array Value) (hr : Row w TA (ts.flatMap tiC)) (hl : ts.length ≤ 100000) (hen : en ≤ 1000000) (eg : ∀ args w, (callFunc fl args).run Try.prog w = .ok (.enter fl args) w)
    (hcall : ∀ (W : World) (t : Ti), Below w.heap.size w W → Calls Try.prog fl (#[tiW t] ++ lb) W fun e W' => e = .returned (.tuple #[.agg #[.int .i64 (ka t), .int .i64 (kb t)], .bool (ok t)]) ∧ Below W.heap.size W W') (hka : ∀ t, btw en t = true → 0 ≤ ka t ∧ ka t < (en : Int)) (hkb : ∀ t, btw en t = true → 0 ≤ kb t ∧ kb t < (en : Int)) :
    Calls Try.prog 59 #[FV EA TA en ec ts.length tc, .func (.func fl) #[] lb] w fun e w' => e = .returned (.map (some (w.heap.size + 1))) ∧ MS 92 w' (w.heap.size + 1) ts.length (WL en (gW en ka kb ok ts)) ∧ Below w.heap.size w w' := by
  have HC := Lib.hid hcall
  have HR := Lib.hid hr
  have HKA := Lib.hid hka
  have HKB := Lib.hid hkb
  have hmk := mkW (w.alloc (.cells #[.slice EA en ec, .slice TA ts.length tc] 45))
  rw [World.size_alloc] at hmk
  have G0 : Hid (GJ w EA TA en ec ts.length tc en ka kb ok ts 0 ((w.alloc (.cells #[.slice EA en ec, .slice TA ts.length tc] 45)).alloc (.map #[] 0))) := Lib.hid (by
    have h1 := (MS.made 92 (w.alloc (.cells #[.slice EA en ec, .slice TA ts.length tc] 45))).congr (S' := WL en (gW en ka kb ok (ts.take 0))) (fun x => ⟨fun h => h.elim, fun ⟨a, b, _, _, h, _⟩ => by simp [gW] at h⟩)
    rw [World.size_alloc] at h1
    exact ⟨h1, heap_old (by rw [World.size_alloc]; omega) (heap_new _ _), ((Below.refl _ _).alloc (Nat.le_refl _) _).alloc (by rw [World.size_alloc]; omega) _⟩)
  clear hcall hr hka hkb
  go_enter Try.func59, Try.ntmps59
  go_wp2_with fail
  go_loopw [14] (fun i wr => ∃ k : Nat, k ≤ ts.length ∧ i = .int .i64 k ∧ Hid (GJ w EA TA en ec ts.length tc en ka kb ok ts k wr)) (fun i _ => ts.length - (intOf i).toNat)
  case atStart => exact ⟨0, Nat.zero_le _, rfl, G0⟩
  case round =>
    clear G0 hmk
    obtain ⟨k, hk, rfl, GG⟩ := hrel
    by_cases hlt : k < ts.length
    · obtain ⟨b, off, rfl, hb, hc⟩ := HR.out.at_ (k := 4) (fun _ => rfl) (by omega) hlt
      have k0 := hc 0 _ rfl
      have k1 := hc 1 _ rfl
      have k2 := hc 2 _ rfl
      have k3 := hc 3 _ rfl
      rw [Nat.add_zero] at k0
      rw [← GG.out.l.cell (p := ⟨b, _, none⟩) hb] at k0 k1 k2 k3
      have hk0 : (0 : Int) ≤ (k : Int) := Int.natCast_nonneg _
      have hk1 : (k : Int) < (ts.length : Int) := by omega
      have HS := fun h => Lib.hid (gW_skip (ka := ka) (kb := kb) (ok := ok) (N := en) hlt h)
      have HP := fun (x y : Nat) h h2 h2' h3 h3' => Lib.hid (gW_put (ka := ka) (kb := kb) (ok := ok) (N := en) (x := x) (y := y) hlt h h2 h2' h3 h3')
      clear hc
      generalize ts[k]! = t at *
      obtain ⟨wo, rfl⟩ : ∃ wo, wo = wr := ⟨wr, rfl⟩
      have hal : Below wo.heap.size wo (wo.alloc (.cells #[.int .i64 t.kind, .int .i64 t.fr, .int .i64 t.to, .int .i64 t.time] 62)) := (Below.refl _ _).alloc (Nat.le_refl _) _
      have GA := Lib.hid (GG.out.call hal)
      have C := Lib.hid (HC.out _ t GA.out.l)
      have hn := heap_new wo (.cells #[.int .i64 t.kind, .int .i64 t.fr, .int .i64 t.to, .int .i64 t.time] 62)
      clear GG hal
      go_wp2_with fail
      refine C.out.mono ?_
      rintro e w3 ⟨rfl, hb3⟩
      have hz3 := hb3.size
      rw [World.size_alloc] at hz3
      have hzw := GA.out.m.lt
      rw [World.size_alloc] at hzw
      have hzw3 : w.heap.size < w3.heap.size := by omega
      have hzo3 : wo.heap.size < w3.heap.size := by omega
      have hal4 : Below w3.heap.size w3 (w3.alloc (.cells #[.int .i64 (ka t), .int .i64 (kb t)] 92)) := (Below.refl _ _).alloc (Nat.le_refl _) _
      have G3 := Lib.hid (GA.out.call hb3)
      have G4 := Lib.hid (G3.out.call hal4)
      have hn3 := (hb3.block wo.heap.size (by rw [World.size_alloc]; omega)).trans hn
      have hn4 := heap_new w3 (.cells #[.int .i64 (ka t), .int .i64 (kb t)] 92)
      have y0 : w3.cell? ⟨wo.heap.size, 0, none⟩ = some (.int .i64 t.kind) := cell_blk hn3 rfl
      have y1 : w3.cell? ⟨wo.heap.size, 1, none⟩ = some (.int .i64 t.fr) := cell_blk hn3 rfl
      have y2 : w3.cell? ⟨wo.heap.size, 2, none⟩ = some (.int .i64 t.to) := cell_blk hn3 rfl
      have y3 : w3.cell? ⟨wo.heap.size, 3, none⟩ = some (.int .i64 t.time) := cell_blk hn3 rfl
      have f0 : w3.cell? ⟨w.heap.size, 0, none⟩ = some (.slice EA en ec) := cell_blk G3.out.f rfl
      have f1 : w3.cell? ⟨w.heap.size, 1, none⟩ = some (.slice (some ⟨b, off, none⟩) ts.length tc) := cell_blk G3.out.f rfl
      clear C hn hn3 hb3 k0 k1 k2 k3 GA hz3 hzw hal4 G3
      cases hok : ok t with
      | false =>
        have G5 := Lib.hid (G4.out.skip (HS (by rw [hok]; rfl)).out)
        clear HS HP G4 hok hn4
        go_wp2_with fail
        go_roundw
        case rel => exact ⟨k + 1, hlt, by go_num, G5⟩
        case measure => simp [intOf]; omega
      | true =>
        have CB := Lib.hid (btw_any (w3.alloc (.cells #[.int .i64 (ka t), .int .i64 (kb t)] 92)) EA (some ⟨b, off, none⟩) en ec ts.length tc t)
        cases hbt : btw en t with
        | false =>
          have HS' := HS (by rw [hbt, Bool.and_false])
          rw [hbt] at CB
          clear HS HP hok hbt hn4
          go_wp2_with fail
          refine CB.out.mono ?_
          rintro e w5 ⟨rfl, hb5⟩
          have G5 := Lib.hid ((G4.out.call hb5).skip HS'.out)
          clear hb5 G4 CB HS' y0 y1 y2 y3 f0 f1
          go_wp2_with fail
          go_roundw
          case rel => exact ⟨k + 1, hlt, by go_num, G5⟩
          case measure => simp [intOf]; omega
        | true =>
          obtain ⟨h0, h1⟩ := HKA.out t hbt
          obtain ⟨x, hx⟩ := Int.eq_ofNat_of_zero_le h0
          obtain ⟨h2, h3⟩ := HKB.out t hbt
          obtain ⟨y, hy⟩ := Int.eq_ofNat_of_zero_le h2
          have HP' := HP x y (by rw [hok, hbt]; rfl) hx hy (by omega) (by omega)
          rw [hbt] at CB
          rw [hx, hy] at CB G4 hn4
          rw [hx, hy]
          have hxl : x ≤ 9223372036854775807 := by omega
          have hyl : y ≤ 9223372036854775807 := by omega
          have HN4 := Lib.hid hn4
          clear HS HP hok hbt h0 h1 hx h2 h3 hy hn4
          go_wp2_with fail
          refine CB.out.mono ?_
          rintro e w5 ⟨rfl, hb5⟩
          have hn5 := (hb5.block w3.heap.size (by rw [World.size_alloc]; omega)).trans HN4.out
          have z0 : w5.cell? ⟨w3.heap.size, 0, none⟩ = some (.int .i64 (x : Int)) := cell_blk hn5 rfl
          have z1 : w5.cell? ⟨w3.heap.size, 1, none⟩ = some (.int .i64 (y : Int)) := cell_blk hn5 rfl
          obtain ⟨w6, hput, hG6⟩ := (G4.out.call hb5).put (by unfold maxLen; omega) hxl hyl HP'.out
          have G6 := Lib.hid hG6
          clear hb5 G4 CB HP' y0 y1 y2 y3 f0 f1 hG6 hn5 HN4
          go_wp2_with fail
          go_roundw
          case rel => exact ⟨k + 1, hlt, by go_num, G6⟩
          case measure => simp [intOf]; omega
    · obtain rfl : k = ts.length := by omega
      have hm := GG.out.m
      rw [List.take_length] at hm
      have HM := Lib.hid hm
      have HB := Lib.hid GG.out.l
      clear hm GG
      go_wp2_with fail
      go_ret
      exact ⟨rfl, HM.out, HB.out⟩
/-- An entry has come, its value lies in a block, and it is put. -/
theorem CI.entry {T t e : TypeId} (K : Maps.Keyed Try.prog T) (ht : Try.prog.underlying t = some (.map T e)) {w W W1 : World} {bd bs nd ns cnt cnt1 : Nat} {Sd Ss : Lit → Prop} {D : DataW Unit} {left : Lit → Bool} {kl : Lit} {key : Value} {y : DataW Unit × List MemPlace} (h : CI T w bd bs w.heap.size nd ns Sd Ss D left cnt W)
    (hrg : W1.ranges Try.prog T Ru bs w.heap.size ns D (fun z => left z && !z.sameKey kl) cnt1) (hg : W.grownBy W1 (some w.heap.size)) (hk : keyOf Try.prog T key = some kl) (hat : ∀ zd, D.atKey kl zd = y.1) (hc : cnt1 < cnt) (hroom : nd + ns < maxLen) (hne : bd ≠ bs) (hbd : bd < w.heap.size) (o1 o2 : Obj) :
    ∃ w2, (Instr.mapUpdate t (.map (some bd)) key (.agg #[])).run Try.prog ((W1.alloc o1).alloc o2) = .ok () w2 ∧ CI T w bd bs w.heap.size nd ns Sd Ss D (fun z => left z && !z.sameKey kl) cnt1 w2 ∧ w2.rangeLeft bs w.heap.size < W.rangeLeft bs w.heap.size := by
  obtain ⟨hgw, k, hk1, hk2⟩ := h.come hg (Nat.le_refl _) hbd
  have h1 := World.grownBy_alloc W1 o1 none
  have h2 := World.grownBy_alloc (W1.alloc o1) o2 none
  obtain ⟨w2, g1, g2⟩ := CI.next K ht ((hrg.kept h1 (by simp) (by simp)).kept h2 (by simp) (by simp)) ⟨k, hk1, (hk2.kept h1 (by simp)).kept h2 (by simp)⟩ ((hgw.andThen h1 (fun j hj => by cases hj)).andThen h2 (fun j hj => by cases hj)) h.ss hk (Maps.has_true_of_atKey hat) hc hroom hne (Nat.le_refl _) hbd
  exact ⟨w2, g1, g2, by rw [g2.rg.left_eq, h.rg.left_eq]; exact hc⟩
theorem way_key {N : Nat} {S : Nat → Nat → Bool} {D : DataW Unit} {kl : Lit} {x : Value} {y : DataW Unit × List MemPlace} (hS : ∀ l, Maps.has D l = true ↔ WL N S l) (hN : N ≤ 1000000) (hk : keyOf Try.prog 92 x = some kl) (hat : ∀ zd, D.atKey kl zd = y.1) :
    ∃ a b : Nat, a < N ∧ b < N ∧ S a b = true ∧ kl = wlit a b ∧ x = .agg #[.int .i64 (a : Int), .int .i64 (b : Int)] := by
  obtain ⟨a, b, h1, h2, h3, h4⟩ := (hS kl).1 (Maps.has_true_of_atKey hat)
  refine ⟨a, b, h1, h2, h3, h4, ?_⟩
  rw [h4] at hk
  exact lawW.inj hk (keyW (wfN (n := a) (by omega)) (wfN (n := b) (by omega)))
set_option maxRecDepth 100000 in
set_option maxHeartbeats 4000000 in
theorem copy_way (w : World) (bd bs nd ns N : Nat) (Sd : Lit → Prop) (S : Nat → Nat → Bool) (hd : MS 92 w bd nd Sd) (hs : MS 92 w bs ns (WL N S)) (hne : bd ≠ bs) (hroom : nd + ns < maxLen) (hN : N ≤ 1000000) :
    Calls Try.prog 83 #[.map (some bd), .map (some bs)] w fun e w' => e = .returned (.tuple #[]) ∧ MS 92 w' bd (nd + ns) (fun l => Sd l ∨ WL N S l) ∧ w.grownBy w' (some bd) := by
  obtain ⟨D, hown, hS⟩ := hs
  have hbd := hd.lt
  have HD := Lib.hid hd
  have HS := Lib.hid hS
  have HO := Lib.hid hown
  clear hd hS hown
  go_enter Try.func83, Try.ntmps83
  go_wp2_with (at_range; refine wpList_range_own _ rfl _ 89 rfl 92 104 lawW Try.underlying89 Ru bs ns D rfl HO.out ?_; intro w0 hrg0 hg0 hs0)
  go_frame
  have C0 := Lib.hid (CI.start HD.out HO.out HS.out hrg0 hg0)
  clear hrg0 hg0 hs0
  go_loopw [] (fun wr => ∃ left cnt, Hid (CI 92 w bd bs w.heap.size nd ns Sd (WL N S) D left cnt wr)) (fun wr => wr.rangeLeft bs w.heap.size)
  case atStart => exact ⟨_, _, C0⟩
  case round =>
    clear C0
    obtain ⟨left, cnt, CC⟩ := hrel
    go_wp2_with (at_next; refine wpList_next_ranges _ rfl _ rfl 92 lawW Ru (fun v => v) (fun _ : Unit => Value.agg #[]) (fun key _ _ => ⟨key, rfl⟩) (fun v y hy => ⟨(), Ru_inv hy⟩) bs w.heap.size ns _ _ _ rfl CC.out.rg (fun hc0 hl0 => ?_) (fun x c kl y w1 cnt1 hkey hlx hRv hat hrg1 hlt1 hg1 hs1 hen => ?_); (have hfin := Lib.hid (CC.out.done hl0)); clear hl0 CC hc0; rotate_left; (obtain ⟨ka, kb, _, _, _, _, rfl⟩ := way_key HS.out hN hkey hat); (obtain ⟨w2, hput, hC2, hM2⟩ := CI.entry (e := 104) lawW Try.underlying89 CC.out hrg1 hg1 hkey hat hlt1 hroom hne hbd (.cells #[.int .i64 (ka : Int), .int .i64 (kb : Int)] 92) (.cells #[] 104)); (have C2 := Lib.hid hC2); (have HM := Lib.hid hM2); (have hl := hrg1.lt); clear hC2 hM2 hrg1 hg1 hs1 hkey hlx hRv hat CC hlt1; rotate_left)
    · go_end0
      exact ⟨rfl, hfin.out.1, hfin.out.2⟩
    · go_roundw
      case rel => exact ⟨_, _, C2⟩
      case measure => exact HM.out
end Go.Proofs.Ytaagpnepkjkfoaa.N7
