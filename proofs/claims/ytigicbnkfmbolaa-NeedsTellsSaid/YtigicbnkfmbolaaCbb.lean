/-
  Contracts of needs.gathered, maps.Copy, needs.joined at ways. Contracts of needs.joined at ways, and of needs.Net. The net of needs in memory, while it is made: plain facts; rows that grow and are sorted.
-/
import Derived.Test.YtigicbnkfmbolaaCba
import Derived.Deep.AppendLies
namespace Go.Proofs.Ytigicbnkfmbolaa.N7
open Go.RowKit Go.Shelf Go.Proofs.Ytigicbnkfmbolaa.B Go.Proofs.Ytigicbnkfmbolaa.R6
theorem mkW (w : World) : (Instr.makeMap 57 none).run Try.prog w = .ok (.map (some w.heap.size)) (w.alloc (.map #[] 0)) := by
  simp [Instr.makeMap, Result.andThen]
/-- What stands while ties are gone through. -/
structure GJ (w : World) (EA TA : Option Addr) (en ec tn tc N : Nat) (ka kb : Ti → Int) (ok : Ti → Bool) (ts : List Ti) (k : Nat) (W : World) : Prop where
  m : MS 60 W (w.heap.size + 1) k (WL N (gW N ka kb ok (ts.take k)))
  f : W.heap[w.heap.size]? = some (.cells #[.slice EA en ec, .slice TA tn tc] 25 (0, 0))
  l : Below w.heap.size w W
theorem GJ.call {w W W' : World} {EA TA : Option Addr} {en ec tn tc N k : Nat} {ka kb : Ti → Int} {ok : Ti → Bool} {ts : List Ti} (h : GJ w EA TA en ec tn tc N ka kb ok ts k W) (hb : Below W.heap.size W W') : GJ w EA TA en ec tn tc N ka kb ok ts k W' :=
  ⟨h.m.below hb, (hb.block _ (by have := h.m.lt; omega)).trans h.f, h.l.trans (hb.mono h.l.size)⟩
theorem GJ.skip {w W : World} {EA TA : Option Addr} {en ec tn tc N k : Nat} {ka kb : Ti → Int} {ok : Ti → Bool} {ts : List Ti} (h : GJ w EA TA en ec tn tc N ka kb ok ts k W) (e : ∀ l, WL N (gW N ka kb ok (ts.take k)) l ↔ WL N (gW N ka kb ok (ts.take (k + 1))) l) : GJ w EA TA en ec tn tc N ka kb ok ts (k + 1) W :=
  ⟨(h.m.mono (Nat.le_succ _)).congr e, h.f, h.l⟩
theorem GJ.put {w W : World} {EA TA : Option Addr} {en ec tn tc N k x y : Nat} {ka kb : Ti → Int} {ok : Ti → Bool} {ts : List Ti} (h : GJ w EA TA en ec tn tc N ka kb ok ts k W) (hk : k < maxLen) (hx : x ≤ 9223372036854775807) (hy : y ≤ 9223372036854775807)
    (e : ∀ l, (WL N (gW N ka kb ok (ts.take k)) l ∨ l = wlit x y) ↔ WL N (gW N ka kb ok (ts.take (k + 1))) l) :
    ∃ w1, (Instr.mapUpdate 57 (.map (some (w.heap.size + 1))) (.agg #[.int .i64 (x : Int), .int .i64 (y : Int)]) (.agg #[])).run Try.prog W = .ok () w1 ∧ GJ w EA TA en ec tn tc N ka kb ok ts (k + 1) w1 := by
  obtain ⟨w1, h1, h2, h3⟩ := h.m.put lawW Try.underlying57 hk (keyW (wfN hx) (wfN hy))
  have hz := h.m.lt
  exact ⟨w1, h1, h2.congr e, (h3.block _ (by omega) (fun e => by have := Option.some.inj e; omega)).trans h.f, h.l.grown h3 h.l.size (fun j hj => by cases hj; omega)⟩
set_option maxRecDepth 100000 in
set_option maxHeartbeats 4000000 in
theorem gathered_way (w : World) (EA TA : Option Addr) (en ec tc : Nat) (ts : List Ti) (ka kb : Ti → Int) (ok : Ti → Bool) (fl : Nat) (lb : Array Value) (hr : Row w TA (ts.flatMap tiC)) (hl : ts.length ≤ 100000) (hen : en ≤ 1000000) (eg : ∀ args w, (callFunc fl args).run Try.prog w = .ok (.enter fl args) w)
    (hcall : ∀ (W : World) (t : Ti), Below w.heap.size w W → Calls Try.prog fl (#[tiW t] ++ lb) W fun e W' => e = .returned (.tuple #[.agg #[.int .i64 (ka t), .int .i64 (kb t)], .bool (ok t)]) ∧ Below W.heap.size W W') (hka : ∀ t, btw en t = true → 0 ≤ ka t ∧ ka t < (en : Int)) (hkb : ∀ t, btw en t = true → 0 ≤ kb t ∧ kb t < (en : Int)) :
    Calls Try.prog 30 #[FV EA TA en ec ts.length tc, .func (.func fl) #[] lb] w fun e w' => e = .returned (.map (some (w.heap.size + 1))) ∧ MS 60 w' (w.heap.size + 1) ts.length (WL en (gW en ka kb ok ts)) ∧ Below w.heap.size w w' := by
  have HC := Lib.hid hcall
  have HR := Lib.hid hr
  have HKA := Lib.hid hka
  have HKB := Lib.hid hkb
  have hmk := mkW (w.alloc (.cells #[.slice EA en ec, .slice TA ts.length tc] 25))
  rw [World.size_alloc] at hmk
  have G0 : Hid (GJ w EA TA en ec ts.length tc en ka kb ok ts 0 ((w.alloc (.cells #[.slice EA en ec, .slice TA ts.length tc] 25)).alloc (.map #[] 0))) := Lib.hid (by
    have h1 := (MS.made 60 (w.alloc (.cells #[.slice EA en ec, .slice TA ts.length tc] 25))).congr (S' := WL en (gW en ka kb ok (ts.take 0))) (fun x => ⟨fun h => h.elim, fun ⟨a, b, _, _, h, _⟩ => by simp [gW] at h⟩)
    rw [World.size_alloc] at h1
    exact ⟨h1, heap_old (by rw [World.size_alloc]; omega) (heap_new _ _), ((Below.refl _ _).alloc (Nat.le_refl _) _).alloc (by rw [World.size_alloc]; omega) _⟩)
  clear hcall hr hka hkb
  go_enter Try.func30, Try.ntmps30
  go_wp2_with fail
  go_loopw [14] (fun i wr => ∃ k : Nat, k ≤ ts.length ∧ i = .int .i64 k ∧ Hid (GJ w EA TA en ec ts.length tc en ka kb ok ts k wr)) (fun i _ => ts.length - (intOf i).toNat)
  case atStart => exact ⟨0, Nat.zero_le _, rfl, G0⟩
  case round =>
    clear G0 hmk
    obtain ⟨k, hk, rfl, GG⟩ := hrel
    by_cases hlt : k < ts.length
    · obtain ⟨b, off, rfl, hb, hc⟩ := HR.out.at_ (k := 4) (fun _ => rfl) (by omega) hlt
      have k0 := hc 0 _ rfl
      have k1 := hc 1 _ rfl
      have k2 := hc 2 _ rfl
      have k3 := hc 3 _ rfl
      rw [Nat.add_zero] at k0
      rw [← GG.out.l.cell (p := ⟨b, _, none⟩) hb] at k0 k1 k2 k3
      have hk0 : (0 : Int) ≤ (k : Int) := Int.natCast_nonneg _
      have hk1 : (k : Int) < (ts.length : Int) := by omega
      have HS := fun h => Lib.hid (gW_skip (ka := ka) (kb := kb) (ok := ok) (N := en) hlt h)
      have HP := fun (x y : Nat) h h2 h2' h3 h3' => Lib.hid (gW_put (ka := ka) (kb := kb) (ok := ok) (N := en) (x := x) (y := y) hlt h h2 h2' h3 h3')
      clear hc
      generalize ts[k]! = t at *
      obtain ⟨wo, rfl⟩ : ∃ wo, wo = wr := ⟨wr, rfl⟩
      have hal : Below wo.heap.size wo (wo.alloc (.cells #[.int .i64 t.kind, .int .i64 t.fr, .int .i64 t.to, .int .i64 t.time] 49)) := (Below.refl _ _).alloc (Nat.le_refl _) _
      have GA := Lib.hid (GG.out.call hal)
      have C := Lib.hid (HC.out _ t GA.out.l)
      have hn := heap_new wo (.cells #[.int .i64 t.kind, .int .i64 t.fr, .int .i64 t.to, .int .i64 t.time] 49)
      clear GG hal
      go_wp2_with fail
      refine C.out.mono ?_
      rintro e w3 ⟨rfl, hb3⟩
      have hz3 := hb3.size
      rw [World.size_alloc] at hz3
      have hzw := GA.out.m.lt
      rw [World.size_alloc] at hzw
      have hzw3 : w.heap.size < w3.heap.size := by omega
      have hzo3 : wo.heap.size < w3.heap.size := by omega
      have hal4 : Below w3.heap.size w3 (w3.alloc (.cells #[.int .i64 (ka t), .int .i64 (kb t)] 60)) := (Below.refl _ _).alloc (Nat.le_refl _) _
      have G3 := Lib.hid (GA.out.call hb3)
      have G4 := Lib.hid (G3.out.call hal4)
      have hn3 := (hb3.block wo.heap.size (by rw [World.size_alloc]; omega)).trans hn
      have hn4 := heap_new w3 (.cells #[.int .i64 (ka t), .int .i64 (kb t)] 60)
      have y0 : w3.cell? ⟨wo.heap.size, 0, none⟩ = some (.int .i64 t.kind) := cell_blk hn3 rfl
      have y1 : w3.cell? ⟨wo.heap.size, 1, none⟩ = some (.int .i64 t.fr) := cell_blk hn3 rfl
      have y2 : w3.cell? ⟨wo.heap.size, 2, none⟩ = some (.int .i64 t.to) := cell_blk hn3 rfl
      have y3 : w3.cell? ⟨wo.heap.size, 3, none⟩ = some (.int .i64 t.time) := cell_blk hn3 rfl
      have f0 : w3.cell? ⟨w.heap.size, 0, none⟩ = some (.slice EA en ec) := cell_blk G3.out.f rfl
      have f1 : w3.cell? ⟨w.heap.size, 1, none⟩ = some (.slice (some ⟨b, off, none⟩) ts.length tc) := cell_blk G3.out.f rfl
      clear C hn hn3 hb3 k0 k1 k2 k3 GA hz3 hzw hal4 G3
      cases hok : ok t with
      | false =>
        have G5 := Lib.hid (G4.out.skip (HS (by rw [hok]; rfl)).out)
        clear HS HP G4 hok hn4
        go_wp2_with fail
        go_roundw
        case rel => exact ⟨k + 1, hlt, by go_num, G5⟩
        case measure => simp [intOf]; omega
      | true =>
        have CB := Lib.hid (btw_any (w3.alloc (.cells #[.int .i64 (ka t), .int .i64 (kb t)] 60)) EA (some ⟨b, off, none⟩) en ec ts.length tc t)
        cases hbt : btw en t with
        | false =>
          have HS' := HS (by rw [hbt, Bool.and_false])
          rw [hbt] at CB
          clear HS HP hok hbt hn4
          go_wp2_with fail
          refine CB.out.mono ?_
          rintro e w5 ⟨rfl, hb5⟩
          have G5 := Lib.hid ((G4.out.call hb5).skip HS'.out)
          clear hb5 G4 CB HS' y0 y1 y2 y3 f0 f1
          go_wp2_with fail
          go_roundw
          case rel => exact ⟨k + 1, hlt, by go_num, G5⟩
          case measure => simp [intOf]; omega
        | true =>
          obtain ⟨h0, h1⟩ := HKA.out t hbt
          obtain ⟨x, hx⟩ := Int.eq_ofNat_of_zero_le h0
          obtain ⟨h2, h3⟩ := HKB.out t hbt
          obtain ⟨y, hy⟩ := Int.eq_ofNat_of_zero_le h2
          have HP' := HP x y (by rw [hok, hbt]; rfl) hx hy (by omega) (by omega)
          rw [hbt] at CB
          rw [hx, hy] at CB G4 hn4
          rw [hx, hy]
          have hxl : x ≤ 9223372036854775807 := by omega
          have hyl : y ≤ 9223372036854775807 := by omega
          have HN4 := Lib.hid hn4
          clear HS HP hok hbt h0 h1 hx h2 h3 hy hn4
          go_wp2_with fail
          refine CB.out.mono ?_
          rintro e w5 ⟨rfl, hb5⟩
          have hn5 := (hb5.block w3.heap.size (by rw [World.size_alloc]; omega)).trans HN4.out
          have z0 : w5.cell? ⟨w3.heap.size, 0, none⟩ = some (.int .i64 (x : Int)) := cell_blk hn5 rfl
          have z1 : w5.cell? ⟨w3.heap.size, 1, none⟩ = some (.int .i64 (y : Int)) := cell_blk hn5 rfl
          obtain ⟨w6, hput, hG6⟩ := (G4.out.call hb5).put (by unfold maxLen; omega) hxl hyl HP'.out
          have G6 := Lib.hid hG6
          clear hb5 G4 CB HP' y0 y1 y2 y3 f0 f1 hG6 hn5 HN4
          go_wp2_with fail
          go_roundw
          case rel => exact ⟨k + 1, hlt, by go_num, G6⟩
          case measure => simp [intOf]; omega
    · obtain rfl : k = ts.length := by omega
      have hm := GG.out.m
      rw [List.take_length] at hm
      have HM := Lib.hid hm
      have HB := Lib.hid GG.out.l
      clear hm GG
      go_wp2_with fail
      go_ret
      exact ⟨rfl, HM.out, HB.out⟩
/-- An entry has come, its value lies in a block, and it is put. -/
theorem CI.entry {T t e : TypeId} (K : Maps.Keyed Try.prog T) (ht : Try.prog.underlying t = some (.map T e)) {w W W1 : World} {bd bs nd ns cnt cnt1 : Nat} {Sd Ss : Lit → Prop} {D : DataW Unit} {left : Lit → Bool} {kl : Lit} {key : Value} {y : DataW Unit × List MemPlace} (h : CI T w bd bs w.heap.size nd ns Sd Ss D left cnt W)
    (hrg : W1.ranges Try.prog T Ru bs w.heap.size ns D (fun z => left z && !z.sameKey kl) cnt1) (hg : W.grownBy W1 (some w.heap.size)) (hk : keyOf Try.prog T key = some kl) (hat : ∀ zd, D.atKey kl zd = y.1) (hc : cnt1 < cnt) (hroom : nd + ns < maxLen) (hne : bd ≠ bs) (hbd : bd < w.heap.size) (o1 o2 : Obj) :
    ∃ w2, (Instr.mapUpdate t (.map (some bd)) key (.agg #[])).run Try.prog ((W1.alloc o1).alloc o2) = .ok () w2 ∧ CI T w bd bs w.heap.size nd ns Sd Ss D (fun z => left z && !z.sameKey kl) cnt1 w2 ∧ w2.rangeLeft bs w.heap.size < W.rangeLeft bs w.heap.size := by
  obtain ⟨hgw, k, hk1, hk2⟩ := h.come hg (Nat.le_refl _) hbd
  have h1 := World.grownBy_alloc W1 o1 none
  have h2 := World.grownBy_alloc (W1.alloc o1) o2 none
  obtain ⟨w2, g1, g2⟩ := CI.next K ht ((hrg.kept h1 (by simp) (by simp)).kept h2 (by simp) (by simp)) ⟨k, hk1, (hk2.kept h1 (by simp)).kept h2 (by simp)⟩ ((hgw.andThen h1 (fun j hj => by cases hj)).andThen h2 (fun j hj => by cases hj)) h.ss hk (Maps.has_true_of_atKey hat) hc hroom hne (Nat.le_refl _) hbd
  exact ⟨w2, g1, g2, by rw [g2.rg.left_eq, h.rg.left_eq]; exact hc⟩
theorem way_key {N : Nat} {S : Nat → Nat → Bool} {D : DataW Unit} {kl : Lit} {x : Value} {y : DataW Unit × List MemPlace} (hS : ∀ l, Maps.has D l = true ↔ WL N S l) (hN : N ≤ 1000000) (hk : keyOf Try.prog 60 x = some kl) (hat : ∀ zd, D.atKey kl zd = y.1) :
    ∃ a b : Nat, a < N ∧ b < N ∧ S a b = true ∧ kl = wlit a b ∧ x = .agg #[.int .i64 (a : Int), .int .i64 (b : Int)] := by
  obtain ⟨a, b, h1, h2, h3, h4⟩ := (hS kl).1 (Maps.has_true_of_atKey hat)
  refine ⟨a, b, h1, h2, h3, h4, ?_⟩
  rw [h4] at hk
  exact lawW.inj hk (keyW (wfN (n := a) (by omega)) (wfN (n := b) (by omega)))
set_option maxRecDepth 100000 in
set_option maxHeartbeats 4000000 in
theorem copy_way (w : World) (bd bs nd ns N : Nat) (Sd : Lit → Prop) (S : Nat → Nat → Bool) (hd : MS 60 w bd nd Sd) (hs : MS 60 w bs ns (WL N S)) (hne : bd ≠ bs) (hroom : nd + ns < maxLen) (hN : N ≤ 1000000) :
    Calls Try.prog 47 #[.map (some bd), .map (some bs)] w fun e w' => e = .returned (.tuple #[]) ∧ MS 60 w' bd (nd + ns) (fun l => Sd l ∨ WL N S l) ∧ w.grownBy w' (some bd) := by
  obtain ⟨D, hown, hS⟩ := hs
  have hbd := hd.lt
  have HD := Lib.hid hd
  have HS := Lib.hid hS
  have HO := Lib.hid hown
  clear hd hS hown
  go_enter Try.func47, Try.ntmps47
  go_wp2_with (at_range; refine wpList_range_own _ rfl _ 57 rfl 60 77 lawW Try.underlying57 Ru bs ns D rfl HO.out ?_; intro w0 hrg0 hg0 hs0)
  go_frame
  have C0 := Lib.hid (CI.start HD.out HO.out HS.out hrg0 hg0)
  clear hrg0 hg0 hs0
  go_loopw [] (fun wr => ∃ left cnt, Hid (CI 60 w bd bs w.heap.size nd ns Sd (WL N S) D left cnt wr)) (fun wr => wr.rangeLeft bs w.heap.size)
  case atStart => exact ⟨_, _, C0⟩
  case round =>
    clear C0
    obtain ⟨left, cnt, CC⟩ := hrel
    go_wp2_with (at_next; refine wpList_next_ranges _ rfl _ rfl 60 lawW Ru (fun v => v) (fun _ : Unit => Value.agg #[]) (fun key _ _ => ⟨key, rfl⟩) (fun v y hy => ⟨(), Ru_inv hy⟩) bs w.heap.size ns _ _ _ rfl CC.out.rg (fun hc0 hl0 => ?_) (fun x c kl y w1 cnt1 hkey hlx hRv hat hrg1 hlt1 hg1 hs1 hen => ?_); (have hfin := Lib.hid (CC.out.done hl0)); clear hl0 CC hc0; rotate_left; (obtain ⟨ka, kb, _, _, _, _, rfl⟩ := way_key HS.out hN hkey hat); (obtain ⟨w2, hput, hC2, hM2⟩ := CI.entry (e := 77) lawW Try.underlying57 CC.out hrg1 hg1 hkey hat hlt1 hroom hne hbd (.cells #[.int .i64 (ka : Int), .int .i64 (kb : Int)] 60) (.cells #[] 77)); (have C2 := Lib.hid hC2); (have HM := Lib.hid hM2); (have hl := hrg1.lt); clear hC2 hM2 hrg1 hg1 hs1 hkey hlx hRv hat CC hlt1; rotate_left)
    · go_end0
      exact ⟨rfl, hfin.out.1, hfin.out.2⟩
    · go_roundw
      case rel => exact ⟨_, _, C2⟩
      case measure => exact HM.out
end Go.Proofs.Ytigicbnkfmbolaa.N7

namespace Go.Proofs.Ytigicbnkfmbolaa.N7
open Go.RowKit Go.Shelf Go.Proofs.Ytigicbnkfmbolaa.B Go.Proofs.Ytigicbnkfmbolaa.R6
/-- A set of ways: where it lies, how often it was put into, which ways. -/
structure Mw where
  b : Nat
  c : Nat
  s : Nat → Nat → Bool
instance : Inhabited Mw := ⟨⟨0, 0, fun _ _ => false⟩⟩
def mwV (m : Mw) : Value := .map (some m.b)
/-- A list of sets lies there. -/
structure MwIn (W : World) (A : Option Addr) (N : Nat) (l : List Mw) : Prop where
  row : Row W A (l.map mwV)
  m : ∀ x ∈ l, MS 60 W x.b x.c (WL N x.s) ∧ x.c ≤ 1000000
theorem MwIn.below {W W' : World} {A : Option Addr} {N : Nat} {l : List Mw} (h : MwIn W A N l) (hb : Below W.heap.size W W') : MwIn W' A N l := ⟨h.row.below (Nat.le_refl _) hb, fun x hx => ⟨(h.m x hx).1.below hb, (h.m x hx).2⟩⟩
theorem row_mw {w : World} {A : Option Addr} {l : List Mw} (h : Row w A (l.map mwV)) {i : Nat} (hi : i < l.length) : ∃ b off, A = some ⟨b, off, none⟩ ∧ b < w.heap.size ∧ w.cell? ⟨b, off + i, none⟩ = some (.map (some l[i]!.b)) := by
  obtain ⟨b, off, h1, h2, h3⟩ := h (fun e => by have := congrArg List.length e; simp at this; rw [this] at hi; simp at hi)
  exact ⟨b, off, h1, h2, h3 i _ (by rw [List.getElem?_map, List.getElem?_eq_getElem hi, getElem!_pos l i hi]; rfl)⟩
def orW (l : List Mw) (a b : Nat) : Bool := l.any fun m => m.s a b
theorem or_nextW {l : List Mw} {k N : Nat} (hk : k < l.length) (x : Lit) : (WL N (orW (l.take k)) x ∨ WL N l[k]!.s x) ↔ WL N (orW (l.take (k + 1))) x := by
  unfold WL orW
  rw [take_next hk]
  simp only [List.any_append, List.any_cons, List.any_nil, Bool.or_false, Bool.or_eq_true]
  constructor
  · rintro (⟨a, b, h1, h1', h2, h3⟩ | ⟨a, b, h1, h1', h2, h3⟩)
    · exact ⟨a, b, h1, h1', .inl h2, h3⟩
    · exact ⟨a, b, h1, h1', .inr h2, h3⟩
  · rintro ⟨a, b, h1, h1', h2 | h2, h3⟩
    · exact .inl ⟨a, b, h1, h1', h2, h3⟩
    · exact .inr ⟨a, b, h1, h1', h2, h3⟩
/-- What stands while sets are joined. -/
structure JW (w : World) (A : Option Addr) (N : Nat) (l : List Mw) (k : Nat) (W : World) : Prop where
  m : MS 60 W w.heap.size (1000000 * k) (WL N (orW (l.take k)))
  l : Below w.heap.size w W
set_option maxRecDepth 100000 in
set_option maxHeartbeats 4000000 in
theorem joined_way (w : World) (A : Option Addr) (c N : Nat) (l : List Mw) (h : MwIn w A N l) (hl : l.length ≤ 10) (hN : N ≤ 1000000) :
    Calls Try.prog 33 #[.slice A l.length c] w fun e w' => e = .returned (.map (some w.heap.size)) ∧ MS 60 w' w.heap.size 10000000 (WL N (orW l)) ∧ Below w.heap.size w w' := by
  have H := Lib.hid h
  have hmk := mkW w
  have J0 : Hid (JW w A N l 0 (w.alloc (.map #[] 0))) := Lib.hid ⟨(MS.made _ w).congr (fun x => ⟨fun h => h.elim, fun ⟨a, b, _, _, h, _⟩ => by simp [orW] at h⟩), (Below.refl _ _).alloc (Nat.le_refl _) _⟩
  clear h
  go_enter Try.func33, Try.ntmps33
  go_wp2_with fail
  go_loopw [9] (fun i wr => ∃ k : Nat, k ≤ l.length ∧ i = .int .i64 k ∧ Hid (JW w A N l k wr)) (fun i _ => l.length - (intOf i).toNat)
  case atStart => exact ⟨0, Nat.zero_le _, rfl, J0⟩
  case round =>
    clear J0 hmk
    obtain ⟨k, hk, rfl, JJ⟩ := hrel
    by_cases hlt : k < l.length
    · have hk0 : (0 : Int) ≤ (k : Int) := Int.natCast_nonneg _
      have hk1 : (k : Int) < (l.length : Int) := by omega
      obtain ⟨b1, off1, rfl, hb1, hc1⟩ := row_mw H.out.row hlt
      rw [← JJ.out.l.cell (p := ⟨b1, _, none⟩) hb1] at hc1
      obtain ⟨g1, g2⟩ := H.out.m _ (Go.Proofs.Ytigicbnkfmbolaa.B.mem_at hlt)
      have HM := Lib.hid g1
      have hbl := g1.lt
      have HC := Lib.hid (copy_way wr w.heap.size l[k]!.b (1000000 * k) l[k]!.c N _ l[k]!.s JJ.out.m (g1.block (JJ.out.l.block _ hbl)) (by omega) (by unfold maxLen; omega) hN)
      have HO := Lib.hid (or_nextW (N := N) hlt)
      have HBB := Lib.hid JJ.out.l
      clear g1 JJ
      generalize l[k]! = x at *
      go_wp2_with fail
      refine HC.out.mono ?_
      rintro e w2 ⟨rfl, h1, h2⟩
      have J2 : Hid (JW w (some ⟨b1, off1, none⟩) N l (k + 1) w2) := Lib.hid ⟨(h1.mono (by omega)).congr HO.out, HBB.out.grown h2 HBB.out.size (fun j hj => by cases hj; exact Nat.le_refl _)⟩
      clear h1 h2 HC HO HBB HM hc1
      go_wp2_with fail
      go_roundw
      case rel => exact ⟨k + 1, hlt, by go_num, J2⟩
      case measure => simp [intOf]; omega
    · obtain rfl : k = l.length := by omega
      have hm := JJ.out.m
      rw [List.take_length] at hm
      have HM := Lib.hid (hm.mono (show 1000000 * l.length ≤ 10000000 by omega))
      have HB := Lib.hid JJ.out.l
      clear hm JJ
      go_wp2_with fail
      go_ret
      exact ⟨rfl, HM.out, HB.out⟩
end Go.Proofs.Ytigicbnkfmbolaa.N7

namespace Go.Proofs.Ytigicbnkfmbolaa.N7
open Go.RowKit Go.Shelf Go.Proofs.Ytigicbnkfmbolaa.B Go.Proofs.Ytigicbnkfmbolaa.R6
structure LP (N : Nat) (S : Nat → Nat → Bool) (left : Lit → Bool) (ls : List (List Int)) : Prop where
  len : ls.length = N
  nd : ∀ a : Nat, a < N → (ls[a]!).Nodup
  mem : ∀ a : Nat, a < N → ∀ x : Int, x ∈ ls[a]! ↔ ∃ b : Nat, b < N ∧ S a b = true ∧ left (wlit a b) = false ∧ x = (b : Int)
theorem wl_ne {N a b c d : Nat} (hN : N ≤ 1000000) (ha : a < N) (hb : b < N) (hc : c < N) (hd : d < N) (h : ¬ (a = c ∧ b = d)) : wlit (a : Int) (b : Int) ≠ wlit (c : Int) (d : Int) := fun e => by
  obtain ⟨h1, h2⟩ := wlit_inj (wfN (n := a) (by omega)) (wfN (n := b) (by omega)) (wfN (n := c) (by omega)) (wfN (n := d) (by omega)) e
  exact h ⟨by omega, by omega⟩
theorem wl_key {N a b : Nat} (hN : N ≤ 1000000) (ha : a < N) (hb : b < N) : WideAt.IsKeyLit (wlit (a : Int) (b : Int)) := lawW.key (keyW (wfN (n := a) (by omega)) (wfN (n := b) (by omega)))
theorem LP.next {N a b : Nat} {S : Nat → Nat → Bool} {left : Lit → Bool} {ls : List (List Int)} (h : LP N S left ls) (hN : N ≤ 1000000) (ha : a < N) (hb : b < N) (hS : S a b = true) (hl : left (wlit a b) = true) :
    LP N S (fun z => left z && !z.sameKey (wlit a b)) (ls.set a (ls[a]! ++ [(b : Int)])) := by
  have hal : a < ls.length := by rw [h.len]; exact ha
  have hself := WideAt.sameKey_self (wl_key hN ha hb)
  have hother : ∀ a' b' : Nat, a' < N → b' < N → ¬ (a' = a ∧ b' = b) → (left (wlit a' b') && !(wlit a' b').sameKey (wlit a b)) = left (wlit a' b') := fun a' b' h1 h2 h3 => by
    rw [Maps.sameKey_ne (wl_ne hN h1 h2 ha hb h3)]; simp
  refine ⟨by rw [List.length_set]; exact h.len, fun i hi => ?_, fun i hi x => ?_⟩
  · rw [set_get hal]
    by_cases e : i = a
    · subst e
      rw [if_pos rfl, List.nodup_append]
      refine ⟨h.nd i hi, by simp, fun x hx y hy e => ?_⟩
      obtain rfl : y = (b : Int) := by simpa using hy
      subst e
      obtain ⟨b', h1, h2, h3, h4⟩ := (h.mem i hi _).1 hx
      obtain rfl : b' = b := by omega
      rw [hl] at h3; cases h3
    · rw [if_neg e]; exact h.nd i hi
  · rw [set_get hal]
    by_cases e : i = a
    · subst e
      rw [if_pos rfl, List.mem_append, h.mem i hi]
      constructor
      · rintro (⟨b', h1, h2, h3, h4⟩ | hx)
        · exact ⟨b', h1, h2, by rw [h3]; rfl, h4⟩
        · exact ⟨b, hb, hS, by show (left _ && !_) = false; rw [hself]; simp, by simpa using hx⟩
      · rintro ⟨b', h1, h2, h3, h4⟩
        by_cases e2 : b' = b
        · subst e2; exact .inr (by simp [h4])
        · have h3' : (left (wlit i b') && !(wlit i b').sameKey (wlit i b)) = false := h3
          rw [hother i b' hi h1 (fun h => e2 h.2)] at h3'
          exact .inl ⟨b', h1, h2, h3', h4⟩
    · rw [if_neg e, h.mem i hi]
      constructor
      · rintro ⟨b', h1, h2, h3, h4⟩
        exact ⟨b', h1, h2, by rw [h3]; rfl, h4⟩
      · rintro ⟨b', h1, h2, h3, h4⟩
        have h3' : (left (wlit i b') && !(wlit i b').sameKey (wlit a b)) = false := h3
        rw [hother i b' hi h1 (fun h => e h.1)] at h3'
        exact ⟨b', h1, h2, h3', h4⟩
theorem LP.start {N : Nat} {S : Nat → Nat → Bool} {D : DataW Unit} (hS : ∀ l, Maps.has D l = true ↔ WL N S l) : LP N S (Maps.has D) (List.replicate N []) := by
  have hget : ∀ i : Nat, i < N → (List.replicate N ([] : List Int))[i]! = [] := fun i hi => by rw [getElem!_pos _ i (by simpa using hi)]; simp
  refine ⟨by simp, fun i hi => by rw [hget i hi]; exact List.nodup_nil, fun i hi x => ?_⟩
  rw [hget i hi]
  constructor
  · intro h; cases h
  · rintro ⟨b, h1, h2, h3, _⟩
    rw [(hS _).2 ⟨i, b, hi, h1, h2, rfl⟩] at h3; cases h3
theorem LP.sorted {N a : Nat} {S : Nat → Nat → Bool} {left : Lit → Bool} {ls : List (List Int)} (h : LP N S left ls) (hl : ∀ l, left l = false) (ha : a < N) : (ls[a]!).mergeSort (fun x y => decide (x ≤ y)) = inL N (S a) := by
  have hp : (ls[a]!).Perm (inL N (S a)) := (List.perm_ext_iff_of_nodup (h.nd a ha) ((inL_up N (S a)).imp (fun h => by omega))).2 (fun x => by
    rw [h.mem a ha, inL_mem]
    constructor
    · rintro ⟨b, h1, h2, _, h4⟩; exact ⟨b, h1, h2, h4⟩
    · rintro ⟨b, h1, h2, h4⟩; exact ⟨b, h1, h2, hl _, h4⟩)
  exact (mergeSort_of_perm_i hp).trans (inL_sorted N (S a))
theorem LP.lens {N a : Nat} {S : Nat → Nat → Bool} {left : Lit → Bool} {ls : List (List Int)} (h : LP N S left ls) (ha : a < N) : (ls[a]!).length ≤ N := by
  have hp : (ls[a]!).Perm (inL N (fun b => S a b && !left (wlit a b))) := (List.perm_ext_iff_of_nodup (h.nd a ha) ((inL_up N _).imp (fun h => by omega))).2 (fun x => by
    rw [h.mem a ha, inL_mem]
    constructor
    · rintro ⟨b, h1, h2, h3, h4⟩; exact ⟨b, h1, by rw [h2, h3]; rfl, h4⟩
    · rintro ⟨b, h1, h2, h4⟩
      rw [Bool.and_eq_true, Bool.not_eq_true'] at h2
      exact ⟨b, h1, h2.1, h2.2, h4⟩)
  rw [hp.length_eq]
  exact inL_len _ _
theorem grown_set {w : World} (b i : Nat) (u : Value) : w.grownBy (w.setCell ⟨b, i, none⟩ u) (some b) := ⟨rfl, rfl, rfl, by simp, fun k _ hk => Below.heap_setCell _ _ _ _ (fun e => hk (by rw [e]))⟩
theorem grown_drew {w : World} {row : Option Nat} : w.grownBy w.drew row := ⟨rfl, rfl, rfl, Nat.le_refl _, fun _ _ _ => rfl⟩
theorem own_far_rg {W : World} {B e z k n b r cnt : Nat} {v : Value} {xs : List Value} {T : TypeId} {D : DataW Unit} {left : Lit → Bool} (h : W.ownsRow B e z v k xs) (hr : W.ranges Try.prog T Ru b r n D left cnt) : v.ownBlock ≠ some b ∧ v.ownBlock ≠ some r := by
  obtain ⟨es, clock, since, seen, c0, hb, _, _, _, hi, _⟩ := hr
  rcases h.2 with ⟨rfl, _⟩ | ⟨g, cap, cur, rfl, _, hg, _⟩
  · exact ⟨fun e => (by cases e), fun e => (by cases e)⟩
  · constructor
    · intro e
      simp only [Value.ownBlock, Option.some.injEq] at e
      subst e; rw [hb] at hg; cases hg
    · intro e
      simp only [Value.ownBlock, Option.some.injEq] at e
      subst e; rw [hi] at hg; cases hg
/-- What stands while the net is made. -/
structure NR (w : World) (N g m r c : Nat) (S : Nat → Nat → Bool) (D : DataW Unit) (left : Lit → Bool) (cnt : Nat) (left2 : Lit → Bool) (vs : List Value) (ls : List (List Int)) (W : World) : Prop where
  rg : W.ranges Try.prog 60 Ru m r c D left cnt
  o : ORv w.heap.size w.heap.size W (.slice (some ⟨g, 0, none⟩) N N) vs ls
  p : LP N S left2 ls
  l : Below w.heap.size w W
section
variable {w W W1 : World} {N g m r c cnt cnt1 : Nat} {S : Nat → Nat → Bool} {D : DataW Unit} {left left1 left2 : Lit → Bool} {vs : List Value} {ls : List (List Int)}
theorem NR.grown (h : NR w N g m r c S D left cnt left2 vs ls W) (hg : W.grownBy W1 none) : NR w N g m r c S D left cnt left2 vs ls W1 :=
  ⟨h.rg.kept hg (by simp) (by simp), h.o.keep (fun q hq => hg.block q (by
    rcases hq with hq | ⟨i, hi, hq⟩
    · exact (own_block h.o.out hq).2
    · exact (own_block (h.o.inn i hi) hq).2) (by simp)), h.p, h.l.grown hg h.l.size (fun j hj => by cases hj)⟩
theorem NR.come (h : NR w N g m r c S D left cnt left2 vs ls W) (hrg : W1.ranges Try.prog 60 Ru m r c D left1 cnt1) (hg : W.grownBy W1 (some r)) (hr : w.heap.size ≤ r) : NR w N g m r c S D left1 cnt1 left2 vs ls W1 :=
  ⟨hrg, h.o.keep (fun q hq => by
    rcases hq with hq | ⟨i, hi, hq⟩
    · exact hg.block q (own_block h.o.out hq).2 (fun e => (own_far_rg h.o.out h.rg).2 (by rw [hq, e]))
    · exact hg.block q (own_block (h.o.inn i hi) hq).2 (fun e => (own_far_rg (h.o.inn i hi) h.rg).2 (by rw [hq, e]))), h.p, h.l.grown hg h.l.size (fun j hj => by cases hj; exact hr)⟩
/-- A way has been put behind its row, and the row is stored back. -/
theorem NR.put {a b : Nat} {v' : Value} (h : NR w N g m r c S D (fun z => left z && !z.sameKey (wlit a b)) cnt left vs ls W) (hN : N ≤ 1000000) (ha : a < N) (hb : b < N) (hS : S a b = true) (hl : left (wlit a b) = true)
    (ho : W1.ownsRow w.heap.size 3 1 v' (ls[a]!.length + 1) (ls[a]!.map (Value.int .i64) ++ [iv b])) (hg : W.grownBy W1 vs[a]!.ownBlock) (hat : v'.ownBlock = vs[a]!.ownBlock ∨ ∃ q, v'.ownBlock = some q ∧ W.heap.size ≤ q) :
    NR w N g m r c S D (fun z => left z && !z.sameKey (wlit a b)) cnt (fun z => left z && !z.sameKey (wlit a b)) (vs.set a v') (ls.set a (ls[a]! ++ [(b : Int)])) (W1.setCell ⟨g, a, none⟩ v') := by
  have hal : a < ls.length := by rw [h.p.len]; exact ha
  have hir := own_far_rg (h.o.inn a hal) h.rg
  have hor := own_far_rg h.o.out h.rg
  refine ⟨(h.rg.kept hg (fun e => hir.1 e.symm) (fun e => hir.2 e.symm)).kept (grown_set g a v') (fun e => hor.1 e.symm) (fun e => hor.2 e.symm), h.o.put hal h.p.len.symm ho hg hat, h.p.next hN ha hb hS hl, ?_⟩
  refine (h.l.grown hg h.l.size (fun j hj => (own_block (h.o.inn a hal) hj).1)).setCell ?_ _
  exact (own_block h.o.out (g := g) rfl).1
end
/-- One row has turned. -/
theorem ORv.turnRow {Bo Bi k : Nat} {W W1 : World} {v : Value} {vs : List Value} {ls : List (List Int)} {l' : List Int} (h : ORv Bo Bi W v vs ls) (hk : k < ls.length) (hl : l'.length = ls[k]!.length) (ho : W1.ownsRow Bi 3 1 vs[k]! l'.length (l'.map (Value.int .i64))) (hg : W.grownBy W1 vs[k]!.ownBlock) : ORv Bo Bi W1 v vs (ls.set k l') := by
  refine ⟨by rw [List.length_set]; exact h.len, by rw [List.length_set]; exact own_keep h.out (fun q hq => hg.block q (own_block h.out hq).2 (fun e => own_types (h.inn k hk) h.out (by decide) e.symm hq)), fun i hi => ?_, fun i j hi hj => ?_⟩
  · rw [List.length_set] at hi
    rw [set_get hk]
    by_cases e : i = k
    · subst e; rw [if_pos rfl]; exact ho
    · rw [if_neg e]
      exact own_keep (h.inn i hi) (fun q hq => hg.block q (own_block (h.inn i hi) hq).2 (fun e' => h.dis i k hi hk e q hq e'.symm))
  · rw [List.length_set] at hi hj
    exact h.dis i j hi hj
/-- slices.Sort of a row of the call's own. -/
theorem sort_own (w : World) (v : Value) (B : Nat) (l : List Int) (h : w.ownsRow B 3 1 v l.length (l.map (Value.int .i64))) (hl : l.length ≤ 1000000) :
    Calls Try.prog 34 #[v] w fun e w' => e = .returned (.tuple #[]) ∧ w'.ownsRow B 3 1 v (l.mergeSort fun x y => decide (x ≤ y)).length ((l.mergeSort fun x y => decide (x ≤ y)).map (Value.int .i64)) ∧ w.grownBy w' v.ownBlock := by
  have hlen : (l.mergeSort fun x y => decide (x ≤ y)).length = l.length := List.length_mergeSort _
  rcases h.2 with ⟨rfl, h0⟩ | ⟨g, cap, cur, rfl, hBg, hg, h1, h2, h3, h4⟩
  · have e0 : l = [] := List.eq_nil_of_length_eq_zero h0
    subst e0
    refine (I.slices_Sort_int_none none 0 w).mono ?_
    rintro e w' ⟨rfl, rfl⟩
    exact ⟨rfl, by simpa using h, ⟨rfl, rfl, rfl, Nat.le_refl _, fun _ _ _ => rfl⟩⟩
  · refine (I.slices_Sort_int g 0 cap l w (holds_of_block_i hg (by rw [← h4, Nat.mul_one])) (blk_lt hg) (by omega)).mono ?_
    rintro e w' ⟨rfl, n, os, rfl⟩
    refine ⟨rfl, ?_, grownBy_sorted_i _⟩
    have := ownsRow_sorted_i (n := n) (os := os) (ts := l.mergeSort fun x y => decide (x ≤ y)) (ss := l) hlen hBg hg h1 h2 h3
    rw [hlen]
    exact this
end Go.Proofs.Ytigicbnkfmbolaa.N7
