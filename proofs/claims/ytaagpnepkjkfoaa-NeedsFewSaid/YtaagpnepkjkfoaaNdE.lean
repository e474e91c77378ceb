/-
  Contracts of needs.events, and of the looks and choices.
-/
import Derived.Test.YtaagpnepkjkfoaaNdG
import Derived.Test.YtaagpnepkjkfoaaRgc
namespace Go.Proofs.Ytaagpnepkjkfoaa.N7
open Go.RowKit Go.Shelf Go.Proofs.Ytaagpnepkjkfoaa.B Go.Proofs.Ytaagpnepkjkfoaa.R6

abbrev evW (v : Ev) : Value := .agg #[.string v.name, .string v.group, .string v.role, .bool v.inn, .bool v.done, .int .i64 v.due]
/-- The events that a choice takes, of the first k. -/
def eB (p : Ev → Bool) (es : List Ev) (k i : Nat) : Bool := decide (i < k) && p es[i]!
theorem eB_no {p : Ev → Bool} {es : List Ev} {k N : Nat} (h : p es[k]! = false) (l : Lit) : IL N (eB p es k) l ↔ IL N (eB p es (k + 1)) l := by
  have key : ∀ i, eB p es k i = eB p es (k + 1) i := fun i => by
    unfold eB
    by_cases e : i = k
    · subst e; rw [h]; simp
    · have : decide (i < k) = decide (i < k + 1) := by rw [decide_eq_decide]; omega
      rw [this]
  unfold IL
  simp only [key]
theorem eB_yes {p : Ev → Bool} {es : List Ev} {k N : Nat} (hk : k < N) (h : p es[k]! = true) (l : Lit) : (IL N (eB p es k) l ∨ l = litI k) ↔ IL N (eB p es (k + 1)) l := by
  have key : ∀ i, eB p es (k + 1) i = true ↔ eB p es k i = true ∨ i = k := fun i => by
    unfold eB
    by_cases e : i = k
    · subst e; rw [h]; simp
    · have : decide (i < k + 1) = decide (i < k) := by rw [decide_eq_decide]; omega
      rw [this]; simp [e]
  unfold IL
  simp only [key]
  constructor
  · rintro (⟨i, h1, h2, h3⟩ | rfl)
    · exact ⟨i, h1, .inl h2, h3⟩
    · exact ⟨k, hk, .inr rfl, rfl⟩
  · rintro ⟨i, h1, h2 | rfl, h3⟩
    · exact .inl ⟨i, h1, h2, h3⟩
    · exact .inr h3
theorem eB_all {p : Ev → Bool} {es : List Ev} (l : Lit) : IL es.length (eB p es es.length) l ↔ IL es.length (fun i => p es[i]!) l := by
  unfold IL eB
  constructor
  · rintro ⟨i, h1, h2, h3⟩
    rw [Bool.and_eq_true] at h2
    exact ⟨i, h1, h2.2, h3⟩
  · rintro ⟨i, h1, h2, h3⟩
    exact ⟨i, h1, by rw [Bool.and_eq_true]; exact ⟨decide_eq_true h1, h2⟩, h3⟩
structure EI (w : World) (p : Ev → Bool) (es : List Ev) (k : Nat) (W : World) : Prop where
  m : MS 3 W (w.heap.size + 1) k (IL es.length (eB p es k))
  l : Below w.heap.size w W
theorem EI.call {w W W' : World} {p : Ev → Bool} {es : List Ev} {k : Nat} (h : EI w p es k W) (hb : Below W.heap.size W W') : EI w p es k W' := ⟨h.m.below hb, h.l.trans (hb.mono h.l.size)⟩
theorem EI.skip {w W : World} {p : Ev → Bool} {es : List Ev} {k : Nat} (h : EI w p es k W) (hp : p es[k]! = false) : EI w p es (k + 1) W := ⟨(h.m.mono (Nat.le_succ _)).congr (eB_no hp), h.l⟩
theorem EI.put {w W : World} {p : Ev → Bool} {es : List Ev} {k : Nat} (h : EI w p es k W) (hk : k < es.length) (hl : es.length ≤ 1000000) (hp : p es[k]! = true) :
    ∃ w1, (Instr.mapUpdate 84 (.map (some (w.heap.size + 1))) (.int .i64 (k : Int)) (.agg #[])).run Try.prog W = .ok () w1 ∧ EI w p es (k + 1) w1 := by
  obtain ⟨w1, h1, h2, h3⟩ := h.m.put lawI Try.underlying84 (by unfold maxLen; omega) (keyI (k := k) (by omega))
  exact ⟨w1, h1, h2.congr (eB_yes hk hp), h.l.grown h3 h.l.size (fun j hj => by cases hj; omega)⟩
set_option maxRecDepth 100000 in
set_option maxHeartbeats 4000000 in
theorem events_any (w : World) (EA TA : Option Addr) (ec tn tc : Nat) (es : List Ev) (p : Ev → Bool) (fl : Nat) (lb : Array Value) (hr : Row w EA (es.flatMap evC)) (hl : es.length ≤ 1000000) (eg : ∀ args w, (callFunc fl args).run Try.prog w = .ok (.enter fl args) w)
    (hcall : ∀ (W : World) (v : Ev), Below w.heap.size w W → Calls Try.prog fl (#[evW v] ++ lb) W fun e W' => e = .returned (.bool (p v)) ∧ Below W.heap.size W W') :
    Calls Try.prog 64 #[FV EA TA es.length ec tn tc, .func (.func fl) #[] lb] w fun e w' => e = .returned (.map (some (w.heap.size + 1))) ∧ MS 3 w' (w.heap.size + 1) es.length (IL es.length (fun i => p es[i]!)) ∧ Below w.heap.size w w' := by
  have HC := Lib.hid hcall
  have HR := Lib.hid hr
  have hmk := mkM (w.alloc (.cells #[.slice EA es.length ec, .slice TA tn tc] 45))
  rw [World.size_alloc] at hmk
  have G0 : Hid (EI w p es 0 ((w.alloc (.cells #[.slice EA es.length ec, .slice TA tn tc] 45)).alloc (.map #[] 0))) := Lib.hid (by
    have h1 := (MS.made 3 (w.alloc (.cells #[.slice EA es.length ec, .slice TA tn tc] 45))).congr (S' := IL es.length (eB p es 0)) (fun x => ⟨fun h => h.elim, fun ⟨i, _, h, _⟩ => by simp [eB] at h⟩)
    rw [World.size_alloc] at h1
    exact ⟨h1, ((Below.refl _ _).alloc (Nat.le_refl _) _).alloc (by rw [World.size_alloc]; omega) _⟩)
  clear hcall hr
  go_enter Try.func64, Try.ntmps64
  go_wp2_with fail
  go_loopw [12] (fun i wr => ∃ k : Nat, k ≤ es.length ∧ i = .int .i64 k ∧ Hid (EI w p es k wr)) (fun i _ => es.length - (intOf i).toNat)
  case atStart => exact ⟨0, Nat.zero_le _, rfl, G0⟩
  case round =>
    clear G0 hmk
    obtain ⟨k, hk, rfl, GG⟩ := hrel
    by_cases hlt : k < es.length
    · obtain ⟨b, off, rfl, hb, hc⟩ := HR.out.at_ (k := 6) (fun _ => rfl) (by omega) hlt
      have k0 := hc 0 _ rfl
      have k1 := hc 1 _ rfl
      have k2 := hc 2 _ rfl
      have k3 := hc 3 _ rfl
      have k4 := hc 4 _ rfl
      have k5 := hc 5 _ rfl
      rw [Nat.add_zero] at k0
      rw [← GG.out.l.cell (p := ⟨b, _, none⟩) hb] at k0 k1 k2 k3 k4 k5
      have hk0 : (0 : Int) ≤ (k : Int) := Int.natCast_nonneg _
      have hk1 : (k : Int) < (es.length : Int) := by omega
      have HS := fun W (h : EI w p es k W) h2 => h.skip h2
      have HP := fun W (h : EI w p es k W) h2 => h.put hlt hl h2
      clear hc
      generalize es[k]! = v at *
      obtain ⟨wo, rfl⟩ : ∃ wo, wo = wr := ⟨wr, rfl⟩
      have hal : Below wo.heap.size wo (wo.alloc (.cells #[.string v.name, .string v.group, .string v.role, .bool v.inn, .bool v.done, .int .i64 v.due] 81)) := (Below.refl _ _).alloc (Nat.le_refl _) _
      have GA := Lib.hid (GG.out.call hal)
      have C := Lib.hid (HC.out _ v GA.out.l)
      clear GG hal
      cases hp : p v with
      | false =>
        rw [hp] at C
        have HS' := Lib.hid (fun W h => HS W h hp)
        clear HS HP hp
        go_wp2_with fail
        refine C.out.mono ?_
        rintro e w3 ⟨rfl, hb3⟩
        have G3 := Lib.hid (HS'.out _ (GA.out.call hb3))
        clear C hb3 k0 k1 k2 k3 k4 k5 GA HS'
        go_wp2_with fail
        go_roundw
        case rel => exact ⟨k + 1, hlt, by go_num, G3⟩
        case measure => simp [intOf]; omega
      | true =>
        rw [hp] at C
        have HP' := Lib.hid (fun W h => HP W h hp)
        clear HS HP hp
        go_wp2_with fail
        refine C.out.mono ?_
        rintro e w3 ⟨rfl, hb3⟩
        obtain ⟨w6, hput, hG6⟩ := HP'.out _ (GA.out.call hb3)
        have G6 := Lib.hid hG6
        clear C hb3 k0 k1 k2 k3 k4 k5 GA HP' hG6
        go_wp2_with fail
        go_roundw
        case rel => exact ⟨k + 1, hlt, by go_num, G6⟩
        case measure => simp [intOf]; omega
    · obtain rfl : k = es.length := by omega
      have HM := Lib.hid (GG.out.m.congr eB_all)
      have HB := Lib.hid GG.out.l
      clear GG
      go_wp2_with fail
      go_ret
      exact ⟨rfl, HM.out, HB.out⟩

/-! ### looks and choices -/
set_option maxHeartbeats 2000000 in
theorem blocks1_any (w : World) (t : Ti) (at_ : Int) (b1 : Nat) (h1 : w.heap[b1]? = some (.cells #[.int .i64 at_] 3 (0, 0))) :
    Calls Try.prog 54 (#[tiW t] ++ #[.pointer (some ⟨b1, 0, none⟩)]) w fun e w' => e = .returned (.tuple #[.int .i64 t.fr, .bool (blkK t && t.to == at_)]) ∧ Below w.heap.size w w' := by
  show Calls Try.prog 54 #[tiW t, .pointer (some ⟨b1, 0, none⟩)] w _
  have hl1 := blk_lt h1
  have hal : Below w.heap.size w (w.alloc (.cells #[.int .i64 t.kind, .int .i64 t.fr, .int .i64 t.to, .int .i64 t.time] 62)) := (Below.refl _ _).alloc (Nat.le_refl _) _
  have hn := heap_new w (.cells #[.int .i64 t.kind, .int .i64 t.fr, .int .i64 t.to, .int .i64 t.time] 62)
  have hz : (w.alloc (.cells #[.int .i64 t.kind, .int .i64 t.fr, .int .i64 t.to, .int .i64 t.time] 62)).heap.size = w.heap.size + 1 := World.size_alloc _ _
  have hd : Below (w.heap.size + 1) (w.alloc (.cells #[.int .i64 t.kind, .int .i64 t.fr, .int .i64 t.to, .int .i64 t.time] 62)) (World.drew (w.alloc (.cells #[.int .i64 t.kind, .int .i64 t.fr, .int .i64 t.to, .int .i64 t.time] 62))) := below_draws (by have := Below.refl (w.heap.size + 1) (w.alloc (.cells #[.int .i64 t.kind, .int .i64 t.fr, .int .i64 t.to, .int .i64 t.time] 62)); exact this) 1
  generalize hW1 : (w.alloc (.cells #[.int .i64 t.kind, .int .i64 t.fr, .int .i64 t.to, .int .i64 t.time] 62)) = W1 at *
  have hb1 : W1.heap[b1]? = some (.cells #[.int .i64 at_] 3 (0, 0)) := (hal.block _ hl1).trans h1
  have f0 : ∀ x : WIn (Below (w.heap.size + 1) W1), x.w.cell? ⟨w.heap.size, 0, none⟩ = some (.int .i64 t.kind) := fun x => cell_blk ((x.h.block _ (by omega)).trans hn) rfl
  have f1 : ∀ x : WIn (Below (w.heap.size + 1) W1), x.w.cell? ⟨w.heap.size, 1, none⟩ = some (.int .i64 t.fr) := fun x => cell_blk ((x.h.block _ (by omega)).trans hn) rfl
  have f2 : ∀ x : WIn (Below (w.heap.size + 1) W1), x.w.cell? ⟨w.heap.size, 2, none⟩ = some (.int .i64 t.to) := fun x => cell_blk ((x.h.block _ (by omega)).trans hn) rfl
  have f3 : ∀ x : WIn (Below (w.heap.size + 1) W1), x.w.cell? ⟨w.heap.size, 3, none⟩ = some (.int .i64 t.time) := fun x => cell_blk ((x.h.block _ (by omega)).trans hn) rfl
  have f4 : ∀ x : WIn (Below (w.heap.size + 1) W1), x.w.cell? ⟨b1, 0, none⟩ = some (.int .i64 at_) := fun x => cell_blk ((x.h.block _ (by omega)).trans hb1) rfl
  have EN := class_call (CC := Below (w.heap.size + 1) W1) (fun _ _ h hb => h.trans (hb.mono (by have := h.size; omega))) (fun W _ => blocks_any W t)
  haveI : Nonempty (WIn (Below (w.heap.size + 1) W1)) := ⟨⟨_, hd⟩⟩
  have HAL := Lib.hid hal
  clear hn hb1 h1 hal
  subst hW1
  cases hk : blkK t with
  | false =>
    rw [hk] at EN
    go_enter Try.func54, Try.ntmps54
    go_wp2_with fail
    refine wp_region_class _ (by kernel_rfl) (by kernel_rfl) hd ?_
    repeat (go_big_quiet_step (exact EN _))
    refine wpQuiet_nil ?_
    rintro _ ⟨⟨wq, hwq⟩, rfl⟩
    go_wp2_with fail
    go_ret2
    exact ⟨rfl, HAL.out.trans (hwq.mono (by omega))⟩
  | true =>
    rw [hk] at EN
    go_enter Try.func54, Try.ntmps54
    go_wp2_with fail
    refine wp_region_class _ (by kernel_rfl) (by kernel_rfl) hd ?_
    repeat (go_big_quiet_step (exact EN _))
    refine wpQuiet_nil ?_
    rintro _ ⟨⟨wq, hwq⟩, rfl⟩
    go_wp2_with fail
    go_ret2
    exact ⟨rfl, HAL.out.trans (hwq.mono (by omega))⟩
set_option maxHeartbeats 2000000 in
theorem calls1_any (w : World) (t : Ti) (at_ : Int) (b1 : Nat) (h1 : w.heap[b1]? = some (.cells #[.int .i64 at_] 3 (0, 0))) :
    Calls Try.prog 57 (#[tiW t] ++ #[.pointer (some ⟨b1, 0, none⟩)]) w fun e w' => e = .returned (.tuple #[.int .i64 t.to, .bool (clK t && t.fr == at_)]) ∧ Below w.heap.size w w' := by
  show Calls Try.prog 57 #[tiW t, .pointer (some ⟨b1, 0, none⟩)] w _
  have hl1 := blk_lt h1
  have hal : Below w.heap.size w (w.alloc (.cells #[.int .i64 t.kind, .int .i64 t.fr, .int .i64 t.to, .int .i64 t.time] 62)) := (Below.refl _ _).alloc (Nat.le_refl _) _
  have hn := heap_new w (.cells #[.int .i64 t.kind, .int .i64 t.fr, .int .i64 t.to, .int .i64 t.time] 62)
  have hz : (w.alloc (.cells #[.int .i64 t.kind, .int .i64 t.fr, .int .i64 t.to, .int .i64 t.time] 62)).heap.size = w.heap.size + 1 := World.size_alloc _ _
  have hd : Below (w.heap.size + 1) (w.alloc (.cells #[.int .i64 t.kind, .int .i64 t.fr, .int .i64 t.to, .int .i64 t.time] 62)) (World.drew (w.alloc (.cells #[.int .i64 t.kind, .int .i64 t.fr, .int .i64 t.to, .int .i64 t.time] 62))) := below_draws (by have := Below.refl (w.heap.size + 1) (w.alloc (.cells #[.int .i64 t.kind, .int .i64 t.fr, .int .i64 t.to, .int .i64 t.time] 62)); exact this) 1
  generalize hW1 : (w.alloc (.cells #[.int .i64 t.kind, .int .i64 t.fr, .int .i64 t.to, .int .i64 t.time] 62)) = W1 at *
  have hb1 : W1.heap[b1]? = some (.cells #[.int .i64 at_] 3 (0, 0)) := (hal.block _ hl1).trans h1
  have f0 : ∀ x : WIn (Below (w.heap.size + 1) W1), x.w.cell? ⟨w.heap.size, 0, none⟩ = some (.int .i64 t.kind) := fun x => cell_blk ((x.h.block _ (by omega)).trans hn) rfl
  have f1 : ∀ x : WIn (Below (w.heap.size + 1) W1), x.w.cell? ⟨w.heap.size, 1, none⟩ = some (.int .i64 t.fr) := fun x => cell_blk ((x.h.block _ (by omega)).trans hn) rfl
  have f2 : ∀ x : WIn (Below (w.heap.size + 1) W1), x.w.cell? ⟨w.heap.size, 2, none⟩ = some (.int .i64 t.to) := fun x => cell_blk ((x.h.block _ (by omega)).trans hn) rfl
  have f3 : ∀ x : WIn (Below (w.heap.size + 1) W1), x.w.cell? ⟨w.heap.size, 3, none⟩ = some (.int .i64 t.time) := fun x => cell_blk ((x.h.block _ (by omega)).trans hn) rfl
  have f4 : ∀ x : WIn (Below (w.heap.size + 1) W1), x.w.cell? ⟨b1, 0, none⟩ = some (.int .i64 at_) := fun x => cell_blk ((x.h.block _ (by omega)).trans hb1) rfl
  have EN := class_call (CC := Below (w.heap.size + 1) W1) (fun _ _ h hb => h.trans (hb.mono (by have := h.size; omega))) (fun W _ => calls_any W t)
  haveI : Nonempty (WIn (Below (w.heap.size + 1) W1)) := ⟨⟨_, hd⟩⟩
  have HAL := Lib.hid hal
  clear hn hb1 h1 hal
  subst hW1
  cases hk : clK t with
  | false =>
    rw [hk] at EN
    go_enter Try.func57, Try.ntmps57
    go_wp2_with fail
    refine wp_region_class _ (by kernel_rfl) (by kernel_rfl) hd ?_
    repeat (go_big_quiet_step (exact EN _))
    refine wpQuiet_nil ?_
    rintro _ ⟨⟨wq, hwq⟩, rfl⟩
    go_wp2_with fail
    go_ret2
    exact ⟨rfl, HAL.out.trans (hwq.mono (by omega))⟩
  | true =>
    rw [hk] at EN
    go_enter Try.func57, Try.ntmps57
    go_wp2_with fail
    refine wp_region_class _ (by kernel_rfl) (by kernel_rfl) hd ?_
    repeat (go_big_quiet_step (exact EN _))
    refine wpQuiet_nil ?_
    rintro _ ⟨⟨wq, hwq⟩, rfl⟩
    go_wp2_with fail
    go_ret2
    exact ⟨rfl, HAL.out.trans (hwq.mono (by omega))⟩
set_option maxHeartbeats 2000000 in
theorem called2_any (w : World) (t : Ti) :
    Calls Try.prog 66 (#[tiW t] ++ #[]) w fun e w' => e = .returned (.tuple #[.int .i64 t.to, .bool (clK t)]) ∧ Below w.heap.size w w' := by
  show Calls Try.prog 66 #[tiW t] w _
  have hal : Below w.heap.size w (w.alloc (.cells #[.int .i64 t.kind, .int .i64 t.fr, .int .i64 t.to, .int .i64 t.time] 62)) := (Below.refl _ _).alloc (Nat.le_refl _) _
  have hn := heap_new w (.cells #[.int .i64 t.kind, .int .i64 t.fr, .int .i64 t.to, .int .i64 t.time] 62)
  have hz : (w.alloc (.cells #[.int .i64 t.kind, .int .i64 t.fr, .int .i64 t.to, .int .i64 t.time] 62)).heap.size = w.heap.size + 1 := World.size_alloc _ _
  have hd : Below (w.heap.size + 1) (w.alloc (.cells #[.int .i64 t.kind, .int .i64 t.fr, .int .i64 t.to, .int .i64 t.time] 62)) (World.drew (w.alloc (.cells #[.int .i64 t.kind, .int .i64 t.fr, .int .i64 t.to, .int .i64 t.time] 62))) := below_draws (by have := Below.refl (w.heap.size + 1) (w.alloc (.cells #[.int .i64 t.kind, .int .i64 t.fr, .int .i64 t.to, .int .i64 t.time] 62)); exact this) 1
  generalize hW1 : (w.alloc (.cells #[.int .i64 t.kind, .int .i64 t.fr, .int .i64 t.to, .int .i64 t.time] 62)) = W1 at *
  have f0 : ∀ x : WIn (Below (w.heap.size + 1) W1), x.w.cell? ⟨w.heap.size, 0, none⟩ = some (.int .i64 t.kind) := fun x => cell_blk ((x.h.block _ (by omega)).trans hn) rfl
  have f1 : ∀ x : WIn (Below (w.heap.size + 1) W1), x.w.cell? ⟨w.heap.size, 1, none⟩ = some (.int .i64 t.fr) := fun x => cell_blk ((x.h.block _ (by omega)).trans hn) rfl
  have f2 : ∀ x : WIn (Below (w.heap.size + 1) W1), x.w.cell? ⟨w.heap.size, 2, none⟩ = some (.int .i64 t.to) := fun x => cell_blk ((x.h.block _ (by omega)).trans hn) rfl
  have f3 : ∀ x : WIn (Below (w.heap.size + 1) W1), x.w.cell? ⟨w.heap.size, 3, none⟩ = some (.int .i64 t.time) := fun x => cell_blk ((x.h.block _ (by omega)).trans hn) rfl
  have EN := class_call (CC := Below (w.heap.size + 1) W1) (fun _ _ h hb => h.trans (hb.mono (by have := h.size; omega))) (fun W _ => calls_any W t)
  haveI : Nonempty (WIn (Below (w.heap.size + 1) W1)) := ⟨⟨_, hd⟩⟩
  have HAL := Lib.hid hal
  clear hn hal
  subst hW1
  go_enter Try.func66, Try.ntmps66
  go_wp2_with fail
  refine wp_region_class _ (by kernel_rfl) (by kernel_rfl) hd ?_
  repeat (go_big_quiet_step (exact EN _))
  refine wpQuiet_nil ?_
  rintro _ ⟨⟨wq, hwq⟩, rfl⟩
  go_wp2_with fail
  go_ret2
  exact ⟨rfl, HAL.out.trans (hwq.mono (by omega))⟩
set_option maxHeartbeats 2000000 in
theorem excl2_any (w : World) (t : Ti) : Calls Try.prog 68 (#[tiW t] ++ #[]) w fun e w' => e = .returned (.tuple #[.int .i64 t.to, .bool (t.kind == 4)]) ∧ Below w.heap.size w w' := by
  show Calls Try.prog 68 #[tiW t] w _
  have hal : Below w.heap.size w (w.alloc (.cells #[.int .i64 t.kind, .int .i64 t.fr, .int .i64 t.to, .int .i64 t.time] 62)) := (Below.refl _ _).alloc (Nat.le_refl _) _
  go_enter Try.func68, Try.ntmps68
  go_wp2_with fail
  go_quiet (fail)
  go_wp2_with fail
  go_ret2
  exact ⟨rfl, below_draws hal _⟩
set_option maxHeartbeats 1000000 in
theorem called1_any (w : World) (v : Ev) : Calls Try.prog 65 (#[evW v] ++ #[]) w fun e w' => e = .returned (.bool (decide (0 ≤ v.due))) ∧ Below w.heap.size w w' := by
  show Calls Try.prog 65 #[evW v] w _
  have hal : Below w.heap.size w (w.alloc (.cells #[.string v.name, .string v.group, .string v.role, .bool v.inn, .bool v.done, .int .i64 v.due] 81)) := (Below.refl _ _).alloc (Nat.le_refl _) _
  go_enter Try.func65, Try.ntmps65
  go_wp2_with fail
  go_ret
  exact ⟨rfl, hal⟩
set_option maxHeartbeats 1000000 in
theorem excl1_any (w : World) (v : Ev) : Calls Try.prog 67 (#[evW v] ++ #[]) w fun e w' => e = .returned (.bool (!v.inn)) ∧ Below w.heap.size w w' := by
  show Calls Try.prog 67 #[evW v] w _
  have hal : Below w.heap.size w (w.alloc (.cells #[.string v.name, .string v.group, .string v.role, .bool v.inn, .bool v.done, .int .i64 v.due] 81)) := (Below.refl _ _).alloc (Nat.le_refl _) _
  go_enter Try.func67, Try.ntmps67
  go_wp2_with fail
  go_ret
  exact ⟨rfl, hal⟩
end Go.Proofs.Ytaagpnepkjkfoaa.N7
