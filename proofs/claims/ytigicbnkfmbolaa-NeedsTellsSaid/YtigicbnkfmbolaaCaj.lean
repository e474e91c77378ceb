/-
  Contracts of needs.events, and of the looks and choices. Contracts of flat.chosen, Into, Out, over the helpers alone.
-/
import Derived.Test.YtigicbnkfmbolaaCai
import Derived.Test.YtigicbnkfmbolaaCag
import Derived.Test.YtigicbnkfmbolaaCaa
import Derived.Test.YtigicbnkfmbolaaProg
namespace Go.Proofs.Ytigicbnkfmbolaa.N7
open Go.RowKit Go.Shelf Go.Proofs.Ytigicbnkfmbolaa.B Go.Proofs.Ytigicbnkfmbolaa.R6
abbrev evW (v : Ev) : Value := .agg #[.string v.name, .string v.group, .string v.role, .bool v.inn, .bool v.done, .int .i64 v.due]
/-- The events that a choice takes, of the first k. -/
def eB (p : Ev → Bool) (es : List Ev) (k i : Nat) : Bool := decide (i < k) && p es[i]!
theorem eB_no {p : Ev → Bool} {es : List Ev} {k N : Nat} (h : p es[k]! = false) (l : Lit) : IL N (eB p es k) l ↔ IL N (eB p es (k + 1)) l := by
  have key : ∀ i, eB p es k i = eB p es (k + 1) i := fun i => by
    unfold eB
    by_cases e : i = k
    · subst e; rw [h]; simp
    · have : decide (i < k) = decide (i < k + 1) := by rw [decide_eq_decide]; omega
      rw [this]
  unfold IL
  simp only [key]
theorem eB_yes {p : Ev → Bool} {es : List Ev} {k N : Nat} (hk : k < N) (h : p es[k]! = true) (l : Lit) : (IL N (eB p es k) l ∨ l = litI k) ↔ IL N (eB p es (k + 1)) l := by
  have key : ∀ i, eB p es (k + 1) i = true ↔ eB p es k i = true ∨ i = k := fun i => by
    unfold eB
    by_cases e : i = k
    · subst e; rw [h]; simp
    · have : decide (i < k + 1) = decide (i < k) := by rw [decide_eq_decide]; omega
      rw [this]; simp [e]
  unfold IL
  simp only [key]
  constructor
  · rintro (⟨i, h1, h2, h3⟩ | rfl)
    · exact ⟨i, h1, .inl h2, h3⟩
    · exact ⟨k, hk, .inr rfl, rfl⟩
  · rintro ⟨i, h1, h2 | rfl, h3⟩
    · exact .inl ⟨i, h1, h2, h3⟩
    · exact .inr h3
theorem eB_all {p : Ev → Bool} {es : List Ev} (l : Lit) : IL es.length (eB p es es.length) l ↔ IL es.length (fun i => p es[i]!) l := by
  unfold IL eB
  constructor
  · rintro ⟨i, h1, h2, h3⟩
    rw [Bool.and_eq_true] at h2
    exact ⟨i, h1, h2.2, h3⟩
  · rintro ⟨i, h1, h2, h3⟩
    exact ⟨i, h1, by rw [Bool.and_eq_true]; exact ⟨decide_eq_true h1, h2⟩, h3⟩
structure EI (w : World) (p : Ev → Bool) (es : List Ev) (k : Nat) (W : World) : Prop where
  m : MS 3 W (w.heap.size + 1) k (IL es.length (eB p es k))
  l : Below w.heap.size w W
theorem EI.call {w W W' : World} {p : Ev → Bool} {es : List Ev} {k : Nat} (h : EI w p es k W) (hb : Below W.heap.size W W') : EI w p es k W' := ⟨h.m.below hb, h.l.trans (hb.mono h.l.size)⟩
theorem EI.skip {w W : World} {p : Ev → Bool} {es : List Ev} {k : Nat} (h : EI w p es k W) (hp : p es[k]! = false) : EI w p es (k + 1) W := ⟨(h.m.mono (Nat.le_succ _)).congr (eB_no hp), h.l⟩
theorem EI.put {w W : World} {p : Ev → Bool} {es : List Ev} {k : Nat} (h : EI w p es k W) (hk : k < es.length) (hl : es.length ≤ 1000000) (hp : p es[k]! = true) :
    ∃ w1, (Instr.mapUpdate 52 (.map (some (w.heap.size + 1))) (.int .i64 (k : Int)) (.agg #[])).run Try.prog W = .ok () w1 ∧ EI w p es (k + 1) w1 := by
  obtain ⟨w1, h1, h2, h3⟩ := h.m.put lawI Try.underlying52 (by unfold maxLen; omega) (keyI (k := k) (by omega))
  exact ⟨w1, h1, h2.congr (eB_yes hk hp), h.l.grown h3 h.l.size (fun j hj => by cases hj; omega)⟩
set_option maxRecDepth 100000 in
set_option maxHeartbeats 4000000 in
theorem events_any (w : World) (EA TA : Option Addr) (ec tn tc : Nat) (es : List Ev) (p : Ev → Bool) (fl : Nat) (lb : Array Value) (hr : Row w EA (es.flatMap evC)) (hl : es.length ≤ 1000000) (eg : ∀ args w, (callFunc fl args).run Try.prog w = .ok (.enter fl args) w)
    (hcall : ∀ (W : World) (v : Ev), Below w.heap.size w W → Calls Try.prog fl (#[evW v] ++ lb) W fun e W' => e = .returned (.bool (p v)) ∧ Below W.heap.size W W') :
    Calls Try.prog 35 #[FV EA TA es.length ec tn tc, .func (.func fl) #[] lb] w fun e w' => e = .returned (.map (some (w.heap.size + 1))) ∧ MS 3 w' (w.heap.size + 1) es.length (IL es.length (fun i => p es[i]!)) ∧ Below w.heap.size w w' := by
  have HC := Lib.hid hcall
  have HR := Lib.hid hr
  have hmk := mkM (w.alloc (.cells #[.slice EA es.length ec, .slice TA tn tc] 25))
  rw [World.size_alloc] at hmk
  have G0 : Hid (EI w p es 0 ((w.alloc (.cells #[.slice EA es.length ec, .slice TA tn tc] 25)).alloc (.map #[] 0))) := Lib.hid (by
    have h1 := (MS.made 3 (w.alloc (.cells #[.slice EA es.length ec, .slice TA tn tc] 25))).congr (S' := IL es.length (eB p es 0)) (fun x => ⟨fun h => h.elim, fun ⟨i, _, h, _⟩ => by simp [eB] at h⟩)
    rw [World.size_alloc] at h1
    exact ⟨h1, ((Below.refl _ _).alloc (Nat.le_refl _) _).alloc (by rw [World.size_alloc]; omega) _⟩)
  clear hcall hr
  go_enter Try.func35, Try.ntmps35
  go_wp2_with fail
  go_loopw [12] (fun i wr => ∃ k : Nat, k ≤ es.length ∧ i = .int .i64 k ∧ Hid (EI w p es k wr)) (fun i _ => es.length - (intOf i).toNat)
  case atStart => exact ⟨0, Nat.zero_le _, rfl, G0⟩
  case round =>
    clear G0 hmk
    obtain ⟨k, hk, rfl, GG⟩ := hrel
    by_cases hlt : k < es.length
    · obtain ⟨b, off, rfl, hb, hc⟩ := HR.out.at_ (k := 6) (fun _ => rfl) (by omega) hlt
      have k0 := hc 0 _ rfl
      have k1 := hc 1 _ rfl
      have k2 := hc 2 _ rfl
      have k3 := hc 3 _ rfl
      have k4 := hc 4 _ rfl
      have k5 := hc 5 _ rfl
      rw [Nat.add_zero] at k0
      rw [← GG.out.l.cell (p := ⟨b, _, none⟩) hb] at k0 k1 k2 k3 k4 k5
      have hk0 : (0 : Int) ≤ (k : Int) := Int.natCast_nonneg _
      have hk1 : (k : Int) < (es.length : Int) := by omega
      have HS := fun W (h : EI w p es k W) h2 => h.skip h2
      have HP := fun W (h : EI w p es k W) h2 => h.put hlt hl h2
      clear hc
      generalize es[k]! = v at *
      obtain ⟨wo, rfl⟩ : ∃ wo, wo = wr := ⟨wr, rfl⟩
      have hal : Below wo.heap.size wo (wo.alloc (.cells #[.string v.name, .string v.group, .string v.role, .bool v.inn, .bool v.done, .int .i64 v.due] 47)) := (Below.refl _ _).alloc (Nat.le_refl _) _
      have GA := Lib.hid (GG.out.call hal)
      have C := Lib.hid (HC.out _ v GA.out.l)
      clear GG hal
      cases hp : p v with
      | false =>
        rw [hp] at C
        have HS' := Lib.hid (fun W h => HS W h hp)
        clear HS HP hp
        go_wp2_with fail
        refine C.out.mono ?_
        rintro e w3 ⟨rfl, hb3⟩
        have G3 := Lib.hid (HS'.out _ (GA.out.call hb3))
        clear C hb3 k0 k1 k2 k3 k4 k5 GA HS'
        go_wp2_with fail
        go_roundw
        case rel => exact ⟨k + 1, hlt, by go_num, G3⟩
        case measure => simp [intOf]; omega
      | true =>
        rw [hp] at C
        have HP' := Lib.hid (fun W h => HP W h hp)
        clear HS HP hp
        go_wp2_with fail
        refine C.out.mono ?_
        rintro e w3 ⟨rfl, hb3⟩
        obtain ⟨w6, hput, hG6⟩ := HP'.out _ (GA.out.call hb3)
        have G6 := Lib.hid hG6
        clear C hb3 k0 k1 k2 k3 k4 k5 GA HP' hG6
        go_wp2_with fail
        go_roundw
        case rel => exact ⟨k + 1, hlt, by go_num, G6⟩
        case measure => simp [intOf]; omega
    · obtain rfl : k = es.length := by omega
      have HM := Lib.hid (GG.out.m.congr eB_all)
      have HB := Lib.hid GG.out.l
      clear GG
      go_wp2_with fail
      go_ret
      exact ⟨rfl, HM.out, HB.out⟩
set_option maxHeartbeats 2000000 in
theorem blocks1_any (w : World) (t : Ti) (at_ : Int) (b1 : Nat) (h1 : w.heap[b1]? = some (.cells #[.int .i64 at_] 3 (0, 0))) :
    Calls Try.prog 25 (#[tiW t] ++ #[.pointer (some ⟨b1, 0, none⟩)]) w fun e w' => e = .returned (.tuple #[.int .i64 t.fr, .bool (blkK t && t.to == at_)]) ∧ Below w.heap.size w w' := by
  show Calls Try.prog 25 #[tiW t, .pointer (some ⟨b1, 0, none⟩)] w _
  have hl1 := blk_lt h1
  have hal : Below w.heap.size w (w.alloc (.cells #[.int .i64 t.kind, .int .i64 t.fr, .int .i64 t.to, .int .i64 t.time] 49)) := (Below.refl _ _).alloc (Nat.le_refl _) _
  have hn := heap_new w (.cells #[.int .i64 t.kind, .int .i64 t.fr, .int .i64 t.to, .int .i64 t.time] 49)
  have hz : (w.alloc (.cells #[.int .i64 t.kind, .int .i64 t.fr, .int .i64 t.to, .int .i64 t.time] 49)).heap.size = w.heap.size + 1 := World.size_alloc _ _
  have hd : Below (w.heap.size + 1) (w.alloc (.cells #[.int .i64 t.kind, .int .i64 t.fr, .int .i64 t.to, .int .i64 t.time] 49)) (World.drew (w.alloc (.cells #[.int .i64 t.kind, .int .i64 t.fr, .int .i64 t.to, .int .i64 t.time] 49))) := below_draws (by have := Below.refl (w.heap.size + 1) (w.alloc (.cells #[.int .i64 t.kind, .int .i64 t.fr, .int .i64 t.to, .int .i64 t.time] 49)); exact this) 1
  generalize hW1 : (w.alloc (.cells #[.int .i64 t.kind, .int .i64 t.fr, .int .i64 t.to, .int .i64 t.time] 49)) = W1 at *
  have hb1 : W1.heap[b1]? = some (.cells #[.int .i64 at_] 3 (0, 0)) := (hal.block _ hl1).trans h1
  have f0 : ∀ x : WIn (Below (w.heap.size + 1) W1), x.w.cell? ⟨w.heap.size, 0, none⟩ = some (.int .i64 t.kind) := fun x => cell_blk ((x.h.block _ (by omega)).trans hn) rfl
  have f1 : ∀ x : WIn (Below (w.heap.size + 1) W1), x.w.cell? ⟨w.heap.size, 1, none⟩ = some (.int .i64 t.fr) := fun x => cell_blk ((x.h.block _ (by omega)).trans hn) rfl
  have f2 : ∀ x : WIn (Below (w.heap.size + 1) W1), x.w.cell? ⟨w.heap.size, 2, none⟩ = some (.int .i64 t.to) := fun x => cell_blk ((x.h.block _ (by omega)).trans hn) rfl
  have f3 : ∀ x : WIn (Below (w.heap.size + 1) W1), x.w.cell? ⟨w.heap.size, 3, none⟩ = some (.int .i64 t.time) := fun x => cell_blk ((x.h.block _ (by omega)).trans hn) rfl
  have f4 : ∀ x : WIn (Below (w.heap.size + 1) W1), x.w.cell? ⟨b1, 0, none⟩ = some (.int .i64 at_) := fun x => cell_blk ((x.h.block _ (by omega)).trans hb1) rfl
  have EN := class_call (CC := Below (w.heap.size + 1) W1) (fun _ _ h hb => h.trans (hb.mono (by have := h.size; omega))) (fun W _ => blocks_any W t)
  haveI : Nonempty (WIn (Below (w.heap.size + 1) W1)) := ⟨⟨_, hd⟩⟩
  have HAL := Lib.hid hal
  clear hn hb1 h1 hal
  subst hW1
  cases hk : blkK t with
  | false =>
    rw [hk] at EN
    go_enter Try.func25, Try.ntmps25
    go_wp2_with fail
    refine wp_region_class _ (by kernel_rfl) (by kernel_rfl) hd ?_
    repeat (go_big_quiet_step (exact EN _))
    refine wpQuiet_nil ?_
    rintro _ ⟨⟨wq, hwq⟩, rfl⟩
    go_wp2_with fail
    go_ret2
    exact ⟨rfl, HAL.out.trans (hwq.mono (by omega))⟩
  | true =>
    rw [hk] at EN
    go_enter Try.func25, Try.ntmps25
    go_wp2_with fail
    refine wp_region_class _ (by kernel_rfl) (by kernel_rfl) hd ?_
    repeat (go_big_quiet_step (exact EN _))
    refine wpQuiet_nil ?_
    rintro _ ⟨⟨wq, hwq⟩, rfl⟩
    go_wp2_with fail
    go_ret2
    exact ⟨rfl, HAL.out.trans (hwq.mono (by omega))⟩
set_option maxHeartbeats 2000000 in
theorem calls1_any (w : World) (t : Ti) (at_ : Int) (b1 : Nat) (h1 : w.heap[b1]? = some (.cells #[.int .i64 at_] 3 (0, 0))) :
    Calls Try.prog 28 (#[tiW t] ++ #[.pointer (some ⟨b1, 0, none⟩)]) w fun e w' => e = .returned (.tuple #[.int .i64 t.to, .bool (clK t && t.fr == at_)]) ∧ Below w.heap.size w w' := by
  show Calls Try.prog 28 #[tiW t, .pointer (some ⟨b1, 0, none⟩)] w _
  have hl1 := blk_lt h1
  have hal : Below w.heap.size w (w.alloc (.cells #[.int .i64 t.kind, .int .i64 t.fr, .int .i64 t.to, .int .i64 t.time] 49)) := (Below.refl _ _).alloc (Nat.le_refl _) _
  have hn := heap_new w (.cells #[.int .i64 t.kind, .int .i64 t.fr, .int .i64 t.to, .int .i64 t.time] 49)
  have hz : (w.alloc (.cells #[.int .i64 t.kind, .int .i64 t.fr, .int .i64 t.to, .int .i64 t.time] 49)).heap.size = w.heap.size + 1 := World.size_alloc _ _
  have hd : Below (w.heap.size + 1) (w.alloc (.cells #[.int .i64 t.kind, .int .i64 t.fr, .int .i64 t.to, .int .i64 t.time] 49)) (World.drew (w.alloc (.cells #[.int .i64 t.kind, .int .i64 t.fr, .int .i64 t.to, .int .i64 t.time] 49))) := below_draws (by have := Below.refl (w.heap.size + 1) (w.alloc (.cells #[.int .i64 t.kind, .int .i64 t.fr, .int .i64 t.to, .int .i64 t.time] 49)); exact this) 1
  generalize hW1 : (w.alloc (.cells #[.int .i64 t.kind, .int .i64 t.fr, .int .i64 t.to, .int .i64 t.time] 49)) = W1 at *
  have hb1 : W1.heap[b1]? = some (.cells #[.int .i64 at_] 3 (0, 0)) := (hal.block _ hl1).trans h1
  have f0 : ∀ x : WIn (Below (w.heap.size + 1) W1), x.w.cell? ⟨w.heap.size, 0, none⟩ = some (.int .i64 t.kind) := fun x => cell_blk ((x.h.block _ (by omega)).trans hn) rfl
  have f1 : ∀ x : WIn (Below (w.heap.size + 1) W1), x.w.cell? ⟨w.heap.size, 1, none⟩ = some (.int .i64 t.fr) := fun x => cell_blk ((x.h.block _ (by omega)).trans hn) rfl
  have f2 : ∀ x : WIn (Below (w.heap.size + 1) W1), x.w.cell? ⟨w.heap.size, 2, none⟩ = some (.int .i64 t.to) := fun x => cell_blk ((x.h.block _ (by omega)).trans hn) rfl
  have f3 : ∀ x : WIn (Below (w.heap.size + 1) W1), x.w.cell? ⟨w.heap.size, 3, none⟩ = some (.int .i64 t.time) := fun x => cell_blk ((x.h.block _ (by omega)).trans hn) rfl
  have f4 : ∀ x : WIn (Below (w.heap.size + 1) W1), x.w.cell? ⟨b1, 0, none⟩ = some (.int .i64 at_) := fun x => cell_blk ((x.h.block _ (by omega)).trans hb1) rfl
  have EN := class_call (CC := Below (w.heap.size + 1) W1) (fun _ _ h hb => h.trans (hb.mono (by have := h.size; omega))) (fun W _ => calls_any W t)
  haveI : Nonempty (WIn (Below (w.heap.size + 1) W1)) := ⟨⟨_, hd⟩⟩
  have HAL := Lib.hid hal
  clear hn hb1 h1 hal
  subst hW1
  cases hk : clK t with
  | false =>
    rw [hk] at EN
    go_enter Try.func28, Try.ntmps28
    go_wp2_with fail
    refine wp_region_class _ (by kernel_rfl) (by kernel_rfl) hd ?_
    repeat (go_big_quiet_step (exact EN _))
    refine wpQuiet_nil ?_
    rintro _ ⟨⟨wq, hwq⟩, rfl⟩
    go_wp2_with fail
    go_ret2
    exact ⟨rfl, HAL.out.trans (hwq.mono (by omega))⟩
  | true =>
    rw [hk] at EN
    go_enter Try.func28, Try.ntmps28
    go_wp2_with fail
    refine wp_region_class _ (by kernel_rfl) (by kernel_rfl) hd ?_
    repeat (go_big_quiet_step (exact EN _))
    refine wpQuiet_nil ?_
    rintro _ ⟨⟨wq, hwq⟩, rfl⟩
    go_wp2_with fail
    go_ret2
    exact ⟨rfl, HAL.out.trans (hwq.mono (by omega))⟩
set_option maxHeartbeats 2000000 in
theorem called2_any (w : World) (t : Ti) :
    Calls Try.prog 37 (#[tiW t] ++ #[]) w fun e w' => e = .returned (.tuple #[.int .i64 t.to, .bool (clK t)]) ∧ Below w.heap.size w w' := by
  show Calls Try.prog 37 #[tiW t] w _
  have hal : Below w.heap.size w (w.alloc (.cells #[.int .i64 t.kind, .int .i64 t.fr, .int .i64 t.to, .int .i64 t.time] 49)) := (Below.refl _ _).alloc (Nat.le_refl _) _
  have hn := heap_new w (.cells #[.int .i64 t.kind, .int .i64 t.fr, .int .i64 t.to, .int .i64 t.time] 49)
  have hz : (w.alloc (.cells #[.int .i64 t.kind, .int .i64 t.fr, .int .i64 t.to, .int .i64 t.time] 49)).heap.size = w.heap.size + 1 := World.size_alloc _ _
  have hd : Below (w.heap.size + 1) (w.alloc (.cells #[.int .i64 t.kind, .int .i64 t.fr, .int .i64 t.to, .int .i64 t.time] 49)) (World.drew (w.alloc (.cells #[.int .i64 t.kind, .int .i64 t.fr, .int .i64 t.to, .int .i64 t.time] 49))) := below_draws (by have := Below.refl (w.heap.size + 1) (w.alloc (.cells #[.int .i64 t.kind, .int .i64 t.fr, .int .i64 t.to, .int .i64 t.time] 49)); exact this) 1
  generalize hW1 : (w.alloc (.cells #[.int .i64 t.kind, .int .i64 t.fr, .int .i64 t.to, .int .i64 t.time] 49)) = W1 at *
  have f0 : ∀ x : WIn (Below (w.heap.size + 1) W1), x.w.cell? ⟨w.heap.size, 0, none⟩ = some (.int .i64 t.kind) := fun x => cell_blk ((x.h.block _ (by omega)).trans hn) rfl
  have f1 : ∀ x : WIn (Below (w.heap.size + 1) W1), x.w.cell? ⟨w.heap.size, 1, none⟩ = some (.int .i64 t.fr) := fun x => cell_blk ((x.h.block _ (by omega)).trans hn) rfl
  have f2 : ∀ x : WIn (Below (w.heap.size + 1) W1), x.w.cell? ⟨w.heap.size, 2, none⟩ = some (.int .i64 t.to) := fun x => cell_blk ((x.h.block _ (by omega)).trans hn) rfl
  have f3 : ∀ x : WIn (Below (w.heap.size + 1) W1), x.w.cell? ⟨w.heap.size, 3, none⟩ = some (.int .i64 t.time) := fun x => cell_blk ((x.h.block _ (by omega)).trans hn) rfl
  have EN := class_call (CC := Below (w.heap.size + 1) W1) (fun _ _ h hb => h.trans (hb.mono (by have := h.size; omega))) (fun W _ => calls_any W t)
  haveI : Nonempty (WIn (Below (w.heap.size + 1) W1)) := ⟨⟨_, hd⟩⟩
  have HAL := Lib.hid hal
  clear hn hal
  subst hW1
  go_enter Try.func37, Try.ntmps37
  go_wp2_with fail
  refine wp_region_class _ (by kernel_rfl) (by kernel_rfl) hd ?_
  repeat (go_big_quiet_step (exact EN _))
  refine wpQuiet_nil ?_
  rintro _ ⟨⟨wq, hwq⟩, rfl⟩
  go_wp2_with fail
  go_ret2
  exact ⟨rfl, HAL.out.trans (hwq.mono (by omega))⟩
set_option maxHeartbeats 2000000 in
theorem excl2_any (w : World) (t : Ti) : Calls Try.prog 41 (#[tiW t] ++ #[]) w fun e w' => e = .returned (.tuple #[.int .i64 t.to, .bool (t.kind == 4)]) ∧ Below w.heap.size w w' := by
  show Calls Try.prog 41 #[tiW t] w _
  have hal : Below w.heap.size w (w.alloc (.cells #[.int .i64 t.kind, .int .i64 t.fr, .int .i64 t.to, .int .i64 t.time] 49)) := (Below.refl _ _).alloc (Nat.le_refl _) _
  go_enter Try.func41, Try.ntmps41
  go_wp2_with fail
  go_quiet (fail)
  go_wp2_with fail
  go_ret2
  exact ⟨rfl, below_draws hal _⟩
set_option maxHeartbeats 1000000 in
theorem called1_any (w : World) (v : Ev) : Calls Try.prog 36 (#[evW v] ++ #[]) w fun e w' => e = .returned (.bool (decide (0 ≤ v.due))) ∧ Below w.heap.size w w' := by
  show Calls Try.prog 36 #[evW v] w _
  have hal : Below w.heap.size w (w.alloc (.cells #[.string v.name, .string v.group, .string v.role, .bool v.inn, .bool v.done, .int .i64 v.due] 47)) := (Below.refl _ _).alloc (Nat.le_refl _) _
  go_enter Try.func36, Try.ntmps36
  go_wp2_with fail
  go_ret
  exact ⟨rfl, hal⟩
set_option maxHeartbeats 1000000 in
theorem excl1_any (w : World) (v : Ev) : Calls Try.prog 40 (#[evW v] ++ #[]) w fun e w' => e = .returned (.bool (!v.inn)) ∧ Below w.heap.size w w' := by
  show Calls Try.prog 40 #[evW v] w _
  have hal : Below w.heap.size w (w.alloc (.cells #[.string v.name, .string v.group, .string v.role, .bool v.inn, .bool v.done, .int .i64 v.due] 47)) := (Below.refl _ _).alloc (Nat.le_refl _) _
  go_enter Try.func40, Try.ntmps40
  go_wp2_with fail
  go_ret
  exact ⟨rfl, hal⟩
end Go.Proofs.Ytigicbnkfmbolaa.N7

namespace Go.Proofs.Ytigicbnkfmbolaa.F4
open Go.RowKit Go.Shelf Go.Proofs.Ytigicbnkfmbolaa.B
theorem info_ti' : (Try.prog.info? 49).map (fun i => (i.zero, i.size, i.bytes)) = some (some (.agg #[.int .i64 0, .int .i64 0, .int .i64 0, .int .i64 0]), 4, 32) := by kernel_rfl
set_option maxRecDepth 100000 in
set_option maxHeartbeats 2000000 in
theorem chosen_any (w : World) (EA A : Option Addr) (en ec c : Nat) (l : List Ti) (p : Ti → Bool) (fl : Nat) (lb : Array Value) (hr : Row w A (l.flatMap tiC)) (hl : l.length * 32 ≤ 140737488351232) (eg : ∀ args w, (callFunc fl args).run Try.prog w = .ok (.enter fl args) w)
    (hcall : ∀ (W : World) (t : Ti), Below w.heap.size w W → Calls Try.prog fl (#[.agg #[.int .i64 t.kind, .int .i64 t.fr, .int .i64 t.to, .int .i64 t.time]] ++ lb) W fun e W' => e = .returned (.bool (p t)) ∧ Below W.heap.size W W') :
    Calls Try.prog 53 #[.agg #[.slice EA en ec, .slice A l.length c], .func (.func fl) #[] lb] w fun e w' => ∃ v, e = .returned v ∧ w'.ownsRow w.heap.size 49 4 v (l.filter p).length ((l.filter p).flatMap tiC) ∧ Below w.heap.size w w' := by
  obtain ⟨i0, hi0, hi1, hi2, hi3⟩ := info_parts info_ti'
  have HC := Lib.hid hcall
  have HR := Lib.hid hr
  clear hcall hr
  go_enter Try.func53, Try.ntmps53
  go_wp2_with fail
  go_loopw [5, 11] (fun v i wr => ∃ k : Nat, k ≤ l.length ∧ i = .int .i64 k ∧ Hid (wr.ownsRow w.heap.size 49 4 v (selL p l k).length ((selL p l k).flatMap tiC)) ∧ Hid (Below w.heap.size w wr)) (fun _ i _ => l.length - (intOf i).toNat)
  case atStart => exact ⟨0, Nat.zero_le _, rfl, Lib.hid (World.ownsRow_nil _ _ _ _), Lib.hid ((Below.refl _ _).alloc (Nat.le_refl _) _)⟩
  case round =>
    obtain ⟨k, hk, rfl, HV, HB⟩ := hrel
    have hB := HB.out.size
    by_cases hlt : k < l.length
    · obtain ⟨b, off, rfl, hb, hc⟩ := HR.out.at_ (k := 4) (fun _ => rfl) (by omega) hlt
      have k0 := hc 0 _ rfl
      have k1 := hc 1 _ rfl
      have k2 := hc 2 _ rfl
      have k3 := hc 3 _ rfl
      rw [Nat.add_zero] at k0
      rw [← HB.out.cell (p := ⟨b, _, none⟩) hb] at k0 k1 k2 k3
      have hk0 : (0 : Int) ≤ (k : Int) := Int.natCast_nonneg _
      have hk1 : (k : Int) < (l.length : Int) := by omega
      have hs := sel_len p l k
      obtain ⟨va, vc, rfl⟩ := own_slice HV.out
      have HY := fun h => Lib.hid (sel_yes (p := p) hlt h)
      have HN := fun h => Lib.hid (sel_no (p := p) hlt h)
      clear hc
      generalize l[k]! = t at *
      have hBA : Below w.heap.size w (wr.alloc (.cells #[.int .i64 t.kind, .int .i64 t.fr, .int .i64 t.to, .int .i64 t.time] 49)) := HB.out.alloc hB _
      have C := Lib.hid (HC.out _ t hBA)
      have hn := heap_new wr (.cells #[.int .i64 t.kind, .int .i64 t.fr, .int .i64 t.to, .int .i64 t.time] 49)
      go_wp2_with fail
      refine C.out.mono ?_
      rintro e w3 ⟨rfl, hb3⟩
      have hz3 := hb3.size
      rw [World.size_alloc] at hz3
      have hn3 := (hb3.block wr.heap.size (by rw [World.size_alloc]; omega)).trans hn
      have y0 : w3.cell? ⟨wr.heap.size, 0, none⟩ = some (.int .i64 t.kind) := cell_blk hn3 rfl
      have y1 : w3.cell? ⟨wr.heap.size, 1, none⟩ = some (.int .i64 t.fr) := cell_blk hn3 rfl
      have y2 : w3.cell? ⟨wr.heap.size, 2, none⟩ = some (.int .i64 t.to) := cell_blk hn3 rfl
      have y3 : w3.cell? ⟨wr.heap.size, 3, none⟩ = some (.int .i64 t.time) := cell_blk hn3 rfl
      have HB3 := Lib.hid (hBA.trans (hb3.mono (by rw [World.size_alloc]; omega)))
      have HV3 := Lib.hid (own_below (own_below HV.out ((Below.refl _ wr).alloc (Nat.le_refl _) (.cells #[.int .i64 t.kind, .int .i64 t.fr, .int .i64 t.to, .int .i64 t.time] 49))) hb3)
      clear C hn hn3 hb3 hBA k0 k1 k2 k3
      cases hp : p t with
      | false =>
        have e1 := (HN hp).out
        go_wp2_with fail
        go_roundw
        case rel => exact ⟨k + 1, hlt, by go_num, by rw [e1]; exact HV3, HB3⟩
        case measure => simp [intOf]; omega
      | true =>
        have e1 := (HY hp).out
        go_wp2_with (at_builtin; refine wpList_append_own _ rfl (.tmp 18) (.tmp 20) 23 rfl w.heap.size 49 i0 _ 4 32 Try.underlying23 hi0 hi1 hi2 hi3 rfl (by omega) _ _ _ rfl (HV3.out.alloc _) ⟨w3.heap.size, 0, none⟩ 1 1 (tiC t) rfl rfl ?c1 ?c2 ?c3 ?c4 ?c5 ?_)
        case c1 =>
          intro j u hj
          have hn := heap_new w3 (.cells #[.int .i64 t.kind, .int .i64 t.fr, .int .i64 t.to, .int .i64 t.time] 49)
          match j, hj with
          | 0, hj => cases hj; exact cell_blk hn rfl
          | 1, hj => cases hj; exact cell_blk hn rfl
          | 2, hj => cases hj; exact cell_blk hn rfl
          | 3, hj => cases hj; exact cell_blk hn rfl
        case c2 => intro u hu; simp [tiC] at hu; rcases hu with rfl | rfl | rfl | rfl <;> rfl
        case c3 => unfold maxLen; omega
        case c4 => omega
        case c5 => rw [World.size_alloc]; omega
        intro v' w4 hown' hgrow _
        have HB4 : Hid (Below w.heap.size w w4) := Lib.hid ((HB3.out.alloc (by omega) _).grown hgrow (by rw [World.size_alloc]; omega) (fun j hj => (HV3.out.lt j hj).1))
        have HV4 : Hid (w4.ownsRow w.heap.size 49 4 v' (selL p l (k + 1)).length ((selL p l (k + 1)).flatMap tiC)) := Lib.hid (by
          rw [e1, List.length_append, List.flatMap_append]
          have e8 : (List.flatMap tiC [t]) = tiC t := by simp
          rw [e8]; exact hown')
        clear hown' hgrow e1
        go_wp2_with fail
        go_roundw
        case rel => exact ⟨k + 1, hlt, by go_num, HV4, HB4⟩
        case measure => simp [intOf]; omega
    · obtain rfl : k = l.length := by omega
      have e : selL p l l.length = l.filter p := by rw [selL, List.take_length]
      rw [e] at HV
      go_wp2_with fail
      go_ret
      exact ⟨_, rfl, HV.out, HB.out⟩
/-- The ties of a kind that lead to an event; that come from one. -/
def intoB (kind to_ : Int) (t : Ti) : Bool := t.kind == kind && t.to == to_
set_option maxHeartbeats 1000000 in
theorem into1_any (t : Ti) (kind to_ : Int) (b1 b2 : Nat) (w : World) (h1 : w.heap[b1]? = some (.cells #[.int .i64 kind] 3 (0, 0))) (h2 : w.heap[b2]? = some (.cells #[.int .i64 to_] 3 (0, 0))) :
    Calls Try.prog 54 (#[.agg #[.int .i64 t.kind, .int .i64 t.fr, .int .i64 t.to, .int .i64 t.time]] ++ #[.pointer (some ⟨b1, 0, none⟩), .pointer (some ⟨b2, 0, none⟩)]) w fun e w' => e = .returned (.bool (intoB kind to_ t)) ∧ Below w.heap.size w w' := by
  have c1 : w.cell? ⟨b1, 0, none⟩ = some (.int .i64 kind) := by unfold World.cell?; simp only; rw [h1]; rfl
  have c2 : w.cell? ⟨b2, 0, none⟩ = some (.int .i64 to_) := by unfold World.cell?; simp only; rw [h2]; rfl
  have l1 : b1 < w.heap.size := (Array.getElem?_eq_some_iff.1 h1).1
  have l2 : b2 < w.heap.size := (Array.getElem?_eq_some_iff.1 h2).1
  clear h1 h2
  show Calls Try.prog 54 #[.agg #[.int .i64 t.kind, .int .i64 t.fr, .int .i64 t.to, .int .i64 t.time], .pointer (some ⟨b1, 0, none⟩), .pointer (some ⟨b2, 0, none⟩)] w _
  unfold intoB
  have hb : Below w.heap.size w (w.alloc (.cells #[.int .i64 t.kind, .int .i64 t.fr, .int .i64 t.to, .int .i64 t.time] 49)) := (Below.refl _ _).alloc (Nat.le_refl _) _
  cases hk : (t.kind == kind)
  · go_enter Try.func54, Try.ntmps54
    go_wp2
    go_ret
    exact ⟨rfl, hb⟩
  · cases ht : (t.to == to_)
    · go_enter Try.func54, Try.ntmps54
      go_wp2
      go_ret
      exact ⟨rfl, hb⟩
    · go_enter Try.func54, Try.ntmps54
      go_wp2
      go_ret
      exact ⟨rfl, hb⟩
set_option maxHeartbeats 1000000 in
theorem into_any (w : World) (EA A : Option Addr) (en ec c : Nat) (l : List Ti) (kind at_ : Int) (hr : Row w A (l.flatMap tiC)) (hl : l.length * 32 ≤ 140737488351232) :
    Calls Try.prog 42 #[.agg #[.slice EA en ec, .slice A l.length c], .int .i64 kind, .int .i64 at_] w fun e w' => ∃ v, e = .returned v ∧ w'.ownsRow w.heap.size 49 4 v (l.filter (intoB kind at_)).length ((l.filter (intoB kind at_)).flatMap tiC) ∧ Below w.heap.size w w' := by
  obtain ⟨W1, hW1⟩ : ∃ W1, W1 = w.alloc (.cells #[.slice EA en ec, .slice A l.length c] 25) := ⟨_, rfl⟩
  obtain ⟨W2, hW2⟩ : ∃ W2, W2 = W1.alloc (.cells #[.int .i64 kind] 3) := ⟨_, rfl⟩
  obtain ⟨W3, hW3⟩ : ∃ W3, W3 = W2.alloc (.cells #[.int .i64 at_] 3) := ⟨_, rfl⟩
  have s1 : W1.heap.size = w.heap.size + 1 := by rw [hW1, World.size_alloc]
  have s2 : W2.heap.size = w.heap.size + 1 + 1 := by rw [hW2, World.size_alloc, s1]
  have s3 : W3.heap.size = w.heap.size + 1 + 1 + 1 := by rw [hW3, World.size_alloc, s2]
  have hb : Below w.heap.size w W3 := by rw [hW3, hW2, hW1]; exact (((Below.refl _ w).alloc (Nat.le_refl _) _).alloc (by rw [World.size_alloc]; omega) _).alloc (by rw [World.size_alloc, World.size_alloc]; omega) _
  have n1 : W3.heap[w.heap.size + 1]? = some (.cells #[.int .i64 kind] 3 (0, 0)) := by
    rw [hW3]; refine (Below.heap_alloc _ _ _ (by omega)).trans ?_
    rw [hW2, ← s1]; exact heap_new _ _
  have n2 : W3.heap[w.heap.size + 1 + 1]? = some (.cells #[.int .i64 at_] 3 (0, 0)) := by rw [hW3, ← s2]; exact heap_new _ _
  have C := Lib.hid (chosen_any W3 EA A en ec c l (intoB kind at_) 54 #[.pointer (some ⟨w.heap.size + 1, 0, none⟩), .pointer (some ⟨w.heap.size + 1 + 1, 0, none⟩)] (hr.below (Nat.le_refl _) hb) hl (enters_of Try.func54 (by kernel_rfl) rfl)
    (fun W t hW => into1_any t kind at_ _ _ W ((hW.block _ (by omega)).trans n1) ((hW.block _ (by omega)).trans n2)))
  have HB := Lib.hid hb
  clear hr n1 n2 hb
  subst hW3 hW2 hW1
  go_enter Try.func42, Try.ntmps42
  go_wp2_with fail
  refine C.out.mono ?_
  rintro e w4 ⟨v, rfl, ho, hb⟩
  have HR := Lib.hid (HB.out.trans (hb.mono HB.out.size))
  have HO := Lib.hid (own_base ho HB.out.size)
  clear ho hb C
  go_wp2
  go_ret
  exact ⟨_, rfl, HO.out, HR.out⟩
end Go.Proofs.Ytigicbnkfmbolaa.F4
