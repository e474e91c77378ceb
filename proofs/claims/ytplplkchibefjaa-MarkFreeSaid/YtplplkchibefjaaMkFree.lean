/-
  MarkFree answers true, whatever graph and whatever steps it is given.
-/
import Derived.Test.YtplplkchibefjaaMkV
import Derived.Test.YtplplkchibefjaaRgc
namespace Go.Proofs.Ytplplkchibefjaa.M5.Free
open Go.RowKit Go.Shelf Go.Deep Go.Joins Go.ChangeShapes Go.WideShapes Go.Proofs.Ytplplkchibefjaa.B Go.Proofs.Ytplplkchibefjaa.M5

/-- Is a tie a condition, or a milestone, that leads to an event? -/
def bindB (k : Nat) (t : Ti) : Bool := decide (t.to = (k : Int)) && (decide (t.kind = 1) || decide (t.kind = 5))
theorem stops_bind {l : List Mk} {k : Nat} {t : Ti} (h : bindB k t = false) : stopsB l k t = false := by
  unfold stopsB holdsB
  by_cases h1 : t.to = (k : Int)
  · unfold bindB at h
    rw [decide_eq_true h1, Bool.true_and, Bool.or_eq_false_iff, decide_eq_false_iff_not, decide_eq_false_iff_not] at h
    rw [if_neg h.1, if_neg h.2, Bool.and_false, Bool.and_false]
  · rw [beq_eq_false_iff_ne.2 h1, Bool.false_and]
theorem free_en {ts : List Ti} {l : List Mk} {k : Nat} (h : ts.any (bindB k) = false) : enB ts l k = l[k]!.inn := by
  have : ts.any (stopsB l k) = false := by
    rw [List.any_eq_false] at h ⊢
    intro t ht
    rw [stops_bind (by simpa using h t ht)]; decide
  unfold enB; rw [this]; simp
theorem en_inn {ts : List Ti} {l : List Mk} {k : Nat} (h : enB ts l k = true) : l[k]!.inn = true := by
  unfold enB at h; rw [Bool.and_eq_true] at h; exact h.1
theorem any_next {p : Ti → Bool} {ts : List Ti} {j : Nat} (hj : j < ts.length) : (ts.take (j + 1)).any p = ((ts.take j).any p || p ts[j]!) := by
  rw [take_next hj, List.any_append]; simp
structure FI (w : World) (fl : Array Value) (va : Option Addr) (n vc : Nat) (L : List Mk) (W : World) : Prop where
  l : LF w fl W
  o : W.ownsRow w.heap.size 77 3 (.slice va n vc) n (L.flatMap mkC)
theorem FI.call {w W W' : World} {fl : Array Value} {va : Option Addr} {n vc : Nat} {L : List Mk} (h : FI w fl va n vc L W) (hb : Below W.heap.size W W') : FI w fl va n vc L W' := ⟨h.l.call hb, own_below h.o hb⟩
theorem FI.alloc {w W : World} {fl : Array Value} {va : Option Addr} {n vc : Nat} {L : List Mk} (h : FI w fl va n vc L W) (o : Obj) : FI w fl va n vc L (W.alloc o) := ⟨h.l.alloc o, h.o.alloc o⟩
theorem FI.drew {w W : World} {fl : Array Value} {va : Option Addr} {n vc : Nat} {L : List Mk} (h : FI w fl va n vc L W) : FI w fl va n vc L W.drew := ⟨h.l.drew, h.o.drew⟩
theorem FI.en {w W : World} {EA TA va : Option Addr} {ec tc n vc : Nat} {L : List Mk} {ts : List Ti} (h : FI w #[.slice EA n ec, .slice TA ts.length tc] va n vc L W) (ht : Row w TA (ts.flatMap tiC)) (htl : ts.length ≤ 300) (hn : n ≤ 40) (hL : L.length = n) (i : Int) {b : Bool} (hv : enabledB n ts L i = b) :
    Calls Try.prog 31 #[.agg #[.slice EA n ec, .slice TA ts.length tc], .slice va n vc, .int .i64 i] W fun e w' => e = .returned (.bool b) ∧ Below W.heap.size W w' := by
  have := enabled_any W EA TA va n ec tc vc ts L i (ht.below (Nat.le_refl _) h.l.b) (by omega) (Row.of_own h.o) (by omega)
  rw [hL, hv] at this; exact this
theorem fi_all {w W : World} {EA TA : Option Addr} {ec tn tc n vc g m : Nat} {L : List Mk} {ii : Bool} (hL : L.length = n) (hm : m < n) (hin : L[m]!.inn = ii) (h : FI w #[.slice EA n ec, .slice TA tn tc] (some ⟨g, 0, none⟩) n vc L W) :
    FI w #[.slice EA n ec, .slice TA tn tc] (some ⟨g, 0, none⟩) n vc L W ∧ W.cell? ⟨w.heap.size, 0, none⟩ = some (.slice EA n ec) ∧ W.cell? ⟨w.heap.size, 1, none⟩ = some (.slice TA tn tc) ∧ W.cell? ⟨g, m * 3, none⟩ = some (.bool ii) :=
  ⟨h, h.l.cells.1, h.l.cells.2, by rw [← hin]; exact (own_mk h.o hL hm).1⟩
theorem head_some {W : World} {B e z n c : Nat} {A : Option Addr} {xs : List Value} (h : W.ownsRow B e z (.slice A n c) n xs) (h0 : 0 < n) : ∃ g, A = some ⟨g, 0, none⟩ ∧ g < W.heap.size := by
  obtain ⟨g, cap, hv, _, hl⟩ := own_head h h0
  injection hv with h1 _ _
  exact ⟨g, h1, hl⟩
set_option maxRecDepth 100000 in
set_option maxHeartbeats 4000000 in
theorem walk (w : World) (EA TA A : Option Addr) (ec tc c : Nat) (es : List Ev) (ts : List Ti) (bs : List UInt8) (he : Row w EA (es.flatMap evC)) (ht : Row w TA (ts.flatMap tiC)) (hr : Row w A (bs.flatMap u8C)) (hbl : bs.length ≤ 140737488351232) :
    Calls Try.prog 12 #[.agg #[.slice EA es.length ec, .slice TA ts.length tc], .slice A bs.length c] w fun e w' => e = .returned (.bool true) ∧ Below w.heap.size w w' := by
  have L0 := Lib.hid (LF.start w #[.slice EA es.length ec, .slice TA ts.length tc])
  have AWK := Lib.hid (awake_any (w.alloc (.cells #[.slice EA es.length ec, .slice TA ts.length tc] 32)))
  have HE := Lib.hid he
  have HT := Lib.hid ht
  have HR := Lib.hid hr
  clear he ht hr
  go_enter Try.func12, Try.ntmps12
  go_wp2_with fail
  refine AWK.out.mono ?_
  rintro e w1 ⟨rfl, hb⟩
  have L1 := Lib.hid (L0.out.call hb)
  clear hb AWK L0
  obtain ⟨c0, c1⟩ := L1.out.cells
  have ll := L1.out.lt
  go_wp2_with fail
  refine (large_any EA TA es.length ec ts.length tc w1).mono ?_
  rintro e w2 ⟨rfl, hb⟩
  have L2 := Lib.hid (L1.out.call hb)
  clear hb L1 c0 c1 ll
  obtain ⟨c0, c1⟩ := L2.out.cells
  have ll := L2.out.lt
  cases hlg : largeB es.length ts.length with
  | true =>
    go_wp2_with fail
    go_ret
    exact ⟨rfl, L2.out.b⟩
  | false =>
    obtain ⟨hel, htl⟩ := large_no hlg
    clear hlg
    have R := Lib.hid (run_any w2 EA TA A ec tc c es ts bs (HE.out.below (Nat.le_refl _) L2.out.b) (HT.out.below (Nat.le_refl _) L2.out.b) (HR.out.below (Nat.le_refl _) L2.out.b) hel htl hbl)
    have HFit := Lib.hid (fits_run ts es bs)
    have HLn := Lib.hid (runL_len ts es bs)
    generalize runL ts es bs = L at *
    go_wp2_with fail
    refine R.out.mono ?_
    rintro e w3 ⟨v3, rfl, ho, hb⟩
    obtain ⟨va, vc, rfl⟩ := own_slice ho
    have I3 := Lib.hid (⟨L2.out.call hb, own_base ho (Nat.le_of_lt ll)⟩ : FI w #[.slice EA es.length ec, .slice TA ts.length tc] va es.length vc L w3)
    clear hb ho R L2 c0 c1 ll
    go_wp2_with fail
    go_loopw [19] (fun i wr => ∃ m : Nat, m ≤ es.length ∧ i = .int .i64 m ∧ Hid (FI w #[.slice EA es.length ec, .slice TA ts.length tc] va es.length vc L wr)) (fun i _ => es.length - (intOf i).toNat)
    case atStart => exact ⟨0, Nat.zero_le _, rfl, I3⟩
    case round =>
      clear I3
      obtain ⟨m, hm, rfl, HI⟩ := hrel
      by_cases hlt : m < es.length
      · have hm0 : (0 : Int) ≤ (m : Int) := Int.natCast_nonneg _
        have hm1 : (m : Int) < (es.length : Int) := by omega
        obtain ⟨c0, c1⟩ := HI.out.l.cells
        have ll := HI.out.l.lt
        go_wp2_with fail
        clear c0 c1 ll
        obtain ⟨wo, rfl⟩ : ∃ wo : World, wo = wr := ⟨_, rfl⟩
        go_loopw [7, 25] (fun v i wx => ∃ j : Nat, j ≤ ts.length ∧ i = .int .i64 j ∧ v = .bool ((ts.take j).any (bindB m)) ∧ Hid (FI w #[.slice EA es.length ec, .slice TA ts.length tc] va es.length vc L wx)) (fun _ i _ => ts.length - (intOf i).toNat)
        case atStart => exact ⟨0, Nat.zero_le _, rfl, rfl, HI⟩
        case round =>
          clear HI
          obtain ⟨j, hj, rfl, rfl, HI⟩ := hrel
          by_cases hlt2 : j < ts.length
          · obtain ⟨b, off, rfl, hb, hc⟩ := HT.out.at_ (k := 4) (fun _ => rfl) (by omega) hlt2
            have k0 := hc 0 _ rfl
            have k1 := hc 1 _ rfl
            have k2 := hc 2 _ rfl
            have k3 := hc 3 _ rfl
            rw [Nat.add_zero] at k0
            rw [← HI.out.l.b.cell (p := ⟨b, _, none⟩) hb] at k0 k1 k2 k3
            have hz := HI.out.l.lt
            have hbz : b < wr.heap.size := by omega
            have HN := Lib.hid (any_next (p := bindB m) hlt2)
            have HB : Hid (bindB m ts[j]! = (decide (ts[j]!.to = (m : Int)) && (decide (ts[j]!.kind = 1) || decide (ts[j]!.kind = 5)))) := Lib.hid rfl
            generalize (ts.take j).any (bindB m) = bd at *
            generalize ts[j]! = x at *
            have HIx := Lib.hid (HI.out.alloc (.cells #[.int .i64 x.kind, .int .i64 x.fr, .int .i64 x.to, .int .i64 x.time] 49))
            clear hc
            cases bd with
            | true =>
              go_wp2_with fail
              go_roundw
              case rel => exact ⟨j + 1, hlt2, by go_num, by rw [HN.out]; rfl, HIx⟩
              case measure => simp [intOf]; omega
            | false =>
              have fin : ∀ q : Bool, bindB m x = q → Value.bool q = Value.bool ((ts.take (j + 1)).any (bindB m)) := fun q hq => by rw [HN.out, hq]; rfl
              have HFin := Lib.hid fin
              clear fin
              by_cases h1 : x.to = (m : Int)
              · have t1 : (x.to == (m : Int)) = true := beq_iff_eq.2 h1
                by_cases h2 : x.kind = 1
                · have t2 : (x.kind == 1) = true := beq_iff_eq.2 h2
                  have e := HFin.out true (by rw [HB.out, decide_eq_true h1, decide_eq_true h2]; rfl)
                  have E := Lib.hid e
                  clear h1 h2 e HFin HB
                  go_wp2_with fail
                  go_roundw
                  case rel => exact ⟨j + 1, hlt2, by go_num, E.out, HIx⟩
                  case measure => simp [intOf]; omega
                · have t2 : (x.kind == 1) = false := beq_eq_false_iff_ne.2 h2
                  by_cases h3 : x.kind = 5
                  · have t3 : (x.kind == 5) = true := beq_iff_eq.2 h3
                    have e := HFin.out true (by rw [HB.out, decide_eq_true h1, decide_eq_true h3, Bool.or_true]; rfl)
                    have E := Lib.hid e
                    clear h1 h2 h3 e HFin HB
                    go_wp2_with fail
                    go_roundw
                    case rel => exact ⟨j + 1, hlt2, by go_num, E.out, HIx⟩
                    case measure => simp [intOf]; omega
                  · have t3 : (x.kind == 5) = false := beq_eq_false_iff_ne.2 h3
                    have e := HFin.out false (by rw [HB.out, decide_eq_true h1, decide_eq_false h2, decide_eq_false h3]; rfl)
                    have E := Lib.hid e
                    clear h1 h2 h3 e HFin HB
                    go_wp2_with fail
                    go_roundw
                    case rel => exact ⟨j + 1, hlt2, by go_num, E.out, HIx⟩
                    case measure => simp [intOf]; omega
              · have t1 : (x.to == (m : Int)) = false := beq_eq_false_iff_ne.2 h1
                have e := HFin.out false (by rw [HB.out, decide_eq_false h1]; rfl)
                have E := Lib.hid e
                clear h1 e HFin HB
                go_wp2_with fail
                go_roundw
                case rel => exact ⟨j + 1, hlt2, by go_num, E.out, HIx⟩
                case measure => simp [intOf]; omega
          · obtain rfl : j = ts.length := by omega
            have ebd : (ts.take ts.length).any (bindB m) = ts.any (bindB m) := by rw [List.take_length]
            have hen : enabledB es.length ts L (m : Int) = enB ts L m := by
              unfold enabledB; rw [HFit.out, HLn.out, has_nat hlt]; rfl
            have hinn := en_inn (ts := ts) (l := L) (k := m)
            have hfree := free_en (ts := ts) (l := L) (k := m)
            rw [ebd]
            clear ebd
            have hgl := head_some HI.out.o (by omega)
            obtain ⟨g, rfl, hgz⟩ := hgl
            cases hb : ts.any (bindB m) with
            | true =>
              cases he : enB ts L m with
              | true =>
                have hin : L[m]!.inn = true := hinn he
                rw [he] at hen
                clear hinn hfree he hb
                have hd := HI.out.drew
                obtain ⟨c0, c1⟩ := HI.out.l.cells
                have ll := HI.out.l.lt
                have a0 := (own_mk HI.out.o HLn.out hlt).1
                rw [hin] at a0
                go_wp2_with fail
                go_cut [74] (fun s wc => s = .bool false ∧ Hid (FI w #[.slice EA es.length ec, .slice TA ts.length tc] (some ⟨g, 0, none⟩) es.length vc L wc))
                case first =>
                  refine wp_region_class (FI w #[.slice EA es.length ec, .slice TA ts.length tc] (some ⟨g, 0, none⟩) es.length vc L) (by kernel_rfl) (by kernel_rfl) HI.out.drew ?_
                  have f0 := fun x : WIn (FI w #[.slice EA es.length ec, .slice TA ts.length tc] (some ⟨g, 0, none⟩) es.length vc L) => x.h.l.cells.1
                  have f1 := fun x : WIn (FI w #[.slice EA es.length ec, .slice TA ts.length tc] (some ⟨g, 0, none⟩) es.length vc L) => x.h.l.cells.2
                  have f2 := fun x : WIn (FI w #[.slice EA es.length ec, .slice TA ts.length tc] (some ⟨g, 0, none⟩) es.length vc L) => (fi_all (ii := true) HLn.out hlt hin x.h).2.2.2
                  have EN := class_call (CC := FI w #[.slice EA es.length ec, .slice TA ts.length tc] (some ⟨g, 0, none⟩) es.length vc L) (fun _ _ h hb => h.call hb) (fun W h => FI.en h HT.out htl hel HLn.out _ hen)
                  haveI : Nonempty (WIn (FI w #[.slice EA es.length ec, .slice TA ts.length tc] (some ⟨g, 0, none⟩) es.length vc L)) := ⟨⟨_, HI.out.drew⟩⟩
                  repeat (go_big_quiet_step (exact EN _))
                  refine wpQuiet_nil ?_
                  rintro _ ⟨⟨wq, hwq⟩, rfl⟩
                  go_wp2_with fail
                  go_meet
                  exact ⟨rfl, Lib.hid hwq⟩
                case rest =>
                  obtain ⟨rfl, HIc⟩ := hcut
                  go_wp2_with fail
                  go_roundw
                  case rel => exact ⟨m + 1, hlt, by go_num, HIc⟩
                  case measure => simp [intOf]; omega
              | false =>
                obtain ⟨ii, hin⟩ : ∃ ii, L[m]!.inn = ii := ⟨_, rfl⟩
                rw [he] at hen
                clear hinn hfree he hb
                have hd := HI.out.drew
                obtain ⟨c0, c1⟩ := HI.out.l.cells
                have ll := HI.out.l.lt
                have a0 := (own_mk HI.out.o HLn.out hlt).1
                rw [hin] at a0
                go_wp2_with fail
                go_cut [74] (fun s wc => s = .bool false ∧ Hid (FI w #[.slice EA es.length ec, .slice TA ts.length tc] (some ⟨g, 0, none⟩) es.length vc L wc))
                case first =>
                                    refine wp_region_class (FI w #[.slice EA es.length ec, .slice TA ts.length tc] (some ⟨g, 0, none⟩) es.length vc L) (by kernel_rfl) (by kernel_rfl) HI.out.drew ?_
                                    have f0 := fun x : WIn (FI w #[.slice EA es.length ec, .slice TA ts.length tc] (some ⟨g, 0, none⟩) es.length vc L) => x.h.l.cells.1
                                    have f1 := fun x : WIn (FI w #[.slice EA es.length ec, .slice TA ts.length tc] (some ⟨g, 0, none⟩) es.length vc L) => x.h.l.cells.2
                                    have f2 := fun x : WIn (FI w #[.slice EA es.length ec, .slice TA ts.length tc] (some ⟨g, 0, none⟩) es.length vc L) => (fi_all (ii := ii) HLn.out hlt hin x.h).2.2.2
                                    have EN := class_call (CC := FI w #[.slice EA es.length ec, .slice TA ts.length tc] (some ⟨g, 0, none⟩) es.length vc L) (fun _ _ h hb => h.call hb) (fun W h => FI.en h HT.out htl hel HLn.out _ hen)
                                    haveI : Nonempty (WIn (FI w #[.slice EA es.length ec, .slice TA ts.length tc] (some ⟨g, 0, none⟩) es.length vc L)) := ⟨⟨_, HI.out.drew⟩⟩
                                    repeat (go_big_quiet_step (exact EN _))
                                    refine wpQuiet_nil ?_
                                    rintro _ ⟨⟨wq, hwq⟩, rfl⟩
                                    go_wp2_with fail
                                    go_meet
                                    exact ⟨rfl, Lib.hid hwq⟩
                case rest =>
                  obtain ⟨rfl, HIc⟩ := hcut
                  go_wp2_with fail
                  go_roundw
                  case rel => exact ⟨m + 1, hlt, by go_num, HIc⟩
                  case measure => simp [intOf]; omega
            | false =>
              have hf := hfree hb
              cases he : enB ts L m with
              | true =>
                have hin : L[m]!.inn = true := hf.symm.trans he
                rw [he] at hen
                clear hinn hfree he hb hf
                have hd := HI.out.drew
                obtain ⟨c0, c1⟩ := HI.out.l.cells
                have ll := HI.out.l.lt
                have a0 := (own_mk HI.out.o HLn.out hlt).1
                rw [hin] at a0
                go_wp2_with fail
                go_cut [74] (fun s wc => s = .bool false ∧ Hid (FI w #[.slice EA es.length ec, .slice TA ts.length tc] (some ⟨g, 0, none⟩) es.length vc L wc))
                case first =>
                                    refine wp_region_class (FI w #[.slice EA es.length ec, .slice TA ts.length tc] (some ⟨g, 0, none⟩) es.length vc L) (by kernel_rfl) (by kernel_rfl) HI.out.drew ?_
                                    have f0 := fun x : WIn (FI w #[.slice EA es.length ec, .slice TA ts.length tc] (some ⟨g, 0, none⟩) es.length vc L) => x.h.l.cells.1
                                    have f1 := fun x : WIn (FI w #[.slice EA es.length ec, .slice TA ts.length tc] (some ⟨g, 0, none⟩) es.length vc L) => x.h.l.cells.2
                                    have f2 := fun x : WIn (FI w #[.slice EA es.length ec, .slice TA ts.length tc] (some ⟨g, 0, none⟩) es.length vc L) => (fi_all (ii := true) HLn.out hlt hin x.h).2.2.2
                                    have EN := class_call (CC := FI w #[.slice EA es.length ec, .slice TA ts.length tc] (some ⟨g, 0, none⟩) es.length vc L) (fun _ _ h hb => h.call hb) (fun W h => FI.en h HT.out htl hel HLn.out _ hen)
                                    haveI : Nonempty (WIn (FI w #[.slice EA es.length ec, .slice TA ts.length tc] (some ⟨g, 0, none⟩) es.length vc L)) := ⟨⟨_, HI.out.drew⟩⟩
                                    repeat (go_big_quiet_step (exact EN _))
                                    refine wpQuiet_nil ?_
                                    rintro _ ⟨⟨wq, hwq⟩, rfl⟩
                                    go_wp2_with fail
                                    go_meet
                                    exact ⟨rfl, Lib.hid hwq⟩
                case rest =>
                  obtain ⟨rfl, HIc⟩ := hcut
                  go_wp2_with fail
                  go_roundw
                  case rel => exact ⟨m + 1, hlt, by go_num, HIc⟩
                  case measure => simp [intOf]; omega
              | false =>
                have hin : L[m]!.inn = false := hf.symm.trans he
                rw [he] at hen
                clear hinn hfree he hb hf
                have hd := HI.out.drew
                obtain ⟨c0, c1⟩ := HI.out.l.cells
                have ll := HI.out.l.lt
                have a0 := (own_mk HI.out.o HLn.out hlt).1
                rw [hin] at a0
                go_wp2_with fail
                go_cut [74] (fun s wc => s = .bool false ∧ Hid (FI w #[.slice EA es.length ec, .slice TA ts.length tc] (some ⟨g, 0, none⟩) es.length vc L wc))
                case first =>
                                    refine wp_region_class (FI w #[.slice EA es.length ec, .slice TA ts.length tc] (some ⟨g, 0, none⟩) es.length vc L) (by kernel_rfl) (by kernel_rfl) HI.out.drew ?_
                                    have f0 := fun x : WIn (FI w #[.slice EA es.length ec, .slice TA ts.length tc] (some ⟨g, 0, none⟩) es.length vc L) => x.h.l.cells.1
                                    have f1 := fun x : WIn (FI w #[.slice EA es.length ec, .slice TA ts.length tc] (some ⟨g, 0, none⟩) es.length vc L) => x.h.l.cells.2
                                    have f2 := fun x : WIn (FI w #[.slice EA es.length ec, .slice TA ts.length tc] (some ⟨g, 0, none⟩) es.length vc L) => (fi_all (ii := false) HLn.out hlt hin x.h).2.2.2
                                    have EN := class_call (CC := FI w #[.slice EA es.length ec, .slice TA ts.length tc] (some ⟨g, 0, none⟩) es.length vc L) (fun _ _ h hb => h.call hb) (fun W h => FI.en h HT.out htl hel HLn.out _ hen)
                                    haveI : Nonempty (WIn (FI w #[.slice EA es.length ec, .slice TA ts.length tc] (some ⟨g, 0, none⟩) es.length vc L)) := ⟨⟨_, HI.out.drew⟩⟩
                                    repeat (go_big_quiet_step (exact EN _))
                                    refine wpQuiet_nil ?_
                                    rintro _ ⟨⟨wq, hwq⟩, rfl⟩
                                    go_wp2_with fail
                                    go_meet
                                    exact ⟨rfl, Lib.hid hwq⟩
                case rest =>
                  obtain ⟨rfl, HIc⟩ := hcut
                  go_wp2_with fail
                  go_roundw
                  case rel => exact ⟨m + 1, hlt, by go_num, HIc⟩
                  case measure => simp [intOf]; omega
      · go_wp2_with fail
        go_ret
        exact ⟨rfl, HI.out.l.b⟩

theorem own : ownKnob Try.prog.godebug = none := by kernel_rfl
set_option maxRecDepth 100000 in
theorem lifted (os : Os) (started : os.Started) (H : Type) (enc : TypeId × Value → H) :
    ReturnsInHanded {} Try.checked os 12 .any (Rows.markFreeSpec.pre6 enc Try.prog Try.f12 Rows.markFreeRow.domain false) (Rows.markFreeSpec.post enc Try.prog Try.f12 false true false false) := by
  refine returnsInHanded_of_change_sized (C := Try.checked) own started (by kernel_rfl) Try.func12
    (ChangeSpec.witness6 (enc := enc) (C := Try.checked) false ⟨#[], #[.agg #[.slice none 0 0, .slice none 0 0], .slice none 0 0], []⟩ 8 (by kernel_rfl) (by kernel_rfl) (by kernel_rfl) (by kernel_rfl)) ?_
  intro W base args ds gs before hval0 hW _ hsz0 _
  have hsz : (DataW.weightsEach Try.prog (Try.f12.params.toList ++ Rows.markFreeSpec.plain.varTypes Try.prog) (ds ++ gs)).all (· ≤ reachBytes) = true := hsz0
  have hval : ∀ (j : Nat) t v, Try.f12.params[j]? = some t → args[j]? = some v → Value.okWide Try.prog W .any base t v := hval0
  have hW' := hW
  obtain ⟨p, q, hA0, hV, rfl, _, _⟩ := hW
  have hA : DataW.TrodAll enc Try.prog W 0 (fun _ => true) true Try.f12.params.toList args.toList ds p := hA0
  rw [Try.params12] at hA hval hsz
  obtain ⟨v0, vs0, d0, ds0, p0, q0, hargs, rfl, rfl, h0, r0⟩ := trodAll_cons hA
  obtain ⟨v1, vs1, d1, ds1, p1, q1, e1, rfl, rfl, h1, r1⟩ := trodAll_cons r0
  obtain ⟨rfl, rfl, rfl⟩ := trodAll_nil r1
  subst e1
  obtain rfl : args = #[v0, v1] := by cases args; simp_all
  obtain ⟨rfl, rfl⟩ := trodVars_none hV
  have hw0 : Wt Try.prog 32 d0 := Wt.of hsz (j := 0) rfl rfl
  obtain ⟨EA, TA, ec, tc, es, ts, rfl, he, ht, hel, htl, hge, hgt⟩ := open_flat (hval 0 _ v0 rfl rfl) h0 hw0
  have hw1 : Wt Try.prog 75 d1 := Wt.of hsz (j := 1) rfl rfl
  obtain ⟨A1, c1, l1, rfl, hr1, hl1⟩ := open_u8s (hval 1 _ v1 rfl rfl) h1 hw1
  clear hA0 hval0 hsz0
  simp only [List.append_nil] at hW'
  have hlt0 := fun x hx => hW'.lt x hx
  refine (walk W EA TA A1 ec tc c1 es ts l1 he ht hr1 hl1).mono fun e W' ⟨he2, hg⟩ => ?_
  subst he2
  have hargs := (trodAll_cons_mk (Below.trod progLaid (by kernel_rfl) (of_decide_eq_true (by kernel_rfl)) h0 hg (fun x hx => hlt0 x (List.mem_append_left _ hx))) (trodAll_cons_mk (Below.trod progLaid (by kernel_rfl) (of_decide_eq_true (by kernel_rfl)) h1 hg (fun x hx => hlt0 x (List.mem_append_right _ (hx)))) (trodAll_mk0 (enc := enc) (P := Try.prog) (w := W'))))
  simp only [List.append_nil] at hargs
  exact ⟨_, rfl, _, _, _, [], p0 ++ (p1), [], hW', trodAll_cons_mk (shut_bool Try.underlying4 _) trodAll_mk0, hargs, rfl, hg.frame _, fun h => by cases h⟩

theorem proved : Rows.MarkFreeSaid :=
  OpenClaim.holds_of_wide 12 Try.f12 rfl rfl rfl rfl rfl rfl rfl ⟨rfl, rfl, rfl, rfl, rfl⟩ rfl rfl rfl rfl rfl (by kernel_rfl) Try.func12 (by kernel_rfl)
    (of_decide_eq_true (by kernel_rfl)) (by unfold Func.isWrapper; first | (rw [if_pos (by decide +kernel)]; kernel_rfl) | (rw [if_neg (by decide +kernel)]; exact ⟨rfl, rfl⟩))
    (fun os started H enc _ => lifted os started H enc)
end Go.Proofs.Ytplplkchibefjaa.M5.Free
