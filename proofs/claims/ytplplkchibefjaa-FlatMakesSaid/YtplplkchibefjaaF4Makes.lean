/-
  FlatMakes answers true, whatever graph it is given.
-/
import Derived.Test.YtplplkchibefjaaRows
import Derived.Test.YtplplkchibefjaaF4a
import Derived.Test.YtplplkchibefjaaF4s
import Derived.Test.YtplplkchibefjaaF4f
import Derived.Test.YtplplkchibefjaaGrOq
import Derived.ProofKit
import Derived.OpenShut
import Derived.Carry
namespace Go.Proofs.Ytplplkchibefjaa.P4.Makes
open Go.RowKit Go.Shelf Go.Deep Go.Joins Go.ChangeShapes Go.WideShapes Go.Proofs.Ytplplkchibefjaa.P4

set_option maxHeartbeats 1000000 in
theorem neq_evS (x : Ev) (w : World) : (binOp .neq 46 (.agg #[.string x.name, .string x.group, .string x.role, .bool x.inn, .bool x.done, .int .i64 x.due]) (.agg #[.string x.name, .string x.group, .string x.role, .bool x.inn, .bool x.done, .int .i64 x.due])).run Try.prog w = .ok (.bool false) w := by
  have u0 := Try.underlying3
  have a0 := Try.isAgg3
  have z0 := Try.sizeOf3
  have u1 := Try.underlying4
  have a1 := Try.isAgg4
  have z1 := Try.sizeOf4
  have u2 := Try.underlying9
  have a2 := Try.isAgg9
  have z2 := Try.sizeOf9
  have hS : Try.prog.underlying 46 = some (.struct (Try.prog.fieldsOf 46)) := by kernel_rfl
  have hp : Try.prog.stoodInHeld 46 = false := by kernel_rfl
  rw [run_neq_struct, show (10000 : Nat) = 9999 + 1 from rfl, run_equalIn_agg w 9999 46 _ _ hS hp]
  simp only [Program.fieldsOf, Try.underlying46]
  go_simp
set_option maxRecDepth 100000 in
set_option maxHeartbeats 2000000 in
theorem events_self (A B : Option Addr) (c d : Nat) (a : List Ev) (w : World) (hr1 : Row w A (a.flatMap evC)) (hr2 : Row w B (a.flatMap evC)) (hla : a.length * 64 ≤ 140737488351232) :
    Calls Try.prog 19 #[.slice A a.length c, .slice B a.length d] w fun e w' => e = .returned (.bool true) ∧ Below w.heap.size w w' := by
  have hle1 : ((a.length : Int) != (a.length : Int)) = false := by rw [bne_eq_false_iff_eq]
  have H1 := Lib.hid hr1
  have H2 := Lib.hid hr2
  clear hr1 hr2
  go_enter Try.func19, Try.ntmps19
  go_wp2_with fail
  go_loopw [5] (fun i wr => ∃ k : Nat, k ≤ a.length ∧ i = .int .i64 k ∧ Hid (Below w.heap.size w wr)) (fun i _ => a.length - (intOf i).toNat)
  case atStart => exact ⟨0, Nat.zero_le _, rfl, Lib.hid (Below.refl _ _)⟩
  case round =>
    obtain ⟨k, hk, rfl, hB⟩ := hrel
    by_cases hlt : k < a.length
    · obtain ⟨b1, off1, rfl, hb1, hc1⟩ := H1.out.at_ (k := 6) (fun _ => rfl) (by omega) hlt
      obtain ⟨b2, off2, rfl, hb2, hc2⟩ := H2.out.at_ (k := 6) (fun _ => rfl) (by omega) hlt
      have k1_0 := hc1 0 _ rfl
      rw [Nat.add_zero] at k1_0
      have k1_1 := hc1 1 _ rfl
      have k1_2 := hc1 2 _ rfl
      have k1_3 := hc1 3 _ rfl
      have k1_4 := hc1 4 _ rfl
      have k1_5 := hc1 5 _ rfl
      rw [← hB.out.cell (p := ⟨b1, _, none⟩) hb1] at k1_0 k1_1 k1_2 k1_3 k1_4 k1_5
      have k2_0 := hc2 0 _ rfl
      rw [Nat.add_zero] at k2_0
      have k2_1 := hc2 1 _ rfl
      have k2_2 := hc2 2 _ rfl
      have k2_3 := hc2 3 _ rfl
      have k2_4 := hc2 4 _ rfl
      have k2_5 := hc2 5 _ rfl
      rw [← hB.out.cell (p := ⟨b2, _, none⟩) hb2] at k2_0 k2_1 k2_2 k2_3 k2_4 k2_5
      have hk0 : (0 : Int) ≤ (k : Int) := Int.natCast_nonneg _
      have hk1 : (k : Int) < (a.length : Int) := by omega
      have hq := fun W => neq_evS a[k]! W
      clear hc1 hc2
      generalize a[k]! = x at *
      go_wp2_with fail
      go_quiet (fail)
      go_wp2_with fail
      go_roundw
      case rel => exact ⟨k + 1, hlt, by go_num, Lib.hid (Go.Proofs.Ytplplkchibefjaa.B.below_draws hB.out _)⟩
      case measure => simp [intOf]; omega
    · obtain rfl : k = a.length := by omega
      go_wp2_with fail
      go_ret
      exact ⟨rfl, hB.out⟩
theorem end_small {g : Gr} (h : mayL g = true → g.es.length ≤ 30 ∧ g.rs.length ≤ 60) : (endE g).length ≤ 30 ∧ (endT g).length ≤ 8000 := by
  unfold endE endT
  by_cases hm : mayL g = true
  · rw [if_pos hm, if_pos hm]
    split
    · rename_i h8; exact ⟨(h hm).1, h8⟩
    · exact ⟨by decide, by decide⟩
  · rw [if_neg hm, if_neg hm]; exact ⟨by decide, by decide⟩
/-- What own answers. -/
def OwnOf (ts : List Ti) (w : World) (e : Ending) (w' : World) : Prop := ∃ v, e = .returned v ∧ w'.ownsRow w.heap.size 101 4 v ts.length (ts.flatMap tiC) ∧ Below w.heap.size w w'
/-- What stands as it did behind both. -/
structure QM (w : World) (F H : Nat) (EA TA EB TB : Option Addr) (ec tc ed td : Nat) (es : List Ev) (ts : List Ti) (W : World) : Prop where
  b : Below w.heap.size w W
  f : W.heap[F]? = some (.cells #[.slice EA es.length ec, .slice TA ts.length tc] 32 (0, 0))
  h : W.heap[H]? = some (.cells #[.slice EB es.length ed, .slice TB ts.length td] 38 (0, 0))
  e1 : Row W EA (es.flatMap evC)
  t1 : Row W TA (ts.flatMap tiC)
  e2 : Row W EB (es.flatMap evC)
  t2 : Row W TB (ts.flatMap tiC)
section
variable {w W W' : World} {F H ec tc ed td : Nat} {EA TA EB TB : Option Addr} {es : List Ev} {ts : List Ti}
theorem qm_call (hb : Below W.heap.size W W') (h : QM w F H EA TA EB TB ec tc ed td es ts W) : QM w F H EA TA EB TB ec tc ed td es ts W' :=
  ⟨h.b.trans (hb.mono h.b.size), blk_call h.f hb, blk_call h.h hb, h.e1.below (Nat.le_refl _) hb, h.t1.below (Nat.le_refl _) hb, h.e2.below (Nat.le_refl _) hb, h.t2.below (Nat.le_refl _) hb⟩
theorem qm_drew (h : QM w F H EA TA EB TB ec tc ed td es ts W) : QM w F H EA TA EB TB ec tc ed td es ts W.drew := qm_call (show Below W.heap.size W W.drew from ⟨rfl, rfl, rfl, Nat.le_refl _, fun _ _ => rfl⟩) h
theorem qm_all (h : QM w F H EA TA EB TB ec tc ed td es ts W) : QM w F H EA TA EB TB ec tc ed td es ts W ∧ W.cell? ⟨F, 0, none⟩ = some (.slice EA es.length ec) ∧ W.cell? ⟨F, 1, none⟩ = some (.slice TA ts.length tc) ∧ W.cell? ⟨H, 0, none⟩ = some (.slice EB es.length ed) ∧ W.cell? ⟨H, 1, none⟩ = some (.slice TB ts.length td) :=
  ⟨h, cell_blk h.f rfl, cell_blk h.f rfl, cell_blk h.h rfl, cell_blk h.h rfl⟩
end
/-- The graph's box stands as it did. -/
structure GB (w : World) (g : Gr) (W : World) : Prop where
  b : Below w.heap.size w W
  n : W.heap[w.heap.size]? = some (.cells #[.slice g.ga g.gs.length g.gc, .slice g.ea g.es.length g.ec, .slice g.ra g.rs.length g.rc, .slice g.ua g.us.length g.uc] 27 (0, 0))
section
variable {w W W' : World} {g : Gr}
theorem GB.lt (h : GB w g W) : w.heap.size < W.heap.size := (Array.getElem?_eq_some_iff.1 h.n).1
theorem GB.call (h : GB w g W) (hb : Below W.heap.size W W') : GB w g W' := ⟨h.b.trans (hb.mono h.b.size), blk_call h.n hb⟩
theorem GB.alloc (h : GB w g W) (o : Obj) : GB w g (W.alloc o) := h.call ((Below.refl _ _).alloc (Nat.le_refl _) _)
theorem GB.cells (h : GB w g W) : W.cell? ⟨w.heap.size, 0, none⟩ = some (.slice g.ga g.gs.length g.gc) ∧ W.cell? ⟨w.heap.size, 1, none⟩ = some (.slice g.ea g.es.length g.ec) ∧ W.cell? ⟨w.heap.size, 2, none⟩ = some (.slice g.ra g.rs.length g.rc) ∧ W.cell? ⟨w.heap.size, 3, none⟩ = some (.slice g.ua g.us.length g.uc) ∧ w.heap.size < W.heap.size :=
  ⟨cell_blk h.n rfl, cell_blk h.n rfl, cell_blk h.n rfl, cell_blk h.n rfl, h.lt⟩
end
set_option maxRecDepth 100000 in
set_option maxHeartbeats 8000000 in
/-- From Make on. -/
theorem walk (w : World) (g : Gr) (hI : InG w g) (hz : SzG g) (hcap : ∀ u ∈ g.us, u.roles.length ≤ u.rc) (hec : g.es.length ≤ g.ec) (hea : g.ea = none → g.ec = 0) :
    Calls Try.prog 3 #[.agg #[.slice g.ga g.gs.length g.gc, .slice g.ea g.es.length g.ec, .slice g.ra g.rs.length g.rc, .slice g.ua g.us.length g.uc]] w fun e w' => e = .returned (.bool true) ∧ Below w.heap.size w w' := by
  have G0 : GB w g (w.alloc (.cells #[.slice g.ga g.gs.length g.gc, .slice g.ea g.es.length g.ec, .slice g.ra g.rs.length g.rc, .slice g.ua g.us.length g.uc] 27)) := ⟨(Below.refl _ _).alloc (Nat.le_refl _) _, heap_alloc_new _ _⟩
  have AWK := Lib.hid (awake_any (w.alloc (.cells #[.slice g.ga g.gs.length g.gc, .slice g.ea g.es.length g.ec, .slice g.ra g.rs.length g.rc, .slice g.ua g.us.length g.uc] 27)))
  have HG0 := Lib.hid G0
  have HI := Lib.hid hI
  have HZ := Lib.hid hz
  have HC := Lib.hid hcap
  have HEC := Lib.hid hec
  have HEA := Lib.hid hea
  clear hI hz hcap hec hea G0
  go_enter Try.func3, Try.ntmps3
  go_wp2_with fail
  refine AWK.out.mono ?_
  rintro e w1 ⟨rfl, hb⟩
  have HG1 := Lib.hid (HG0.out.call hb)
  clear hb AWK HG0
  obtain ⟨c0, c1, c2, c3, ll⟩ := HG1.out.cells
  have L := Lib.hid (large_any w1 g (HI.out.below (Nat.le_refl _) HG1.out.b) HZ.out)
  go_wp2_with fail
  refine L.out.mono ?_
  rintro e w2 ⟨b, rfl, hs, hb⟩
  have HG2 := Lib.hid (HG1.out.call hb)
  clear hb L HG1 c0 c1 c2 c3 ll
  obtain ⟨c0, c1, c2, c3, ll⟩ := HG2.out.cells
  cases b with
  | true =>
    clear hs
    go_wp2_with fail
    go_ret
    exact ⟨rfl, HG2.out.b⟩
  | false =>
    clear hs
    have S := Lib.hid (small_any w2 g (HI.out.below (Nat.le_refl _) HG2.out.b) HZ.out)
    go_wp2_with fail
    refine S.out.mono ?_
    rintro e w3 ⟨b, rfl, hs, hb⟩
    have HG3 := Lib.hid (HG2.out.call hb)
    clear hb S HG2 c0 c1 c2 c3 ll
    cases b with
    | true =>
      obtain ⟨_, hr60, he30⟩ := hs rfl
      have hfew : mayL g = true → g.es.length ≤ 30 ∧ g.rs.length ≤ 60 := fun _ => ⟨he30, hr60⟩
      clear hs
      have HFew := Lib.hid hfew
      obtain ⟨c0, c1, c2, c3, ll⟩ := HG3.out.cells
      have M := Lib.hid (make_any w3 g (HI.out.below (Nat.le_refl _) HG3.out.b) HZ.out HC.out)
      clear hfew
      go_wp2_with fail
      refine M.out.mono ?_
      intro e w5 hmk
      obtain ⟨EA, ec, TA, tc, rfl, re1, rt1, hb5⟩ := make_fend hmk
      have HG5 := Lib.hid ((HG3.out.call hb5).alloc (.cells #[.slice EA (endE g).length ec, .slice TA (endT g).length tc] 32))
      have hx5 : Below w5.heap.size w5 (w5.alloc (.cells #[.slice EA (endE g).length ec, .slice TA (endT g).length tc] 32)) := (Below.refl _ _).alloc (Nat.le_refl _) _
      have HE5 := Lib.hid (re1.below (Nat.le_refl _) hx5)
      have HT5 := Lib.hid (rt1.below (Nat.le_refl _) hx5)
      have HF5 := Lib.hid (heap_alloc_new w5 (.cells #[.slice EA (endE g).length ec, .slice TA (endT g).length tc] 32))
      obtain ⟨F, hF⟩ : ∃ F, F = w5.heap.size := ⟨_, rfl⟩
      have HF := Lib.hid hF
      rw [← hF] at HF5
      clear hF hmk re1 rt1 hb5 hx5 M c0 c1 c2 c3 ll HG3
      obtain ⟨c0, c1, c2, c3, ll⟩ := HG5.out.cells
      have R := Lib.hid (rmake_any (w5.alloc (.cells #[.slice EA (endE g).length ec, .slice TA (endT g).length tc] 32)) g (HI.out.below (Nat.le_refl _) HG5.out.b) HZ.out HEC.out HEA.out HFew.out)
      obtain ⟨hes, hts⟩ := end_small HFew.out
      generalize endE g = es at *
      generalize endT g = ts at *
      generalize endC g = cc at *
      go_wp2_with fail
      refine R.out.mono ?_
      rintro e w6 ⟨EB, ed, TB, td, rfl, re2, rt2, hb6⟩
      obtain ⟨H, hH⟩ : ∃ H, H = w6.heap.size := ⟨_, rfl⟩
      have hx6 : Below w6.heap.size w6 (w6.alloc (.cells #[.slice EB es.length ed, .slice TB ts.length td] 38)) := (Below.refl _ _).alloc (Nat.le_refl _) _
      have hb7 := hb6.trans (hx6.mono hb6.size)
      have K0 : QM w F H EA TA EB TB ec tc ed td es ts (w6.alloc (.cells #[.slice EB es.length ed, .slice TB ts.length td] 38)) :=
        ⟨(HG5.out.call hb7).b, blk_call HF5.out hb7, by rw [hH]; exact heap_alloc_new _ _, HE5.out.below (Nat.le_refl _) hb7, HT5.out.below (Nat.le_refl _) hb7, re2.below (Nat.le_refl _) hx6, rt2.below (Nat.le_refl _) hx6⟩
      have HK0 := Lib.hid K0
      have HH := Lib.hid hH
      clear hH hx6 hb7 K0 re2 rt2 hb6 HG5 HE5 HT5 HF5 R c0 c1 c2 c3 ll
      obtain ⟨W6, hW6⟩ : ∃ W6, W6 = w6.alloc (.cells #[.slice EB es.length ed, .slice TB ts.length td] 38) := ⟨_, rfl⟩
      have HW6 := Lib.hid hW6
      rw [← hW6] at HK0
      clear hW6
      have k0 := HK0.out
      have tcq : (cc == cc) = true := by simp
      have hts2 : ts.length * 32 ≤ 140737488351232 := by omega
      have hes2 : es.length * 64 ≤ 140737488351232 := by omega
      go_wp2_with fail
      rw [← HW6.out, ← HF.out, ← HH.out]
      go_region_held3 (fun W => QM w F H EA TA EB TB ec tc ed td es ts W ∧ W.cell? ⟨F, 0, none⟩ = some (.slice EA es.length ec) ∧ W.cell? ⟨F, 1, none⟩ = some (.slice TA ts.length tc) ∧ W.cell? ⟨H, 0, none⟩ = some (.slice EB es.length ed) ∧ W.cell? ⟨H, 1, none⟩ = some (.slice TB ts.length td))
        (((try go_split_ands); (first | exact qm_all (by with_reducible assumption) | exact qm_all (qm_drew (by with_reducible assumption)) | exact qm_all (qm_call (by with_reducible assumption) (by with_reducible assumption)))))
        (first
          | (go_at_call 19; go_split_ands; refine (events_self EA EB ec ed es _ (QM.e1 (by with_reducible assumption)) (QM.e2 (by with_reducible assumption)) hes2).mono ?_; rintro e w7 ⟨rfl, hb7⟩)
          | (go_at_call 21; go_split_ands; refine (F4.own4_any _ TA tc ts (QM.t1 (by with_reducible assumption)) hts2).mono ?_; rintro e w8 ⟨v8, rfl, o8, hb8⟩; obtain ⟨va8, vc8, rfl⟩ := own_slice o8)
          | (go_at_call 20; go_split_ands; refine (F4.same4_self va8 TB vc8 td ts _ (Row.of_own o8) (QM.t2 (by with_reducible assumption)) hts2).mono ?_; rintro e w9 ⟨rfl, hb9⟩))
      have HK9 := Lib.hid (qm_call hb9 (qm_call hb8 (qm_call hb7 (qm_drew HK0.out))))
      go_wp2_with fail
      go_ret
      exact ⟨rfl, HK9.out.b⟩
    | false =>
      clear hs
      obtain ⟨c0, c1, c2, c3, ll⟩ := HG3.out.cells
      have R := Lib.hid (rright_any w3 g (HI.out.below (Nat.le_refl _) HG3.out.b) HZ.out)
      cases hm : mayL g with
      | true =>
        rw [hm] at R
        clear hm
        go_wp2_with fail
        refine R.out.mono ?_
        rintro e w4 ⟨rfl, hb⟩
        have HG4 := Lib.hid (HG3.out.call hb)
        clear hb
        go_wp2_with fail
        go_ret
        exact ⟨rfl, HG4.out.b⟩
      | false =>
        rw [hm] at R
        have hfew : mayL g = true → g.es.length ≤ 30 ∧ g.rs.length ≤ 60 := fun h => absurd (hm.symm.trans h) (by decide)
        clear hm
        go_wp2_with fail
        refine R.out.mono ?_
        rintro e w4 ⟨rfl, hb⟩
        have HG4 := Lib.hid (HG3.out.call hb)
        clear hb R HG3 c0 c1 c2 c3 ll
        have HFew := Lib.hid hfew
        obtain ⟨c0, c1, c2, c3, ll⟩ := HG4.out.cells
        have M := Lib.hid (make_any w4 g (HI.out.below (Nat.le_refl _) HG4.out.b) HZ.out HC.out)
        clear hfew
        go_wp2_with fail
        refine M.out.mono ?_
        intro e w5 hmk
        obtain ⟨EA, ec, TA, tc, rfl, re1, rt1, hb5⟩ := make_fend hmk
        have HG5 := Lib.hid ((HG4.out.call hb5).alloc (.cells #[.slice EA (endE g).length ec, .slice TA (endT g).length tc] 32))
        have hx5 : Below w5.heap.size w5 (w5.alloc (.cells #[.slice EA (endE g).length ec, .slice TA (endT g).length tc] 32)) := (Below.refl _ _).alloc (Nat.le_refl _) _
        have HE5 := Lib.hid (re1.below (Nat.le_refl _) hx5)
        have HT5 := Lib.hid (rt1.below (Nat.le_refl _) hx5)
        have HF5 := Lib.hid (heap_alloc_new w5 (.cells #[.slice EA (endE g).length ec, .slice TA (endT g).length tc] 32))
        obtain ⟨F, hF⟩ : ∃ F, F = w5.heap.size := ⟨_, rfl⟩
        have HF := Lib.hid hF
        rw [← hF] at HF5
        clear hF hmk re1 rt1 hb5 hx5 M c0 c1 c2 c3 ll HG4
        obtain ⟨c0, c1, c2, c3, ll⟩ := HG5.out.cells
        have R := Lib.hid (rmake_any (w5.alloc (.cells #[.slice EA (endE g).length ec, .slice TA (endT g).length tc] 32)) g (HI.out.below (Nat.le_refl _) HG5.out.b) HZ.out HEC.out HEA.out HFew.out)
        obtain ⟨hes, hts⟩ := end_small HFew.out
        generalize endE g = es at *
        generalize endT g = ts at *
        generalize endC g = cc at *
        go_wp2_with fail
        refine R.out.mono ?_
        rintro e w6 ⟨EB, ed, TB, td, rfl, re2, rt2, hb6⟩
        obtain ⟨H, hH⟩ : ∃ H, H = w6.heap.size := ⟨_, rfl⟩
        have hx6 : Below w6.heap.size w6 (w6.alloc (.cells #[.slice EB es.length ed, .slice TB ts.length td] 38)) := (Below.refl _ _).alloc (Nat.le_refl _) _
        have hb7 := hb6.trans (hx6.mono hb6.size)
        have K0 : QM w F H EA TA EB TB ec tc ed td es ts (w6.alloc (.cells #[.slice EB es.length ed, .slice TB ts.length td] 38)) :=
          ⟨(HG5.out.call hb7).b, blk_call HF5.out hb7, by rw [hH]; exact heap_alloc_new _ _, HE5.out.below (Nat.le_refl _) hb7, HT5.out.below (Nat.le_refl _) hb7, re2.below (Nat.le_refl _) hx6, rt2.below (Nat.le_refl _) hx6⟩
        have HK0 := Lib.hid K0
        have HH := Lib.hid hH
        clear hH hx6 hb7 K0 re2 rt2 hb6 HG5 HE5 HT5 HF5 R c0 c1 c2 c3 ll
        obtain ⟨W6, hW6⟩ : ∃ W6, W6 = w6.alloc (.cells #[.slice EB es.length ed, .slice TB ts.length td] 38) := ⟨_, rfl⟩
        have HW6 := Lib.hid hW6
        rw [← hW6] at HK0
        clear hW6
        have k0 := HK0.out
        have tcq : (cc == cc) = true := by simp
        have hts2 : ts.length * 32 ≤ 140737488351232 := by omega
        have hes2 : es.length * 64 ≤ 140737488351232 := by omega
        go_wp2_with fail
        rw [← HW6.out, ← HF.out, ← HH.out]
        go_region_held3 (fun W => QM w F H EA TA EB TB ec tc ed td es ts W ∧ W.cell? ⟨F, 0, none⟩ = some (.slice EA es.length ec) ∧ W.cell? ⟨F, 1, none⟩ = some (.slice TA ts.length tc) ∧ W.cell? ⟨H, 0, none⟩ = some (.slice EB es.length ed) ∧ W.cell? ⟨H, 1, none⟩ = some (.slice TB ts.length td))
          (((try go_split_ands); (first | exact qm_all (by with_reducible assumption) | exact qm_all (qm_drew (by with_reducible assumption)) | exact qm_all (qm_call (by with_reducible assumption) (by with_reducible assumption)))))
          (first
            | (go_at_call 19; go_split_ands; refine (events_self EA EB ec ed es _ (QM.e1 (by with_reducible assumption)) (QM.e2 (by with_reducible assumption)) hes2).mono ?_; rintro e w7 ⟨rfl, hb7⟩)
            | (go_at_call 21; go_split_ands; refine (F4.own4_any _ TA tc ts (QM.t1 (by with_reducible assumption)) hts2).mono ?_; rintro e w8 ⟨v8, rfl, o8, hb8⟩; obtain ⟨va8, vc8, rfl⟩ := own_slice o8)
            | (go_at_call 20; go_split_ands; refine (F4.same4_self va8 TB vc8 td ts _ (Row.of_own o8) (QM.t2 (by with_reducible assumption)) hts2).mono ?_; rintro e w9 ⟨rfl, hb9⟩))
        have HK9 := Lib.hid (qm_call hb9 (qm_call hb8 (qm_call hb7 (qm_drew HK0.out))))
        go_wp2_with fail
        go_ret
        exact ⟨rfl, HK9.out.b⟩

theorem own : ownKnob Try.prog.godebug = none := by kernel_rfl
set_option maxRecDepth 100000 in
theorem lifted (os : Os) (started : os.Started) (H : Type) (enc : TypeId × Value → H) :
    ReturnsInHanded {} Try.checked os 3 .any (Rows.flatMakesSpec.pre6 enc Try.prog Try.f3 Rows.flatMakesRow.domain false) (Rows.flatMakesSpec.post enc Try.prog Try.f3 false true false false) := by
  refine returnsInHanded_of_change_sized (C := Try.checked) own started (by kernel_rfl) Try.func3
    (ChangeSpec.witness6 (enc := enc) (C := Try.checked) false ⟨#[], #[.agg #[.slice none 0 0, .slice none 0 0, .slice none 0 0, .slice none 0 0]], []⟩ 8 (by kernel_rfl) (by kernel_rfl) (by kernel_rfl) (by kernel_rfl)) ?_
  intro W base args ds gs before hval0 hW _ hsz0 _
  have hsz : (DataW.weightsEach Try.prog (Try.f3.params.toList ++ Rows.flatMakesSpec.plain.varTypes Try.prog) (ds ++ gs)).all (· ≤ reachBytes) = true := hsz0
  have hval : ∀ (j : Nat) t v, Try.f3.params[j]? = some t → args[j]? = some v → Value.okWide Try.prog W .any base t v := hval0
  have hW' := hW
  obtain ⟨p, q, hA0, hV, rfl, _, _⟩ := hW
  have hA : DataW.TrodAll enc Try.prog W 0 (fun _ => true) true Try.f3.params.toList args.toList ds p := hA0
  rw [Try.params3] at hA hval hsz
  obtain ⟨v0, vs0, d0, ds0, p0, q0, hargs, rfl, rfl, h0, r0⟩ := trodAll_cons hA
  obtain ⟨rfl, rfl, rfl⟩ := trodAll_nil r0
  obtain rfl : args = #[v0] := by cases args; simp_all
  obtain ⟨rfl, rfl⟩ := trodVars_none hV
  have hw0 : Wt Try.prog 27 d0 := Wt.of hsz (j := 0) rfl rfl
  obtain ⟨g0, rfl, hI0, hz0, hcap0, hnil0, _, hec0, _, hea0⟩ := open_graph (hval 0 _ v0 rfl rfl) h0 hw0
  clear hA0 hval0 hsz0
  simp only [List.append_nil] at hW'
  have hlt0 := fun x hx => hW'.lt x hx
  refine (walk W g0 hI0 hz0 hcap0 hec0 hea0).mono fun e W' ⟨he2, hg⟩ => ?_
  subst he2
  have hargs := (trodAll_cons_mk (Below.trod progLaid (by kernel_rfl) (of_decide_eq_true (by kernel_rfl)) h0 hg (fun x hx => hlt0 x (hx))) (trodAll_mk0 (enc := enc) (P := Try.prog) (w := W')))
  simp only [List.append_nil] at hargs
  exact ⟨_, rfl, _, _, _, [], p0, [], hW', trodAll_cons_mk (shut_bool Try.underlying4 _) trodAll_mk0, hargs, rfl, hg.frame _, fun h => by cases h⟩

theorem proved : Rows.FlatMakesSaid :=
  OpenClaim.holds_of_wide 3 Try.f3 rfl rfl rfl rfl rfl rfl rfl ⟨rfl, rfl, rfl, rfl, rfl⟩ rfl rfl rfl rfl rfl (by kernel_rfl) Try.func3 (by kernel_rfl)
    (of_decide_eq_true (by kernel_rfl)) (by unfold Func.isWrapper; first | (rw [if_pos (by decide +kernel)]; kernel_rfl) | (rw [if_neg (by decide +kernel)]; exact ⟨rfl, rfl⟩))
    (fun os started H enc _ => lifted os started H enc)
end Go.Proofs.Ytplplkchibefjaa.P4.Makes
