/-
  FlatAgain answers true, whatever graph it is given.
-/
import Derived.Test.YtplplkchibefjaaRows
import Derived.Test.YtplplkchibefjaaF4b
import Derived.Test.YtplplkchibefjaaF4s
import Derived.Test.YtplplkchibefjaaF4r
import Derived.Test.YtplplkchibefjaaF4t
import Derived.Test.YtplplkchibefjaaGrOq
import Derived.ProofKit
import Derived.OpenShut
import Derived.Carry
namespace Go.Proofs.Ytplplkchibefjaa.P4.Again
open Go.RowKit Go.Shelf Go.Deep Go.Joins Go.ChangeShapes Go.WideShapes Go.Proofs.Ytplplkchibefjaa.P4

/-- What Make answers: an error and nothing, or a flat graph. -/
def Made (w : World) (g : Gr) (e : Ending) (w' : World) : Prop :=
  Below w.heap.size w w' ∧ ((∃ c : Int, c ≠ 0 ∧ e = .returned (.tuple #[.agg #[.slice none 0 0, .slice none 0 0], .int .i64 c])) ∨
    (mayL g = true ∧ ∃ (l : List Ti) (EA TA : Option Addr) (ec tc : Nat), foldT [] (toldL g g.rs.length) = some l ∧ l.length ≤ 8000 ∧ e = .returned (.tuple #[.agg #[.slice EA g.es.length ec, .slice TA l.length tc], .int .i64 0]) ∧ Row w' EA (g.es.flatMap evC) ∧ Row w' TA (l.flatMap tiC)))
theorem made_of {w w' : World} {g : Gr} {e : Ending} (h : MkEnd w g e w') : Made w g e w' := by
  refine ⟨h.b, ?_⟩
  cases hm : mayL g with
  | false =>
    refine .inl ⟨_, ?_, h.no hm⟩
    unfold mayL at hm
    rw [decide_eq_false_iff_not] at hm
    omega
  | true =>
    cases hf : foldT [] (toldL g g.rs.length) with
    | none => exact .inl ⟨4, by decide, h.many hm hf⟩
    | some l =>
      obtain ⟨h1, _, v1, v2, he, o1, o2⟩ := h.ok hm l hf
      obtain ⟨EA, ec, rfl⟩ := own_slice o1
      obtain ⟨TA, tc, rfl⟩ := own_slice o2
      exact .inr ⟨rfl, l, EA, TA, ec, tc, rfl, h1, he, Row.of_own o1, Row.of_own o2⟩
theorem back_sz {g : Gr} (hz : SzG g) {ts : List Ti} (hg : ∀ t ∈ ts, Good g.es.length t) (ht : ∀ t ∈ ts, Timed t) (hl : ts.length ≤ 300) (EA RA : Option Addr) (ec rc : Nat) : SzG (bgG g.es ts EA RA ec rc) := by
  have hrs : (bgG g.es ts EA RA ec rc).rs = ts.map (F4.backR g.es) := back_eq hg
  refine ⟨by show 0 * 32 ≤ _; omega, by show (g.es.map F4.bareE).length * 64 ≤ _; rw [List.length_map]; exact hz.es, by rw [hrs, List.length_map]; omega, by show 0 * 56 ≤ _; omega, (fun p hp => by cases hp), fun v hv => ?_, fun r hr => ?_, (fun u hu => by cases hu)⟩
  · obtain ⟨x, hx, rfl⟩ := List.mem_map.1 (show v ∈ g.es.map F4.bareE from hv)
    obtain ⟨h1, _, h3, h4⟩ := hz.ev x hx
    exact ⟨h1, by show (⟨#[]⟩ : ByteArray).size ≤ _; decide, h3, h4⟩
  · rw [hrs] at hr
    obtain ⟨t, hm, rfl⟩ := List.mem_map.1 hr
    obtain ⟨k1, k2, f1, f2, t1, t2⟩ := hg t hm
    obtain ⟨u1, u2⟩ := ht t hm
    have hu : t.time ≤ 1048576 := by
      unfold longL at u2
      split at u2
      · omega
      · split at u2 <;> omega
    have a := (hz.ev g.es[t.fr.toNat]! (by rw [getElem!_pos g.es _ (by omega)]; exact List.getElem_mem _)).1
    have b := (hz.ev g.es[t.to.toNat]! (by rw [getElem!_pos g.es _ (by omega)]; exact List.getElem_mem _)).1
    exact ⟨a, b, WalkArith.wf_i64 (by constructor <;> simp only [F4.backR] <;> omega), WalkArith.wf_i64 (by constructor <;> simp only [F4.backR] <;> omega)⟩
/-- Make of the graph that Back tells. -/
def AgainOf (W : World) (g : Gr) (ts : List Ti) (e : Ending) (w' : World) : Prop := ∃ (EA TA : Option Addr) (ec tc : Nat), e = .returned (.tuple #[.agg #[.slice EA g.es.length ec, .slice TA ts.length tc], .int .i64 0]) ∧ Row w' EA ((g.es.map F4.bareE).flatMap evC) ∧ Row w' TA (ts.flatMap tiC) ∧ Below W.heap.size W w'
theorem again_any (W : World) (g : Gr) (hm : mayL g = true) (hz : SzG g) {ts : List Ti} (hf : foldT [] (toldL g g.rs.length) = some ts) (hl : ts.length ≤ 300) (EA RA : Option Addr) (ec rc : Nat) (he : Row W EA ((g.es.map F4.bareE).flatMap evC)) (hr : Row W RA ((F4.backL g.es ts).flatMap rlC)) :
    Calls Try.prog 17 #[.agg #[.slice none 0 0, .slice EA g.es.length ec, .slice RA (F4.backL g.es ts).length rc, .slice none 0 0]] W (AgainOf W g ts) := by
  obtain ⟨h1, h2⟩ := back_same hm hf hl EA RA ec rc
  have hg := make_good hm hf
  have ht := Timed.fold _ (fun x hx => by cases hx) (told_timed hm) hf
  have M := make_any W (bgG g.es ts EA RA ec rc) ⟨Row.empty _ _, he, hr, Row.empty _ _, (fun u hu => by cases hu)⟩ (back_sz hz hg ht hl EA RA ec rc) (fun u hu => by cases hu)
  have e : (bgG g.es ts EA RA ec rc).es.length = g.es.length := List.length_map _
  rw [e] at M
  refine M.mono fun e' w' hv => ?_
  obtain ⟨_, _, v1, v2, he', o1, o2⟩ := hv.ok h1 ts h2
  rw [e] at o1
  obtain ⟨A1, c1, rfl⟩ := own_slice o1
  obtain ⟨A2, c2, rfl⟩ := own_slice o2
  exact ⟨A1, A2, c1, c2, he', Row.of_own o1, Row.of_own o2, hv.b⟩
set_option maxHeartbeats 1000000 in
theorem neq_ev0 (n r : ByteArray) (i d : Bool) (u : Int) (w : World) : (binOp .neq 46 (.agg #[.string n, .string ⟨#[]⟩, .string r, .bool i, .bool d, .int .i64 u]) (.agg #[.string n, .string ⟨#[]⟩, .string r, .bool i, .bool d, .int .i64 u])).run Try.prog w = .ok (.bool false) w := by
  have u0 := Try.underlying3
  have a0 := Try.isAgg3
  have z0 := Try.sizeOf3
  have u1 := Try.underlying4
  have a1 := Try.isAgg4
  have z1 := Try.sizeOf4
  have u2 := Try.underlying9
  have a2 := Try.isAgg9
  have z2 := Try.sizeOf9
  have hS : Try.prog.underlying 46 = some (.struct (Try.prog.fieldsOf 46)) := by kernel_rfl
  have hp : Try.prog.stoodInHeld 46 = false := by kernel_rfl
  rw [run_neq_struct, show (10000 : Nat) = 9999 + 1 from rfl, run_equalIn_agg w 9999 46 _ _ hS hp]
  simp only [Program.fieldsOf, Try.underlying46]
  go_simp
/-- What own answers. -/
def OwnOf (ts : List Ti) (w : World) (e : Ending) (w' : World) : Prop := ∃ v, e = .returned v ∧ w'.ownsRow w.heap.size 101 4 v ts.length (ts.flatMap tiC) ∧ Below w.heap.size w w'
/-- What stands as it did behind the second Make. -/
structure QA (w : World) (F H : Nat) (EA TA EB TB : Option Addr) (ec tc ed td : Nat) (es : List Ev) (ts : List Ti) (W : World) : Prop where
  b : Below w.heap.size w W
  f : W.heap[F]? = some (.cells #[.slice EA es.length ec, .slice TA ts.length tc] 32 (0, 0))
  h : W.heap[H]? = some (.cells #[.slice EB es.length ed, .slice TB ts.length td] 32 (0, 0))
  e1 : Row W EA (es.flatMap evC)
  t1 : Row W TA (ts.flatMap tiC)
  e2 : Row W EB ((es.map F4.bareE).flatMap evC)
  t2 : Row W TB (ts.flatMap tiC)
section
variable {w W W' : World} {F H ec tc ed td : Nat} {EA TA EB TB : Option Addr} {es : List Ev} {ts : List Ti}
theorem qa_call (hb : Below W.heap.size W W') (h : QA w F H EA TA EB TB ec tc ed td es ts W) : QA w F H EA TA EB TB ec tc ed td es ts W' :=
  ⟨h.b.trans (hb.mono h.b.size), blk_call h.f hb, blk_call h.h hb, h.e1.below (Nat.le_refl _) hb, h.t1.below (Nat.le_refl _) hb, h.e2.below (Nat.le_refl _) hb, h.t2.below (Nat.le_refl _) hb⟩
theorem qa_drew (h : QA w F H EA TA EB TB ec tc ed td es ts W) : QA w F H EA TA EB TB ec tc ed td es ts W.drew := qa_call (show Below W.heap.size W W.drew from ⟨rfl, rfl, rfl, Nat.le_refl _, fun _ _ => rfl⟩) h
theorem qa_drews (n : Nat) (h : QA w F H EA TA EB TB ec tc ed td es ts W) : QA w F H EA TA EB TB ec tc ed td es ts (W.drewN n) := qa_call (show Below W.heap.size W (W.drewN n) from ⟨rfl, rfl, rfl, Nat.le_refl _, fun _ _ => rfl⟩) h
theorem qa_alloc (o : Obj) (h : QA w F H EA TA EB TB ec tc ed td es ts W) : QA w F H EA TA EB TB ec tc ed td es ts (W.alloc o) := qa_call ((Below.refl _ _).alloc (Nat.le_refl _) _) h
theorem qa_all (h : QA w F H EA TA EB TB ec tc ed td es ts W) : QA w F H EA TA EB TB ec tc ed td es ts W ∧ W.cell? ⟨F, 0, none⟩ = some (.slice EA es.length ec) ∧ W.cell? ⟨F, 1, none⟩ = some (.slice TA ts.length tc) ∧ W.cell? ⟨H, 0, none⟩ = some (.slice EB es.length ed) ∧ W.cell? ⟨H, 1, none⟩ = some (.slice TB ts.length td) :=
  ⟨h, cell_blk h.f rfl, cell_blk h.f rfl, cell_blk h.h rfl, cell_blk h.h rfl⟩
theorem QA.ltF (h : QA w F H EA TA EB TB ec tc ed td es ts W) : F < W.heap.size := (Array.getElem?_eq_some_iff.1 h.f).1
theorem QA.ltH (h : QA w F H EA TA EB TB ec tc ed td es ts W) : H < W.heap.size := (Array.getElem?_eq_some_iff.1 h.h).1
end
set_option maxRecDepth 100000 in
set_option maxHeartbeats 8000000 in
theorem walk (w : World) (g : Gr) (hI : InG w g) (hz : SzG g) (hcap : ∀ u ∈ g.us, u.roles.length ≤ u.rc) :
    Calls Try.prog 4 #[.agg #[.slice g.ga g.gs.length g.gc, .slice g.ea g.es.length g.ec, .slice g.ra g.rs.length g.rc, .slice g.ua g.us.length g.uc]] w fun e w' => e = .returned (.bool true) ∧ Below w.heap.size w w' := by
  obtain ⟨gr, hgr⟩ : ∃ gr, gr = #[Value.slice g.ga g.gs.length g.gc, .slice g.ea g.es.length g.ec, .slice g.ra g.rs.length g.rc, .slice g.ua g.us.length g.uc] := ⟨_, rfl⟩
  have hb0 := (Below.refl w.heap.size w).alloc (Nat.le_refl _) (.cells gr 27)
  have hn0 := heap_alloc_new w (.cells gr 27)
  have AWK := Lib.hid (awake_any (w.alloc (.cells gr 27)))
  have HB0 := Lib.hid hb0
  have HN0 := Lib.hid hn0
  have HI := Lib.hid hI
  have HZ := Lib.hid hz
  have HC := Lib.hid hcap
  clear hI hz hcap hb0 hn0
  subst hgr
  go_enter Try.func4, Try.ntmps4
  go_wp2_with fail
  refine AWK.out.mono ?_
  rintro e w1 ⟨rfl, hb⟩
  have HB1 := Lib.hid (HB0.out.trans (hb.mono HB0.out.size))
  have HN1 := Lib.hid (blk_call HN0.out hb)
  clear hb AWK HB0 HN0
  have c0 : w1.cell? ⟨w.heap.size, 0, none⟩ = some (.slice g.ga g.gs.length g.gc) := cell_blk HN1.out rfl
  have c1 : w1.cell? ⟨w.heap.size, 1, none⟩ = some (.slice g.ea g.es.length g.ec) := cell_blk HN1.out rfl
  have c2 : w1.cell? ⟨w.heap.size, 2, none⟩ = some (.slice g.ra g.rs.length g.rc) := cell_blk HN1.out rfl
  have c3 : w1.cell? ⟨w.heap.size, 3, none⟩ = some (.slice g.ua g.us.length g.uc) := cell_blk HN1.out rfl
  have ll := (Array.getElem?_eq_some_iff.1 HN1.out).1
  have S := Lib.hid (small_any w1 g (HI.out.below (Nat.le_refl _) HB1.out) HZ.out)
  go_wp2_with fail
  refine S.out.mono ?_
  rintro e w2 ⟨b, rfl, hs, hb⟩
  have HB2 := Lib.hid (HB1.out.trans (hb.mono HB1.out.size))
  have HN2 := Lib.hid (blk_call HN1.out hb)
  clear hb S HB1 HN1 c0 c1 c2 c3 ll
  cases b with
  | false =>
    clear hs
    go_wp2_with fail
    go_ret
    exact ⟨rfl, HB2.out⟩
  | true =>
    obtain ⟨hsm, hr60, he30⟩ := hs rfl
    have c0 : w2.cell? ⟨w.heap.size, 0, none⟩ = some (.slice g.ga g.gs.length g.gc) := cell_blk HN2.out rfl
    have c1 : w2.cell? ⟨w.heap.size, 1, none⟩ = some (.slice g.ea g.es.length g.ec) := cell_blk HN2.out rfl
    have c2 : w2.cell? ⟨w.heap.size, 2, none⟩ = some (.slice g.ra g.rs.length g.rc) := cell_blk HN2.out rfl
    have c3 : w2.cell? ⟨w.heap.size, 3, none⟩ = some (.slice g.ua g.us.length g.uc) := cell_blk HN2.out rfl
    have ll := (Array.getElem?_eq_some_iff.1 HN2.out).1
    have M := Lib.hid (make_any w2 g (HI.out.below (Nat.le_refl _) HB2.out) HZ.out HC.out)
    clear hs hsm
    go_wp2_with fail
    refine M.out.mono ?_
    intro e w3 hmk
    obtain ⟨hb, hcs⟩ := made_of hmk
    have HB3 := Lib.hid (HB2.out.trans (hb.mono HB2.out.size))
    clear hmk hb HB2 HN2 c0 c1 c2 c3 ll M
    have z3 := HB3.out.size
    rcases hcs with ⟨cd, hcd, rfl⟩ | ⟨hm, ts, EA, TA, ec, tc, hf, hl8, rfl, hre, hrt⟩
    · have t1 : (cd != 0) = true := by rw [bne_iff_ne]; exact hcd
      have HBe := Lib.hid (HB3.out.alloc z3 (.cells #[.slice none 0 0, .slice none 0 0] 32))
      clear hcd
      go_wp2_with fail
      go_ret
      exact ⟨rfl, HBe.out⟩
    · have HBe := Lib.hid (HB3.out.alloc z3 (.cells #[.slice EA g.es.length ec, .slice TA ts.length tc] 32))
      by_cases h300 : (300 : Int) < (ts.length : Int)
      · by_cases h0 : g.es.length = 0
        · have t1 : ((g.es.length : Int) == 0) = true := by rw [beq_iff_eq]; omega
          clear hre hrt h0
          go_wp2_with fail
          go_ret
          exact ⟨rfl, HBe.out⟩
        · have t1 : ((g.es.length : Int) == 0) = false := by rw [beq_eq_false_iff_ne]; omega
          clear hre hrt h0
          go_wp2_with fail
          go_ret
          exact ⟨rfl, HBe.out⟩
      · have H4 := Lib.hid (heap_alloc_new w3 (.cells #[.slice EA g.es.length ec, .slice TA ts.length tc] 32))
        have hb4 : Below w3.heap.size w3 (w3.alloc (.cells #[.slice EA g.es.length ec, .slice TA ts.length tc] 32)) := (Below.refl _ _).alloc (Nat.le_refl _) _
        have HE4 := Lib.hid (hre.below (Nat.le_refl _) hb4)
        have HT4 := Lib.hid (hrt.below (Nat.le_refl _) hb4)
        have HM := Lib.hid hm
        have HFo := Lib.hid hf
        have C := Lib.hid (F4.back_any (w3.alloc (.cells #[.slice EA g.es.length ec, .slice TA ts.length tc] 32)) EA TA ec tc g.es ts HE4.out HT4.out (by omega) (by omega))
        clear hre hrt hb4 hm hf
        go_wp2_with fail
        refine C.out.mono ?_
        rintro e w5 ⟨ve, vr, rfl, oe, os, hb5⟩
        obtain ⟨BA, bc, rfl⟩ := own_slice oe
        obtain ⟨RA, rc, rfl⟩ := own_slice os
        have D := Lib.hid (again_any w5 g HM.out HZ.out HFo.out (by omega) BA RA bc rc (Row.of_own oe) (Row.of_own os))
        have HB5 := Lib.hid (HBe.out.trans (hb5.mono HBe.out.size))
        have H5 := Lib.hid (blk_call H4.out hb5)
        have HE5 := Lib.hid (HE4.out.below (Nat.le_refl _) hb5)
        have HT5 := Lib.hid (HT4.out.below (Nat.le_refl _) hb5)
        clear oe os hb5 C H4 HE4 HT4 HBe
        go_wp2_with fail
        refine D.out.mono ?_
        rintro e w6 ⟨EB, TB, ed, td, rfl, re2, rt2, hb6⟩
        obtain ⟨F, hF⟩ : ∃ F, F = w3.heap.size := ⟨_, rfl⟩
        obtain ⟨H, hH⟩ : ∃ H, H = w6.heap.size := ⟨_, rfl⟩
        have hbx : Below w6.heap.size w6 (w6.alloc (.cells #[.slice EB g.es.length ed, .slice TB ts.length td] 32)) := (Below.refl _ _).alloc (Nat.le_refl _) _
        have K0 : QA w F H EA TA EB TB ec tc ed td g.es ts (w6.alloc (.cells #[.slice EB g.es.length ed, .slice TB ts.length td] 32)) :=
          ⟨(HB5.out.trans (hb6.mono HB5.out.size)).alloc (HB5.out.trans (hb6.mono HB5.out.size)).size _, by rw [hF]; exact blk_old (blk_call H5.out hb6), by rw [hH]; exact heap_alloc_new _ _, (HE5.out.below (Nat.le_refl _) hb6).below (Nat.le_refl _) hbx, (HT5.out.below (Nat.le_refl _) hb6).below (Nat.le_refl _) hbx, re2.below (Nat.le_refl _) hbx, rt2.below (Nat.le_refl _) hbx⟩
        have HK0 := Lib.hid K0
        have HF := Lib.hid hF
        have HH := Lib.hid hH
        clear hF hH hbx K0 re2 rt2 hb6 HB5 H5 HE5 HT5 D
        obtain ⟨W6, hW6⟩ : ∃ W6, W6 = w6.alloc (.cells #[.slice EB g.es.length ed, .slice TB ts.length td] 32) := ⟨_, rfl⟩
        have HW6 := Lib.hid hW6
        rw [← hW6] at HK0
        clear hW6
        have k0 := HK0.out
        have tl : ((g.es.length : Int) != (g.es.length : Int)) = false := by simp
        have hts : ts.length * 32 ≤ 140737488351232 := by omega
        have CO : Hid (∀ W A' c', Row W A' (ts.flatMap tiC) → Calls Try.prog 21 #[.slice A' ts.length c'] W (OwnOf ts W)) := Lib.hid (fun W A' c' h => F4.own4_any W A' c' ts h hts)
        go_wp2_with fail
        rw [← HW6.out, ← HF.out, ← HH.out]
        go_region_held3 (fun W => QA w F H EA TA EB TB ec tc ed td g.es ts W ∧ W.cell? ⟨F, 0, none⟩ = some (.slice EA g.es.length ec) ∧ W.cell? ⟨F, 1, none⟩ = some (.slice TA ts.length tc) ∧ W.cell? ⟨H, 0, none⟩ = some (.slice EB g.es.length ed) ∧ W.cell? ⟨H, 1, none⟩ = some (.slice TB ts.length td))
          (((try go_split_ands); (first | exact qa_all (by with_reducible assumption) | exact qa_all (qa_drew (by with_reducible assumption)) | exact qa_all (qa_call (by with_reducible assumption) (by with_reducible assumption)))))
          (first
            | (go_at_call 21; have _h7 := o7; go_split_ands; refine (CO.out _ _ _ (by first | exact QA.t1 (by with_reducible assumption) | exact QA.t2 (by with_reducible assumption))).mono ?_; rintro e w8 ⟨v8, rfl, o8, hb8⟩; obtain ⟨va8, vc8, rfl⟩ := own_slice o8)
            | (go_at_call 21; go_split_ands; refine (CO.out _ _ _ (by first | exact QA.t2 (by with_reducible assumption) | exact QA.t1 (by with_reducible assumption))).mono ?_; rintro e w7 ⟨v7, rfl, o7, hb7⟩; obtain ⟨va7, vc7, rfl⟩ := own_slice o7)
            | (go_at_call 20; go_split_ands; refine (F4.same4_self va7 va8 vc7 vc8 ts w8 (Row.of_own (own_below o7 hb8)) (Row.of_own o8) hts).mono ?_; rintro e w9 ⟨rfl, hb9⟩))
        have HK9 := Lib.hid (qa_call hb9 (qa_call hb8 (qa_call hb7 (qa_drew HK0.out))))
        clear hb9 hb8 hb7 o7 o8 k0 CO HK0 HW6
        obtain ⟨_, c0, c1, c2, c3⟩ := qa_all HK9.out
        have lF := HK9.out.ltF
        have lH := HK9.out.ltH
        go_wp2_with fail
        clear c0 c1 c2 c3 lF lH
        go_loopw [65] (fun i wr => ∃ k : Nat, k ≤ g.es.length ∧ i = .int .i64 k ∧ Hid (QA w F H EA TA EB TB ec tc ed td g.es ts wr)) (fun i _ => g.es.length - (intOf i).toNat)
        case atStart => exact ⟨0, Nat.zero_le _, rfl, HK9⟩
        case round =>
          clear HK9
          obtain ⟨k, hk, rfl, HK⟩ := hrel
          by_cases hlt : k < g.es.length
          · obtain ⟨b1, off1, rfl, hb1, hc1⟩ := HK.out.e1.at_ (k := 6) (fun _ => rfl) (by omega) hlt
            obtain ⟨b2, off2, rfl, hb2, hc2⟩ := HK.out.e2.at_ (k := 6) (fun _ => rfl) (by omega) (show k < (g.es.map F4.bareE).length by rw [List.length_map]; exact hlt)
            rw [map_at' _ hlt] at hc2
            have k1_0 := hc1 0 _ rfl
            have k1_1 := hc1 1 _ rfl
            have k1_2 := hc1 2 _ rfl
            have k1_3 := hc1 3 _ rfl
            have k1_4 := hc1 4 _ rfl
            have k1_5 := hc1 5 _ rfl
            have k2_0 := hc2 0 _ rfl
            have k2_1 := hc2 1 _ rfl
            have k2_2 := hc2 2 _ rfl
            have k2_3 := hc2 3 _ rfl
            have k2_4 := hc2 4 _ rfl
            have k2_5 := hc2 5 _ rfl
            rw [Nat.add_zero] at k1_0 k2_0
            clear hc1 hc2
            generalize g.es[k]! = x at *
            obtain ⟨xn, xg, xr, xi, xd, xu⟩ := x
            simp only [F4.bareE] at k1_0 k1_1 k1_2 k1_3 k1_4 k1_5 k2_0 k2_1 k2_2 k2_3 k2_4 k2_5
            obtain ⟨_, c0, c1, c2, c3⟩ := qa_all HK.out
            have lF := HK.out.ltF
            have lH := HK.out.ltH
            have hk0 : (0 : Int) ≤ (k : Int) := Int.natCast_nonneg _
            have hk1 : (k : Int) < (g.es.length : Int) := by omega
            have hq := fun W => neq_ev0 xn xr xi xd xu W
            go_wp2_with fail
            go_quiet (fail)
            go_wp2_with fail
            go_roundw
            case rel => exact ⟨k + 1, hlt, by go_num, Lib.hid (qa_drews _ (qa_alloc _ HK.out))⟩
            case measure => simp [intOf]; omega
          · go_wp2_with fail
            go_ret
            exact ⟨rfl, HK.out.b⟩

theorem own : ownKnob Try.prog.godebug = none := by kernel_rfl
set_option maxRecDepth 100000 in
theorem lifted (os : Os) (started : os.Started) (H : Type) (enc : TypeId × Value → H) :
    ReturnsInHanded {} Try.checked os 4 .any (Rows.flatAgainSpec.pre6 enc Try.prog Try.f4 Rows.flatAgainRow.domain false) (Rows.flatAgainSpec.post enc Try.prog Try.f4 false true false false) := by
  refine returnsInHanded_of_change_sized (C := Try.checked) own started (by kernel_rfl) Try.func4
    (ChangeSpec.witness6 (enc := enc) (C := Try.checked) false ⟨#[], #[.agg #[.slice none 0 0, .slice none 0 0, .slice none 0 0, .slice none 0 0]], []⟩ 8 (by kernel_rfl) (by kernel_rfl) (by kernel_rfl) (by kernel_rfl)) ?_
  intro W base args ds gs before hval0 hW _ hsz0 _
  have hsz : (DataW.weightsEach Try.prog (Try.f4.params.toList ++ Rows.flatAgainSpec.plain.varTypes Try.prog) (ds ++ gs)).all (· ≤ reachBytes) = true := hsz0
  have hval : ∀ (j : Nat) t v, Try.f4.params[j]? = some t → args[j]? = some v → Value.okWide Try.prog W .any base t v := hval0
  have hW' := hW
  obtain ⟨p, q, hA0, hV, rfl, _, _⟩ := hW
  have hA : DataW.TrodAll enc Try.prog W 0 (fun _ => true) true Try.f4.params.toList args.toList ds p := hA0
  rw [Try.params4] at hA hval hsz
  obtain ⟨v0, vs0, d0, ds0, p0, q0, hargs, rfl, rfl, h0, r0⟩ := trodAll_cons hA
  obtain ⟨rfl, rfl, rfl⟩ := trodAll_nil r0
  obtain rfl : args = #[v0] := by cases args; simp_all
  obtain ⟨rfl, rfl⟩ := trodVars_none hV
  have hw0 : Wt Try.prog 27 d0 := Wt.of hsz (j := 0) rfl rfl
  obtain ⟨g0, rfl, hI0, hz0, hcap0, hnil0, _⟩ := open_graph (hval 0 _ v0 rfl rfl) h0 hw0
  clear hA0 hval0 hsz0
  simp only [List.append_nil] at hW'
  have hlt0 := fun x hx => hW'.lt x hx
  refine (walk W g0 hI0 hz0 hcap0).mono fun e W' ⟨he2, hg⟩ => ?_
  subst he2
  have hargs := (trodAll_cons_mk (Below.trod progLaid (by kernel_rfl) (of_decide_eq_true (by kernel_rfl)) h0 hg (fun x hx => hlt0 x (hx))) (trodAll_mk0 (enc := enc) (P := Try.prog) (w := W')))
  simp only [List.append_nil] at hargs
  exact ⟨_, rfl, _, _, _, [], p0, [], hW', trodAll_cons_mk (shut_bool Try.underlying4 _) trodAll_mk0, hargs, rfl, hg.frame _, fun h => by cases h⟩

theorem proved : Rows.FlatAgainSaid :=
  OpenClaim.holds_of_wide 4 Try.f4 rfl rfl rfl rfl rfl rfl rfl ⟨rfl, rfl, rfl, rfl, rfl⟩ rfl rfl rfl rfl rfl (by kernel_rfl) Try.func4 (by kernel_rfl)
    (of_decide_eq_true (by kernel_rfl)) (by unfold Func.isWrapper; first | (rw [if_pos (by decide +kernel)]; kernel_rfl) | (rw [if_neg (by decide +kernel)]; exact ⟨rfl, rfl⟩))
    (fun os started H enc _ => lifted os started H enc)
end Go.Proofs.Ytplplkchibefjaa.P4.Again
