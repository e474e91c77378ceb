/-
  FlatHolds answers true, whatever graph it is given.
-/
import Derived.Test.YtplplkchibefjaaRows
import Derived.Test.YtplplkchibefjaaF4v
import Derived.Test.YtplplkchibefjaaF4s
import Derived.Test.YtplplkchibefjaaDocC
import Derived.Test.YtplplkchibefjaaGrOq
import Derived.StillTailTactics
import Derived.Maps.RangeWalk
import Derived.ProofKit
import Derived.OpenShut
import Derived.Carry
namespace Go.Proofs.Ytplplkchibefjaa.P4.Holds
open Go.RowKit Go.Shelf Go.Deep Go.Joins Go.ChangeShapes Go.WideShapes Go.Proofs.Ytplplkchibefjaa.P4

/-- What Make answers: an error and nothing, or a flat graph. -/
def Made (w : World) (g : Gr) (e : Ending) (w' : World) : Prop :=
  Below w.heap.size w w' ∧ ((∃ c : Int, c ≠ 0 ∧ e = .returned (.tuple #[.agg #[.slice none 0 0, .slice none 0 0], .int .i64 c])) ∨
    (mayL g = true ∧ ∃ (l : List Ti) (EA TA : Option Addr) (ec tc : Nat), foldT [] (toldL g g.rs.length) = some l ∧ l.length ≤ 8000 ∧ (∀ t ∈ l, OkT t) ∧ e = .returned (.tuple #[.agg #[.slice EA g.es.length ec, .slice TA l.length tc], .int .i64 0]) ∧ Row w' TA (l.flatMap tiC)))
theorem made_of {w w' : World} {g : Gr} {e : Ending} (h : MkEnd w g e w') : Made w g e w' := by
  refine ⟨h.b, ?_⟩
  cases hm : mayL g with
  | false =>
    refine .inl ⟨_, ?_, h.no hm⟩
    unfold mayL at hm
    rw [decide_eq_false_iff_not] at hm
    omega
  | true =>
    cases hf : foldT [] (toldL g g.rs.length) with
    | none => exact .inl ⟨4, by decide, h.many hm hf⟩
    | some l =>
      obtain ⟨h1, hok, v1, v2, he, o1, o2⟩ := h.ok hm l hf
      obtain ⟨EA, ec, rfl⟩ := own_slice o1
      obtain ⟨TA, tc, rfl⟩ := own_slice o2
      exact .inr ⟨rfl, l, EA, TA, ec, tc, rfl, h1, hok, he, Row.of_own o2⟩
theorem told_okT {g : Gr} (hz : SzG g) (h30 : g.es.length ≤ 30) : ∀ t ∈ toldL g g.rs.length, OkT t := told_ok hz (by omega)
theorem miss_at {ts : List Ti} {k : Nat} (hk : k < ts.length) (hok : ∀ t ∈ ts, OkT t) (hn : (ts.map tkey).Nodup) : fT (ts.take k) (tlit (tkey ts[k]!)) = none := by
  have hm : ts[k]! ∈ ts := by rw [getElem!_pos ts k hk]; exact List.getElem_mem _
  refine fT_miss (hok _ hm) _ (fun t ht => ⟨hok t (List.mem_of_mem_take ht), fun e => ?_⟩)
  obtain ⟨j, hj, rfl⟩ := List.getElem_of_mem ht
  rw [List.length_take] at hj
  rw [List.getElem_take, getElem!_pos ts k hk] at e
  have := (List.pairwise_iff_getElem.1 hn) j k (by rw [List.length_map]; omega) (by rw [List.length_map]; exact hk) (by omega)
  rw [List.getElem_map, List.getElem_map] at this
  exact this e
set_option maxRecDepth 100000 in
set_option maxHeartbeats 8000000 in
theorem walk (w : World) (g : Gr) (hI : InG w g) (hz : SzG g) (hcap : ∀ u ∈ g.us, u.roles.length ≤ u.rc) :
    Calls Try.prog 5 #[.agg #[.slice g.ga g.gs.length g.gc, .slice g.ea g.es.length g.ec, .slice g.ra g.rs.length g.rc, .slice g.ua g.us.length g.uc]] w fun e w' => e = .returned (.bool true) ∧ Below w.heap.size w w' := by
  obtain ⟨gr, hgr⟩ : ∃ gr, gr = #[Value.slice g.ga g.gs.length g.gc, .slice g.ea g.es.length g.ec, .slice g.ra g.rs.length g.rc, .slice g.ua g.us.length g.uc] := ⟨_, rfl⟩
  have hb0 := (Below.refl w.heap.size w).alloc (Nat.le_refl _) (.cells gr 27)
  have hn0 := heap_alloc_new w (.cells gr 27)
  have AWK := Lib.hid (awake_any (w.alloc (.cells gr 27)))
  have HB0 := Lib.hid hb0
  have HN0 := Lib.hid hn0
  have HI := Lib.hid hI
  have HZ := Lib.hid hz
  have HC := Lib.hid hcap
  clear hI hz hcap hb0 hn0
  subst hgr
  go_enter Try.func5, Try.ntmps5
  go_wp2_with fail
  refine AWK.out.mono ?_
  rintro e w1 ⟨rfl, hb⟩
  have HB1 := Lib.hid (HB0.out.trans (hb.mono HB0.out.size))
  have HN1 := Lib.hid (blk_call HN0.out hb)
  clear hb AWK HB0 HN0
  have c0 : w1.cell? ⟨w.heap.size, 0, none⟩ = some (.slice g.ga g.gs.length g.gc) := cell_blk HN1.out rfl
  have c1 : w1.cell? ⟨w.heap.size, 1, none⟩ = some (.slice g.ea g.es.length g.ec) := cell_blk HN1.out rfl
  have c2 : w1.cell? ⟨w.heap.size, 2, none⟩ = some (.slice g.ra g.rs.length g.rc) := cell_blk HN1.out rfl
  have c3 : w1.cell? ⟨w.heap.size, 3, none⟩ = some (.slice g.ua g.us.length g.uc) := cell_blk HN1.out rfl
  have ll := (Array.getElem?_eq_some_iff.1 HN1.out).1
  have S := Lib.hid (small_any w1 g (HI.out.below (Nat.le_refl _) HB1.out) HZ.out)
  go_wp2_with fail
  refine S.out.mono ?_
  rintro e w2 ⟨b, rfl, hs, hb⟩
  have HB2 := Lib.hid (HB1.out.trans (hb.mono HB1.out.size))
  have HN2 := Lib.hid (blk_call HN1.out hb)
  clear hb S HB1 HN1 c0 c1 c2 c3 ll
  cases b with
  | false =>
    clear hs
    go_wp2_with fail
    go_ret
    exact ⟨rfl, HB2.out⟩
  | true =>
    obtain ⟨hsm, hr60, he30⟩ := hs rfl
    have c0 : w2.cell? ⟨w.heap.size, 0, none⟩ = some (.slice g.ga g.gs.length g.gc) := cell_blk HN2.out rfl
    have c1 : w2.cell? ⟨w.heap.size, 1, none⟩ = some (.slice g.ea g.es.length g.ec) := cell_blk HN2.out rfl
    have c2 : w2.cell? ⟨w.heap.size, 2, none⟩ = some (.slice g.ra g.rs.length g.rc) := cell_blk HN2.out rfl
    have c3 : w2.cell? ⟨w.heap.size, 3, none⟩ = some (.slice g.ua g.us.length g.uc) := cell_blk HN2.out rfl
    have ll := (Array.getElem?_eq_some_iff.1 HN2.out).1
    have M := Lib.hid (make_any w2 g (HI.out.below (Nat.le_refl _) HB2.out) HZ.out HC.out)
    clear hs hsm
    go_wp2_with fail
    refine M.out.mono ?_
    intro e w3 hmk
    obtain ⟨hb, hcs⟩ := made_of hmk
    have HB3 := Lib.hid (HB2.out.trans (hb.mono HB2.out.size))
    have HN3 := Lib.hid (blk_call HN2.out hb)
    clear hmk hb HB2 HN2 c0 c1 c2 c3 ll M
    have z3 := HB3.out.size
    rcases hcs with ⟨cd, hcd, rfl⟩ | ⟨hm, ts, EA, TA, ec, tc, hf, hl8, hok, rfl, hrt⟩
    · have t1 : (cd != 0) = true := by rw [bne_iff_ne]; exact hcd
      have HBe := Lib.hid (HB3.out.alloc z3 (.cells #[.slice none 0 0, .slice none 0 0] 32))
      clear hcd
      go_wp2_with fail
      go_ret
      exact ⟨rfl, HBe.out⟩
    · have hn : (ts.map tkey).Nodup := nodup_fold _ (by simp) hf
      have hst := (strict_fold _ hf).2
      have htd := told_fold (pre := []) _ (fun x hx => by cases hx) hf
      rw [List.nil_append] at htd
      have HOk := Lib.hid hok
      have HNd := Lib.hid hn
      have HSt := Lib.hid hst
      have HTd := Lib.hid htd
      have HTo := Lib.hid (told_okT HZ.out he30)
      have HUl := fun k a b => Lib.hid (U3_len he30 hr60 k a b)
      obtain ⟨Wb, hWb⟩ : ∃ Wb, Wb = w3.alloc (.cells #[.slice EA g.es.length ec, .slice TA ts.length tc] 32) := ⟨_, rfl⟩
      have hbb : Below w3.heap.size w3 Wb := by rw [hWb]; exact (Below.refl _ _).alloc (Nat.le_refl _) _
      have HBb := Lib.hid (HB3.out.trans (hbb.mono z3))
      have HNb := Lib.hid (blk_call HN3.out hbb)
      have HFb : Hid (Wb.heap[w3.heap.size]? = some (.cells #[.slice EA g.es.length ec, .slice TA ts.length tc] 32 (0, 0))) := Lib.hid (by rw [hWb]; exact heap_alloc_new _ _)
      have HTb := Lib.hid (hrt.below (Nat.le_refl _) hbb)
      have hFl : w3.heap.size < Wb.heap.size := (Array.getElem?_eq_some_iff.1 HFb.out).1
      have hGl : w.heap.size < Wb.heap.size := (Array.getElem?_eq_some_iff.1 HNb.out).1
      obtain ⟨F, hF⟩ : ∃ F, F = w3.heap.size := ⟨_, rfl⟩
      have HFe := Lib.hid hF
      have HWb := Lib.hid hWb
      have HSz : Hid (Wb.heap.size = F + 1) := Lib.hid (by rw [hWb, hF, World.size_alloc])
      rw [← hF] at HFb hFl
      have A0 := Lib.hid (HA.start Wb ts)
      have f1 : Wb.cell? ⟨F, 1, none⟩ = some (.slice TA ts.length tc) := cell_blk HFb.out rfl
      clear hF hWb hbb hok hn hst htd hf hrt hm HB3 HN3 z3
      have hmm := @run_makeMap Try.prog
      go_wp2_with fail
      rw [← HWb.out, ← HFe.out]
      go_wp2_with fail
      go_loopw [42] (fun i wr => ∃ k : Nat, k ≤ ts.length ∧ i = .int .i64 k ∧ Hid (HA Wb ts k wr)) (fun i _ => ts.length - (intOf i).toNat)
      case atStart => exact ⟨0, Nat.zero_le _, rfl, A0⟩
      case round =>
        clear A0 f1
        obtain ⟨k, hk, rfl, HA1⟩ := hrel
        by_cases hlt : k < ts.length
        · obtain ⟨b, off, rfl, hb, hc⟩ := HTb.out.at_ (k := 4) (fun _ => rfl) (by omega) hlt
          have k0 := hc 0 _ rfl
          have k1 := hc 1 _ rfl
          have k2 := hc 2 _ rfl
          have k3 := hc 3 _ rfl
          rw [Nat.add_zero] at k0
          rw [← HA1.out.o.cell (p := ⟨b, _, none⟩) hb] at k0 k1 k2 k3
          have hk0 : (0 : Int) ≤ (k : Int) := Int.natCast_nonneg _
          have hk1 : (k : Int) < (ts.length : Int) := by omega
          have hzw := HA1.out.o.size
          have hbz : b < wr.heap.size := by omega
          have hx : OkT ts[k]! := HOk.out _ (by rw [getElem!_pos ts k hlt]; exact List.getElem_mem _)
          have hA2 := (HA1.out.alloc (.cells #[.int .i64 ts[k]!.kind, .int .i64 ts[k]!.fr, .int .i64 ts[k]!.to, .int .i64 ts[k]!.time] 49)).alloc (.cells #[.int .i64 ts[k]!.kind, .int .i64 ts[k]!.fr, .int .i64 ts[k]!.to, .int .i64 0] 49)
          have hL := hA2.look hx
          rw [miss_at hlt HOk.out HNd.out] at hL
          simp only [Option.getD_none, Option.isSome_none] at hL
          obtain ⟨w5, hU, hA5⟩ := hA2.next hlt hl8 hx
          rw [HSz.out] at hL hU
          have HA5 := Lib.hid hA5
          clear hc hA2 hx hA5
          generalize ts[k]! = x at *
          obtain ⟨xk, xf, xt, xm⟩ := x
          simp only at k0 k1 k2 k3 hL hU
          go_wp2_with fail
          go_roundw
          case rel => exact ⟨k + 1, hlt, by go_num, HA5⟩
          case measure => simp [intOf]; omega
        · obtain rfl : k = ts.length := by omega
          obtain ⟨cm, _, hmt⟩ := HA1.out.m
          rw [List.take_length, HSz.out] at hmt
          obtain ⟨Wc, hWc⟩ : ∃ Wc : World, Wc = wr := ⟨_, rfl⟩
          have HBc := Lib.hid (HBb.out.trans (HA1.out.o.mono (Nat.le_of_lt hGl)))
          have HNc : Hid (wr.heap[w.heap.size]? = _) := Lib.hid ((HA1.out.o.block _ hGl).trans HNb.out)
          rw [← hWc] at HBc HNc hmt ⊢
          have HMt := Lib.hid hmt
          clear hmt hWc HA1 HBb HNb HFb HTb hFl hGl HWb HFe HSz
          obtain ⟨ra, hra⟩ : ∃ ra, g.ra = ra := ⟨_, rfl⟩
          have hrow : Row w ra (g.rs.flatMap rlC) := by rw [← hra]; exact HI.out.rs
          have HRow := Lib.hid hrow
          rw [hra] at HNc
          have HRa := Lib.hid hra
          have cG : Wc.cell? ⟨w.heap.size, 2, none⟩ = some (.slice ra g.rs.length g.rc) := cell_blk HNc.out rfl
          have lG := (Array.getElem?_eq_some_iff.1 HNc.out).1
          have B0 := Lib.hid (HB.start Wc ts)
          have BZ := HBc.out.size
          clear hrow hra
          go_wp2_with fail
          go_loopw [69] (fun i wr => ∃ k : Nat, k ≤ g.rs.length ∧ i = .int .i64 k ∧ Hid (HB Wc ts (toldL g k) wr)) (fun i _ => g.rs.length - (intOf i).toNat)
          case atStart => exact ⟨0, Nat.zero_le _, rfl, B0⟩
          case round =>
            clear B0 cG
            obtain ⟨k, hk, rfl, HK⟩ := hrel
            by_cases hlt : k < g.rs.length
            · obtain ⟨b, off, rfl, hb, hc⟩ := HRow.out.at_ (k := 4) (fun _ => rfl) (by omega) hlt
              have k0 := hc 0 _ rfl
              have k1 := hc 1 _ rfl
              have k2 := hc 2 _ rfl
              have k3 := hc 3 _ rfl
              rw [Nat.add_zero] at k0
              have hO := HBc.out.trans (HK.out.o.mono BZ)
              rw [← hO.cell (p := ⟨b, _, none⟩) hb] at k0 k1 k2 k3
              have hk0 : (0 : Int) ≤ (k : Int) := Int.natCast_nonneg _
              have hk1 : (k : Int) < (g.rs.length : Int) := by omega
              have hzw := hO.size
              have hbz : b < wr.heap.size := by omega
              have E2z := Lib.hid (U2_zero g k)
              have E2a := Lib.hid (U2_all hlt)
              have E3z := fun a => Lib.hid (U3_zero g k a)
              have E3a := fun a h => Lib.hid (U3_all (g := g) (k := k) (a := a) h)
              have E3n := fun a b h => Lib.hid (U3_next (g := g) (k := k) (a := a) (b := b) h)
              have EMem := fun a b ha hb => Lib.hid (U_mem (g := g) (k := k) (a := a) (b := b) hlt ha hb)
              have LA : (memL g g.rs[k]!.src).length ≤ 31 := by have := memL_len g g.rs[k]!.src; omega
              have LB : (memL g g.rs[k]!.dst).length ≤ 31 := by have := memL_len g g.rs[k]!.dst; omega
              have CM := fun W s (hW : Below w.heap.size w W) => rmembers_any W g s (HI.out.below (Nat.le_refl _) hW) HZ.out
              rw [HRa.out] at CM
              have hx1 : Below wr.heap.size wr (wr.alloc (.cells #[.int .i64 g.rs[k]!.kind, .string g.rs[k]!.src, .string g.rs[k]!.dst, .int .i64 g.rs[k]!.time] 53)) := (Below.refl _ _).alloc (Nat.le_refl _) _
              have C1 := Lib.hid (CM _ g.rs[k]!.src (hO.trans (hx1.mono hzw)))
              have C2 := fun W hW => Lib.hid (CM W g.rs[k]!.dst hW)
              have HK1 := Lib.hid (HK.out.alloc (.cells #[.int .i64 g.rs[k]!.kind, .string g.rs[k]!.src, .string g.rs[k]!.dst, .int .i64 g.rs[k]!.time] 53))
              have HX1 := Lib.hid (heap_alloc_new wr (.cells #[.int .i64 g.rs[k]!.kind, .string g.rs[k]!.src, .string g.rs[k]!.dst, .int .i64 g.rs[k]!.time] 53))
              have g0 : wr.cell? ⟨w.heap.size, 0, none⟩ = some (.slice g.ga g.gs.length g.gc) := (HK.out.o.cell (p := ⟨w.heap.size, 0, none⟩) lG).trans (cell_blk HNc.out rfl)
              have g1 : wr.cell? ⟨w.heap.size, 1, none⟩ = some (.slice g.ea g.es.length g.ec) := (HK.out.o.cell (p := ⟨w.heap.size, 1, none⟩) lG).trans (cell_blk HNc.out rfl)
              have g2 : wr.cell? ⟨w.heap.size, 2, none⟩ = some (.slice (some ⟨b, off, none⟩) g.rs.length g.rc) := (HK.out.o.cell (p := ⟨w.heap.size, 2, none⟩) lG).trans (cell_blk HNc.out rfl)
              have g3 : wr.cell? ⟨w.heap.size, 3, none⟩ = some (.slice g.ua g.us.length g.uc) := (HK.out.o.cell (p := ⟨w.heap.size, 3, none⟩) lG).trans (cell_blk HNc.out rfl)
              have lG2 : w.heap.size < wr.heap.size := Nat.lt_of_lt_of_le lG HK.out.o.size
              clear hc CM hx1 hO HK
              rw [← E2z.out] at HK1
              generalize memL g g.rs[k]!.src = A at *
              generalize memL g g.rs[k]!.dst = B at *
              generalize g.rs[k]! = x at *
              go_wp2_with fail
              refine C1.out.mono ?_
              rintro e w6 ⟨va, rfl, oa, hb6⟩
              obtain ⟨PA, ca, rfl⟩ := own_slice oa
              have hs1 : wr.heap.size < (wr.alloc (.cells #[.int .i64 x.kind, .string x.src, .string x.dst, .int .i64 x.time] 53)).heap.size := by rw [World.size_alloc]; omega
              have HD6 : Hid (HD w Wc ts (U2 g k 0) wr.heap.size x (.slice PA A.length ca) A w6) := Lib.hid ⟨HK1.out.call hb6, blk_call HX1.out hb6, own_base oa (by omega)⟩
              obtain ⟨R, hR⟩ : ∃ R, R = wr.heap.size := ⟨_, rfl⟩
              have HRe := Lib.hid hR
              rw [← hR] at HD6
              clear hR oa hb6 HK1 HX1 C1 g0 g1 g2 g3 k0 k1 k2 k3 hbz hs1 lG2
              go_wp2_with fail
              rw [← HRe.out]
              obtain ⟨wo, rfl⟩ : ∃ wo : World, wo = wr := ⟨_, rfl⟩
              go_loopw [78] (fun i wr => ∃ a : Nat, a ≤ A.length ∧ i = .int .i64 a ∧ Hid (HD w Wc ts (U2 g k a) R x (.slice PA A.length ca) A wr)) (fun i _ => A.length - (intOf i).toNat)
              case atStart => exact ⟨0, Nat.zero_le _, rfl, HD6⟩
              case round =>
                clear HD6
                obtain ⟨a, ha, rfl, HD1⟩ := hrel
                by_cases hlt2 : a < A.length
                · have ha0 : (0 : Int) ≤ (a : Int) := Int.natCast_nonneg _
                  have ha1 : (a : Int) < (A.length : Int) := by omega
                  obtain ⟨ga, _, e1, _, hgal⟩ := Go.Proofs.Ytplplkchibefjaa.B.own_head HD1.out.p (by omega)
                  injection e1 with e1 _ e1c
                  subst e1 e1c
                  have pa := place_at HD1.out.p rfl hlt2
                  obtain ⟨ia, hia⟩ : ∃ ia, A[a]! = ia := ⟨_, rfl⟩
                  rw [hia] at pa
                  have HIA := Lib.hid hia
                  clear hia
                  obtain ⟨x0, x1, x2, x3, xl⟩ := HD1.out.cells
                  have hO := HBc.out.trans (HD1.out.h.o.mono BZ)
                  have g0 : wr.cell? ⟨w.heap.size, 0, none⟩ = some (.slice g.ga g.gs.length g.gc) := (HD1.out.h.o.cell (p := ⟨w.heap.size, 0, none⟩) lG).trans (cell_blk HNc.out rfl)
                  have g1 : wr.cell? ⟨w.heap.size, 1, none⟩ = some (.slice g.ea g.es.length g.ec) := (HD1.out.h.o.cell (p := ⟨w.heap.size, 1, none⟩) lG).trans (cell_blk HNc.out rfl)
                  have g2 : wr.cell? ⟨w.heap.size, 2, none⟩ = some (.slice (some ⟨b, off, none⟩) g.rs.length g.rc) := (HD1.out.h.o.cell (p := ⟨w.heap.size, 2, none⟩) lG).trans (cell_blk HNc.out rfl)
                  have g3 : wr.cell? ⟨w.heap.size, 3, none⟩ = some (.slice g.ua g.us.length g.uc) := (HD1.out.h.o.cell (p := ⟨w.heap.size, 3, none⟩) lG).trans (cell_blk HNc.out rfl)
                  have lG2 : w.heap.size < wr.heap.size := Nat.lt_of_lt_of_le lG HD1.out.h.o.size
                  have D := C2 wr hO
                  go_wp2_with fail
                  refine D.out.mono ?_
                  rintro e w7 ⟨vb, rfl, ob, hb7⟩
                  obtain ⟨PB, cb, rfl⟩ := own_slice ob
                  have HD7 := Lib.hid (HD1.out.call hb7)
                  have HQ7 := Lib.hid (own_base ob hO.size)
                  rw [← (E3z a).out] at HD7
                  clear ob hb7 D HD1 g0 g1 g2 g3 x0 x1 x2 x3 xl pa lG2 hO hgal
                  go_wp2_with fail
                  obtain ⟨wo2, rfl⟩ : ∃ wo2 : World, wo2 = wr := ⟨_, rfl⟩
                  go_loopw [87] (fun i wr => ∃ b2 : Nat, b2 ≤ B.length ∧ i = .int .i64 b2 ∧ Hid (HD w Wc ts (U3 g k a b2) R x (.slice (some ⟨ga, 0, none⟩) A.length ca) A wr) ∧ Hid (wr.ownsRow w.heap.size 3 1 (.slice PB B.length cb) B.length (intC B))) (fun i _ => B.length - (intOf i).toNat)
                  case atStart => exact ⟨0, Nat.zero_le _, rfl, HD7, HQ7⟩
                  case round =>
                    clear HD7 HQ7
                    obtain ⟨b2, hb2, rfl, HD1, HQ⟩ := hrel
                    by_cases hlt3 : b2 < B.length
                    · have hb0 : (0 : Int) ≤ (b2 : Int) := Int.natCast_nonneg _
                      have hb1 : (b2 : Int) < (B.length : Int) := by omega
                      obtain ⟨gb, _, e2, _, hgbl⟩ := Go.Proofs.Ytplplkchibefjaa.B.own_head HQ.out (by omega)
                      injection e2 with e2 _ e2c
                      subst e2 e2c
                      have pb := place_at HQ.out rfl hlt3
                      obtain ⟨ib, hib⟩ : ∃ ib, B[b2]! = ib := ⟨_, rfl⟩
                      rw [hib] at pb
                      have HIB := Lib.hid hib
                      clear hib
                      obtain ⟨x0, x1, x2, x3, xl⟩ := HD1.out.cells
                      have hmem := (EMem a b2 hlt2 hlt3).out
                      have E3' := E3n a b2 hlt3
                      rw [HIA.out, HIB.out] at hmem E3'
                      have hy := HTo.out _ hmem
                      obtain ⟨t, ht, hkt, hs1, hs2⟩ := HSt.out _ hmem
                      clear hmem
                      have HD2 := Lib.hid (HD1.out.alloc (.cells #[.int .i64 x.kind, .int .i64 (ia : Int), .int .i64 (ib : Int), .int .i64 0] 49))
                      have HQ2 := Lib.hid (own_below HQ.out ((Below.refl wr.heap.size wr).alloc (Nat.le_refl _) (.cells #[.int .i64 x.kind, .int .i64 (ia : Int), .int .i64 (ib : Int), .int .i64 0] 49)))
                      have hL := times_look HMt.out HD2.out.h.o hy HOk.out HNd.out ht hkt
                      have HW2 := Lib.hid HD2.out.drew
                      have HQ3 := Lib.hid (own_below HQ2.out (show Below (wr.alloc (.cells #[.int .i64 x.kind, .int .i64 (ia : Int), .int .i64 (ib : Int), .int .i64 0] 49)).heap.size (wr.alloc (.cells #[.int .i64 x.kind, .int .i64 (ia : Int), .int .i64 (ib : Int), .int .i64 0] 49)) (wr.alloc (.cells #[.int .i64 x.kind, .int .i64 (ia : Int), .int .i64 (ib : Int), .int .i64 0] 49)).drew from ⟨rfl, rfl, rfl, Nat.le_refl _, fun _ _ => rfl⟩))
                      obtain ⟨Wd, hWd⟩ : ∃ Wd : World, Wd = (wr.alloc (.cells #[.int .i64 x.kind, .int .i64 (ia : Int), .int .i64 (ib : Int), .int .i64 0] 49)).drew := ⟨_, rfl⟩
                      have HXd : Hid ((wr.alloc (.cells #[.int .i64 x.kind, .int .i64 (ia : Int), .int .i64 (ib : Int), .int .i64 0] 49)).drew.heap[wr.heap.size]? = some (.cells #[.int .i64 x.kind, .int .i64 (ia : Int), .int .i64 (ib : Int), .int .i64 0] 49 (0, 0))) := Lib.hid (blk_call (heap_alloc_new wr _) (show Below (wr.alloc (.cells #[.int .i64 x.kind, .int .i64 (ia : Int), .int .i64 (ib : Int), .int .i64 0] 49)).heap.size (wr.alloc (.cells #[.int .i64 x.kind, .int .i64 (ia : Int), .int .i64 (ib : Int), .int .i64 0] 49)) (wr.alloc (.cells #[.int .i64 x.kind, .int .i64 (ia : Int), .int .i64 (ib : Int), .int .i64 0] 49)).drew from ⟨rfl, rfl, rfl, Nat.le_refl _, fun _ _ => rfl⟩))
                      rw [← hWd] at HW2 HQ3 HXd
                      obtain ⟨_, _, _, d3, dl⟩ := HW2.out.cells
                      have m0 : Wd.cell? ⟨wr.heap.size, 0, none⟩ = some (.int .i64 x.kind) := cell_blk HXd.out rfl
                      have m1 : Wd.cell? ⟨wr.heap.size, 1, none⟩ = some (.int .i64 (ia : Int)) := cell_blk HXd.out rfl
                      have m2 : Wd.cell? ⟨wr.heap.size, 2, none⟩ = some (.int .i64 (ib : Int)) := cell_blk HXd.out rfl
                      have m3 : Wd.cell? ⟨wr.heap.size, 3, none⟩ = some (.int .i64 0) := cell_blk HXd.out rfl
                      have ml := (Array.getElem?_eq_some_iff.1 HXd.out).1
                      have HWd := Lib.hid hWd
                      have HWe : Hid (({ heap := (wr.alloc (.cells #[.int .i64 x.kind, .int .i64 (ia : Int), .int .i64 (ib : Int), .int .i64 0] 49)).heap, tape := (wr.alloc (.cells #[.int .i64 x.kind, .int .i64 (ia : Int), .int .i64 (ib : Int), .int .i64 0] 49)).tape, drawn := (wr.alloc (.cells #[.int .i64 x.kind, .int .i64 (ia : Int), .int .i64 (ib : Int), .int .i64 0] 49)).drawn + 1, os := (wr.alloc (.cells #[.int .i64 x.kind, .int .i64 (ia : Int), .int .i64 (ib : Int), .int .i64 0] 49)).os, output := (wr.alloc (.cells #[.int .i64 x.kind, .int .i64 (ia : Int), .int .i64 (ib : Int), .int .i64 0] 49)).output } : World) = Wd) := Lib.hid hWd.symm
                      clear hWd
                      have hL2 := HW2.out.h.look hy
                      obtain ⟨w8, hU, hB8, hg8⟩ := HW2.out.h.next (HUl k a b2).out HNd.out hy ht hkt
                      have HD8 := Lib.hid (HW2.out.next hB8 hg8)
                      have HQ8 := Lib.hid (map_kept HQ3.out HW2.out.h hg8)
                      rw [← E3'.out] at HD8
                      clear hB8 hg8 hy ht hkt HD2 HQ2 HW2 HQ3 E3' HD1 HQ HXd
                      obtain ⟨tt, htt⟩ : ∃ tt, t.time = tt := ⟨_, rfl⟩
                      rw [htt] at hL hU hs1 hs2
                      clear htt
                      simp only at hs1 hs2 hL hU hL2
                      have hkinds : ((x.kind == 1) = true ∧ (x.kind == 2) = false ∧ decide (tt < x.time) = false) ∨ ((x.kind == 1) = false ∧ (x.kind == 2) = true ∧ decide (x.time < tt) = false) ∨ ((x.kind == 1) = false ∧ (x.kind == 2) = false ∧ True) := by
                        by_cases q1 : x.kind = 1
                        · have := hs1 q1
                          exact .inl ⟨by rw [q1]; rfl, by rw [q1]; rfl, decide_eq_false (by omega)⟩
                        · by_cases q2 : x.kind = 2
                          · have := hs2 q2
                            exact .inr (.inl ⟨by rw [q2]; rfl, by rw [q2]; rfl, decide_eq_false (by omega)⟩)
                          · exact .inr (.inr ⟨beq_eq_false_iff_ne.2 q1, beq_eq_false_iff_ne.2 q2, trivial⟩)
                      have hdone : (doneB ts (U3 g k a b2) ⟨x.kind, (ia : Nat), (ib : Nat), x.time⟩ = true ∧ True) ∨ (doneB ts (U3 g k a b2) ⟨x.kind, (ia : Nat), (ib : Nat), x.time⟩ = false ∧ ∃ q, (tt == x.time) = q ∧ decide (x.time = tt) = q) := by
                        cases hd : doneB ts (U3 g k a b2) ⟨x.kind, (ia : Nat), (ib : Nat), x.time⟩ with
                        | true => exact .inl ⟨rfl, trivial⟩
                        | false =>
                          refine .inr ⟨rfl, _, rfl, ?_⟩
                          rw [Bool.eq_iff_iff, decide_eq_true_eq, beq_iff_eq]
                          exact ⟨Eq.symm, Eq.symm⟩
                      clear hs1 hs2
                      rcases hdone with ⟨hd, _⟩ | ⟨hd, q, tq, dq⟩
                      · rw [hd] at hL2 hU
                        simp only [Bool.true_or] at hU
                        clear hd
                        rcases hkinds with ⟨t1, t2, t3⟩ | ⟨t1, t2, t3⟩ | ⟨t1, t2, t3⟩
                        all_goals
                          go_wp2_with fail
                          go_still_tail 11, (by kernel_rfl)
                          rw [HWe.out]
                          repeat still_step
                          refine wpStill_nil ?_
                          go_wp2_with fail
                          go_roundw
                          case rel => exact ⟨b2 + 1, hlt3, by go_num, HD8, HQ8⟩
                          case measure => simp [intOf]; omega
                      · rw [hd] at hL2 hU
                        rw [dq] at hU
                        simp only [Bool.false_or] at hU
                        clear hd dq
                        rcases hkinds with ⟨t1, t2, t3⟩ | ⟨t1, t2, t3⟩ | ⟨t1, t2, t3⟩
                        all_goals
                          go_wp2_with fail
                          go_still_tail 11, (by kernel_rfl)
                          rw [HWe.out]
                          repeat still_step
                          refine wpStill_nil ?_
                          go_wp2_with fail
                          go_roundw
                          case rel => exact ⟨b2 + 1, hlt3, by go_num, HD8, HQ8⟩
                          case measure => simp [intOf]; omega
                    · obtain rfl : b2 = B.length := by omega
                      rw [(E3a a hlt2).out] at HD1
                      clear HQ
                      go_wp2_with fail
                      go_roundw
                      case rel => exact ⟨a + 1, hlt2, by go_num, HD1⟩
                      case measure => simp [intOf]; omega
                · obtain rfl : a = A.length := by omega
                  have HK2 := Lib.hid HD1.out.h
                  rw [E2a.out] at HK2
                  clear HD1
                  go_wp2_with fail
                  go_roundw
                  case rel => exact ⟨k + 1, hlt, by go_num, HK2⟩
                  case measure => simp [intOf]; omega
            · obtain rfl : k = g.rs.length := by omega
              obtain ⟨D, hown, hfD⟩ := HMt.out.block (HK.out.o.block (F + 1) HMt.out.lt)
              have HfD := Lib.hid hfD
              obtain ⟨wo, rfl⟩ : ∃ wo : World, wo = wr := ⟨_, rfl⟩
              clear hfD HRow HRa lG HNc HUl HSt HTo
              go_wp2_with (first | (at_range; refine wpList_range_own _ rfl _ 47 rfl 49 3 lawT Try.underlying47 Rv (F + 1) cm D rfl hown ?_; intro w0 hrg0 hg0 hs0))
              go_frame
              have H0 := Lib.hid (HZw.start HK.out hg0 hrg0)
              clear HK hg0 hrg0 hs0 hown
              go_loopw [21] (fun _ wr => ∃ left cnt, Hid (HZw Wc ts (toldL g g.rs.length) D wo.heap.size (F + 1) cm left cnt wr)) (fun _ wr => wr.rangeLeft (F + 1) wo.heap.size)
              case atStart => exact ⟨_, _, H0⟩
              case round =>
                clear H0
                obtain ⟨left, cnt, HR1⟩ := hrel
                have hrg := HR1.out.rg
                have HBx := Lib.hid (HBc.out.trans (HR1.out.h.o.mono BZ))
                have HLo := Lib.hid hrg.left_eq
                go_wp2_with (first | (at_next; refine wpList_next_ranges _ rfl _ rfl 49 lawT Rv (fun v => v) (fun v => v) (fun key _ _ => ⟨key, rfl⟩) (fun v _ _ => ⟨v, rfl⟩) (F + 1) wo.heap.size cm D left cnt rfl hrg (fun hc0 hl0 => ?_) (fun x c kl y w1 cnt1 hkey hlx hRv hat hrg1 hlt1 hg1 hs1 hen => ?_); clear hrg hc0 hl0; rotate_left; obtain ⟨t, ht, rfl⟩ := HR1.out.key HfD.out HOk.out hkey hlx; have HR2 := Lib.hid ((HR1.out.next hrg1 hg1).alloc (.cells #[.int .i64 t.kind, .int .i64 t.fr, .int .i64 t.to, .int .i64 0] 49)); have hL := HR2.out.h.look (HOk.out t ht); rw [done_all ht (HTd.out t ht)] at hL; have HLn := Lib.hid HR2.out.rg.left_eq; have HM : Hid (cnt1 < cnt) := Lib.hid hlt1; clear hkey hlx hRv hat hrg1 hlt1 hg1 hs1 hrg ht HR1; generalize t.kind = tk at *; generalize t.fr = tf at *; generalize t.to = tt at *; rotate_left))
                · go_ret
                  exact ⟨rfl, HBx.out⟩
                · go_roundw
                  case rel => exact ⟨_, _, HR2⟩
                  case measure => rw [HLn.out, HLo.out]; exact HM.out

theorem own : ownKnob Try.prog.godebug = none := by kernel_rfl
set_option maxRecDepth 100000 in
theorem lifted (os : Os) (started : os.Started) (H : Type) (enc : TypeId × Value → H) :
    ReturnsInHanded {} Try.checked os 5 .any (Rows.flatHoldsSpec.pre6 enc Try.prog Try.f5 Rows.flatHoldsRow.domain false) (Rows.flatHoldsSpec.post enc Try.prog Try.f5 false true false false) := by
  refine returnsInHanded_of_change_sized (C := Try.checked) own started (by kernel_rfl) Try.func5
    (ChangeSpec.witness6 (enc := enc) (C := Try.checked) false ⟨#[], #[.agg #[.slice none 0 0, .slice none 0 0, .slice none 0 0, .slice none 0 0]], []⟩ 8 (by kernel_rfl) (by kernel_rfl) (by kernel_rfl) (by kernel_rfl)) ?_
  intro W base args ds gs before hval0 hW _ hsz0 _
  have hsz : (DataW.weightsEach Try.prog (Try.f5.params.toList ++ Rows.flatHoldsSpec.plain.varTypes Try.prog) (ds ++ gs)).all (· ≤ reachBytes) = true := hsz0
  have hval : ∀ (j : Nat) t v, Try.f5.params[j]? = some t → args[j]? = some v → Value.okWide Try.prog W .any base t v := hval0
  have hW' := hW
  obtain ⟨p, q, hA0, hV, rfl, _, _⟩ := hW
  have hA : DataW.TrodAll enc Try.prog W 0 (fun _ => true) true Try.f5.params.toList args.toList ds p := hA0
  rw [Try.params5] at hA hval hsz
  obtain ⟨v0, vs0, d0, ds0, p0, q0, hargs, rfl, rfl, h0, r0⟩ := trodAll_cons hA
  obtain ⟨rfl, rfl, rfl⟩ := trodAll_nil r0
  obtain rfl : args = #[v0] := by cases args; simp_all
  obtain ⟨rfl, rfl⟩ := trodVars_none hV
  have hw0 : Wt Try.prog 27 d0 := Wt.of hsz (j := 0) rfl rfl
  obtain ⟨g0, rfl, hI0, hz0, hcap0, hnil0, _⟩ := open_graph (hval 0 _ v0 rfl rfl) h0 hw0
  clear hA0 hval0 hsz0
  simp only [List.append_nil] at hW'
  have hlt0 := fun x hx => hW'.lt x hx
  refine (walk W g0 hI0 hz0 hcap0).mono fun e W' ⟨he2, hg⟩ => ?_
  subst he2
  have hargs := (trodAll_cons_mk (Below.trod progLaid (by kernel_rfl) (of_decide_eq_true (by kernel_rfl)) h0 hg (fun x hx => hlt0 x (hx))) (trodAll_mk0 (enc := enc) (P := Try.prog) (w := W')))
  simp only [List.append_nil] at hargs
  exact ⟨_, rfl, _, _, _, [], p0, [], hW', trodAll_cons_mk (shut_bool Try.underlying4 _) trodAll_mk0, hargs, rfl, hg.frame _, fun h => by cases h⟩

theorem proved : Rows.FlatHoldsSaid :=
  OpenClaim.holds_of_wide 5 Try.f5 rfl rfl rfl rfl rfl rfl rfl ⟨rfl, rfl, rfl, rfl, rfl⟩ rfl rfl rfl rfl rfl (by kernel_rfl) Try.func5 (by kernel_rfl)
    (of_decide_eq_true (by kernel_rfl)) (by unfold Func.isWrapper; first | (rw [if_pos (by decide +kernel)]; kernel_rfl) | (rw [if_neg (by decide +kernel)]; exact ⟨rfl, rfl⟩))
    (fun os started H enc _ => lifted os started H enc)
end Go.Proofs.Ytplplkchibefjaa.P4.Holds
