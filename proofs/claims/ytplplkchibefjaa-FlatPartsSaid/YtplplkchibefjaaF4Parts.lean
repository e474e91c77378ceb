/-
  FlatParts answers true, whatever graph it is given.
-/
import Derived.Test.YtplplkchibefjaaRows
import Derived.Test.YtplplkchibefjaaF4b
import Derived.Test.YtplplkchibefjaaF4s
import Derived.Test.YtplplkchibefjaaGrOq
import Derived.ProofKit
import Derived.OpenShut
import Derived.Carry
namespace Go.Proofs.Ytplplkchibefjaa.P4.Parts
open Go.RowKit Go.Shelf Go.Deep Go.Joins Go.ChangeShapes Go.WideShapes Go.Proofs.Ytplplkchibefjaa.P4

theorem F4own_head {w : World} {B e z n : Nat} {v : Value} {xs : List Value} (h : w.ownsRow B e z v n xs) (h0 : 0 < n) : ∃ g cap, v = .slice (some ⟨g, 0, none⟩) n cap ∧ B ≤ g ∧ g < w.heap.size := Go.Proofs.Ytplplkchibefjaa.B.own_head h h0
/-- What Make answers, as rows: a flat graph of good ties, or nothing. -/
def FlatOf (w : World) (m : Nat) (e : Ending) (w' : World) : Prop := ∃ (EA TA : Option Addr) (n ec tc : Nat) (ts : List Ti) (c : Int), e = .returned (.tuple #[.agg #[.slice EA n ec, .slice TA ts.length tc], .int .i64 c]) ∧ Row w' TA (ts.flatMap tiC) ∧ (∀ t ∈ ts, Good n t) ∧ ts.length ≤ 8000 ∧ n ≤ m ∧ Below w.heap.size w w'
theorem flat_of {w w' : World} {g : Gr} {e : Ending} (h : MkEnd w g e w') : FlatOf w g.es.length e w' := by
  cases hm : mayL g with
  | false => exact ⟨none, none, 0, 0, 0, [], _, h.no hm, fun h => absurd rfl h, (fun t ht => by cases ht), by decide, Nat.zero_le _, h.b⟩
  | true =>
    cases hf : foldT [] (toldL g g.rs.length) with
    | none => exact ⟨none, none, 0, 0, 0, [], _, h.many hm hf, fun h => absurd rfl h, (fun t ht => by cases ht), by decide, Nat.zero_le _, h.b⟩
    | some l =>
      obtain ⟨h1, _, v1, v2, he, o1, o2⟩ := h.ok hm l hf
      obtain ⟨EA, ec, rfl⟩ := own_slice o1
      obtain ⟨TA, tc, rfl⟩ := own_slice o2
      exact ⟨EA, TA, _, ec, tc, l, _, he, Row.of_own o2, make_good hm hf, h1, Nat.le_refl _, h.b⟩
/-- The frame: the boxes of the graph and of the flat graph. -/
structure PF (w : World) (F : Nat) (gr fl : Array Value) (W : World) : Prop where
  b : Below w.heap.size w W
  g : W.heap[w.heap.size]? = some (.cells gr 27 (0, 0))
  f : W.heap[F]? = some (.cells fl 32 (0, 0))
section
variable {w W W' : World} {F : Nat} {gr fl : Array Value}
theorem PF.lt (h : PF w F gr fl W) : F < W.heap.size := (Array.getElem?_eq_some_iff.1 h.f).1
theorem PF.ltg (h : PF w F gr fl W) : w.heap.size < W.heap.size := (Array.getElem?_eq_some_iff.1 h.g).1
theorem PF.call (h : PF w F gr fl W) (hb : Below W.heap.size W W') : PF w F gr fl W' := ⟨h.b.trans (hb.mono (Nat.le_of_lt h.ltg)), blk_call h.g hb, blk_call h.f hb⟩
theorem PF.alloc (h : PF w F gr fl W) (o : Obj) : PF w F gr fl (W.alloc o) := h.call ((Below.refl _ _).alloc (Nat.le_refl _) _)
end
theorem PF.cells {w W : World} {F : Nat} {gr : Array Value} {EA TA : Option Addr} {n ec m tc : Nat} (h : PF w F gr #[.slice EA n ec, .slice TA m tc] W) : W.cell? ⟨F, 0, none⟩ = some (.slice EA n ec) ∧ W.cell? ⟨F, 1, none⟩ = some (.slice TA m tc) := ⟨cell_blk h.f rfl, cell_blk h.f rfl⟩
set_option maxRecDepth 100000 in
set_option maxHeartbeats 8000000 in
theorem walk (w : World) (g : Gr) (hI : InG w g) (hz : SzG g) (hcap : ∀ u ∈ g.us, u.roles.length ≤ u.rc) :
    Calls Try.prog 6 #[.agg #[.slice g.ga g.gs.length g.gc, .slice g.ea g.es.length g.ec, .slice g.ra g.rs.length g.rc, .slice g.ua g.us.length g.uc]] w fun e w' => e = .returned (.bool true) ∧ Below w.heap.size w w' := by
  obtain ⟨gr, hgr⟩ : ∃ gr, gr = #[Value.slice g.ga g.gs.length g.gc, .slice g.ea g.es.length g.ec, .slice g.ra g.rs.length g.rc, .slice g.ua g.us.length g.uc] := ⟨_, rfl⟩
  have hb0 := (Below.refl w.heap.size w).alloc (Nat.le_refl _) (.cells gr 27)
  have hn0 := heap_alloc_new w (.cells gr 27)
  have AWK := Lib.hid (awake_any (w.alloc (.cells gr 27)))
  have HB0 := Lib.hid hb0
  have HN0 := Lib.hid hn0
  have HI := Lib.hid hI
  have HZ := Lib.hid hz
  have HC := Lib.hid hcap
  clear hI hz hcap hb0 hn0
  subst hgr
  go_enter Try.func6, Try.ntmps6
  go_wp2_with fail
  refine AWK.out.mono ?_
  rintro e w1 ⟨rfl, hb⟩
  have HB1 := Lib.hid (HB0.out.trans (hb.mono HB0.out.size))
  have HN1 := Lib.hid (blk_call HN0.out hb)
  clear hb AWK HB0 HN0
  have c0 : w1.cell? ⟨w.heap.size, 0, none⟩ = some (.slice g.ga g.gs.length g.gc) := cell_blk HN1.out rfl
  have c1 : w1.cell? ⟨w.heap.size, 1, none⟩ = some (.slice g.ea g.es.length g.ec) := cell_blk HN1.out rfl
  have c2 : w1.cell? ⟨w.heap.size, 2, none⟩ = some (.slice g.ra g.rs.length g.rc) := cell_blk HN1.out rfl
  have c3 : w1.cell? ⟨w.heap.size, 3, none⟩ = some (.slice g.ua g.us.length g.uc) := cell_blk HN1.out rfl
  have ll := (Array.getElem?_eq_some_iff.1 HN1.out).1
  have S := Lib.hid (small_any w1 g (HI.out.below (Nat.le_refl _) HB1.out) HZ.out)
  go_wp2_with fail
  refine S.out.mono ?_
  rintro e w2 ⟨b, rfl, hs, hb⟩
  have HB2 := Lib.hid (HB1.out.trans (hb.mono HB1.out.size))
  have HN2 := Lib.hid (blk_call HN1.out hb)
  clear hb S HB1 HN1 c0 c1 c2 c3 ll
  cases b with
  | false =>
    clear hs
    go_wp2_with fail
    go_ret
    exact ⟨rfl, HB2.out⟩
  | true =>
    obtain ⟨hsm, hr60, he30⟩ := hs rfl
    have c0 : w2.cell? ⟨w.heap.size, 0, none⟩ = some (.slice g.ga g.gs.length g.gc) := cell_blk HN2.out rfl
    have c1 : w2.cell? ⟨w.heap.size, 1, none⟩ = some (.slice g.ea g.es.length g.ec) := cell_blk HN2.out rfl
    have c2 : w2.cell? ⟨w.heap.size, 2, none⟩ = some (.slice g.ra g.rs.length g.rc) := cell_blk HN2.out rfl
    have c3 : w2.cell? ⟨w.heap.size, 3, none⟩ = some (.slice g.ua g.us.length g.uc) := cell_blk HN2.out rfl
    have ll := (Array.getElem?_eq_some_iff.1 HN2.out).1
    have M := Lib.hid (make_any w2 g (HI.out.below (Nat.le_refl _) HB2.out) HZ.out HC.out)
    clear hs hsm
    go_wp2_with fail
    refine M.out.mono ?_
    intro e w3 hmk
    obtain ⟨EA, TA, n, ec, tc, ts, cde, rfl, ht, hgood, htl, hnm, hb⟩ := flat_of hmk
    have HP := Lib.hid (⟨(HB2.out.trans (hb.mono HB2.out.size)).alloc (Nat.le_trans HB2.out.size hb.size) _, blk_old (blk_call HN2.out hb), heap_alloc_new _ _⟩ : PF w w3.heap.size #[.slice g.ga g.gs.length g.gc, .slice g.ea g.es.length g.ec, .slice g.ra g.rs.length g.rc, .slice g.ua g.us.length g.uc] #[.slice EA n ec, .slice TA ts.length tc] (w3.alloc (.cells #[.slice EA n ec, .slice TA ts.length tc] 32)))
    have HT := Lib.hid (ht.below (Nat.le_refl _) ((Below.refl _ _).alloc (Nat.le_refl _) (.cells #[.slice EA n ec, .slice TA ts.length tc] 32)))
    have HG := Lib.hid hgood
    obtain ⟨F, hF⟩ : ∃ F, F = w3.heap.size := ⟨_, rfl⟩
    have HF := Lib.hid hF
    rw [← hF] at HP
    clear hF hmk ht hgood hb HB2 HN2 c0 c1 c2 c3 ll M
    have hFl := HP.out.lt
    go_wp2_with fail
    rw [← HF.out]
    have H1 : Hid (nOf Ti.to ts ((1 : Nat) : Int) 0 = 0) := Lib.hid (n_start _ _ (fun t ht => ⟨(HG.out t ht).1, (HG.out t ht).2.2.2.2.1⟩))
    have H2 : Hid (nOf Ti.fr ts ((1 : Nat) : Int) 0 = 0) := Lib.hid (n_start _ _ (fun t ht => ⟨(HG.out t ht).1, (HG.out t ht).2.2.1⟩))
    have HT' := Lib.hid (show Row (w3.alloc (.cells #[.slice EA n ec, .slice TA ts.length tc] 32)) TA (ts.flatMap tiC) from HT.out)
    go_loopw [5, 6, 7] (fun a b k wr => ∃ K : Nat, 1 ≤ K ∧ K ≤ 6 ∧ k = .int .i64 (K : Int) ∧ a = .int .i64 (nOf Ti.to ts (K : Int) 0 : Nat) ∧ b = .int .i64 (nOf Ti.fr ts (K : Int) 0 : Nat) ∧ Hid (PF w F #[.slice g.ga g.gs.length g.gc, .slice g.ea g.es.length g.ec, .slice g.ra g.rs.length g.rc, .slice g.ua g.us.length g.uc] #[.slice EA n ec, .slice TA ts.length tc] wr) ∧ Hid (Row wr TA (ts.flatMap tiC))) (fun _ _ k _ => 6 - (intOf k).toNat)
    case atStart => exact ⟨1, by omega, by omega, rfl, by rw [H1.out]; rfl, by rw [H2.out]; rfl, HP, HT⟩
    case round =>
      clear HP HT H1 H2 HT'
      obtain ⟨K, hK1, hK6, rfl, rfl, rfl, HP, HT⟩ := hrel
      by_cases hlt : K ≤ 5
      · have hK0 : (0 : Int) ≤ (K : Int) := Int.natCast_nonneg _
        have hK5 : (K : Int) ≤ 5 := by omega
        have E1 := Lib.hid (n_kind Ti.to ts (K : Int) n (fun t ht => (HG.out t ht).2.2.2.2))
        have E2 := Lib.hid (n_kind Ti.fr ts (K : Int) n (fun t ht => ⟨(HG.out t ht).2.2.1, (HG.out t ht).2.2.2.1⟩))
        obtain ⟨c0, c1⟩ := HP.out.cells
        have hFl := HP.out.lt
        go_wp2_with fail
        clear c0 c1 hFl
        obtain ⟨wo, rfl⟩ : ∃ wo : World, wo = wr := ⟨_, rfl⟩
        go_loopw [5, 6, 30] (fun a b i wr => ∃ I : Nat, I ≤ n ∧ i = .int .i64 (I : Int) ∧ a = .int .i64 (nOf Ti.to ts (K : Int) I : Nat) ∧ b = .int .i64 (nOf Ti.fr ts (K : Int) I : Nat) ∧ Hid (PF w F #[.slice g.ga g.gs.length g.gc, .slice g.ea g.es.length g.ec, .slice g.ra g.rs.length g.rc, .slice g.ua g.us.length g.uc] #[.slice EA n ec, .slice TA ts.length tc] wr) ∧ Hid (Row wr TA (ts.flatMap tiC))) (fun _ _ i _ => n - (intOf i).toNat)
        case atStart => exact ⟨0, Nat.zero_le _, rfl, rfl, rfl, HP, HT⟩
        case round =>
          clear HP HT
          obtain ⟨I, hI, rfl, rfl, rfl, HP, HT⟩ := hrel
          by_cases hlt2 : I < n
          · have hI0 : (0 : Int) ≤ (I : Int) := Int.natCast_nonneg _
            have hI1 : (I : Int) < (n : Int) := by omega
            have N1 : Hid (nOf Ti.to ts (K : Int) (I + 1) = nOf Ti.to ts (K : Int) I + (ts.filter (F4.intoB (K : Int) (I : Int))).length) := Lib.hid (n_next _ _ _ _)
            have N2 : Hid (nOf Ti.fr ts (K : Int) (I + 1) = nOf Ti.fr ts (K : Int) I + (ts.filter (F4.outB (K : Int) (I : Int))).length) := Lib.hid (n_next _ _ _ _)
            have M1 : ∀ t ∈ ts.filter (F4.intoB (K : Int) (I : Int)), t.kind = (K : Int) ∧ t.to = (I : Int) := fun t ht => by have := (List.mem_filter.1 ht).2; simpa [F4.intoB] using this
            have M2 : ∀ t ∈ ts.filter (F4.outB (K : Int) (I : Int)), t.kind = (K : Int) ∧ t.fr = (I : Int) := fun t ht => by have := (List.mem_filter.1 ht).2; simpa [F4.outB] using this
            have L1 : (ts.filter (F4.intoB (K : Int) (I : Int))).length ≤ ts.length := List.length_filter_le _ _
            have L2 : (ts.filter (F4.outB (K : Int) (I : Int))).length ≤ ts.length := List.length_filter_le _ _
            have B1 := n_le Ti.to ts (K : Int) I
            have B2 := n_le Ti.fr ts (K : Int) I
            have Q1 := Lib.hid (F4.into_any wr EA TA n ec tc ts (K : Int) (I : Int) HT.out (by omega))
            have Q2 := fun W h => Lib.hid (F4.out_any W EA TA n ec tc ts (K : Int) (I : Int) h (by omega))
            have HM1 := Lib.hid M1
            have HM2 := Lib.hid M2
            clear M1 M2
            generalize ts.filter (F4.intoB (K : Int) (I : Int)) = cs at *
            generalize ts.filter (F4.outB (K : Int) (I : Int)) = ds at *
            obtain ⟨c0, c1⟩ := HP.out.cells
            have hFl := HP.out.lt
            go_wp2_with fail
            refine Q1.out.mono ?_
            rintro e w5 ⟨v5, rfl, o5, hb5⟩
            obtain ⟨CA, cc, rfl⟩ := own_slice o5
            have HP5 := Lib.hid (HP.out.call hb5)
            have HT5 := Lib.hid (HT.out.below (Nat.le_refl _) hb5)
            obtain ⟨D5, O5⟩ : ∃ D, Hid (w5.ownsRow D 49 4 (.slice CA cs.length cc) cs.length (cs.flatMap tiC)) := ⟨_, Lib.hid o5⟩
            clear o5 hb5 HP HT Q1 c0 c1 hFl
            go_wp2_with fail
            obtain ⟨wo2, rfl⟩ : ∃ wo2 : World, wo2 = wr := ⟨_, rfl⟩
            go_loopw [5, 38] (fun a j wr => ∃ J : Nat, J ≤ cs.length ∧ j = .int .i64 (J : Int) ∧ a = .int .i64 ((nOf Ti.to ts (K : Int) I + J : Nat) : Int) ∧ Hid (PF w F #[.slice g.ga g.gs.length g.gc, .slice g.ea g.es.length g.ec, .slice g.ra g.rs.length g.rc, .slice g.ua g.us.length g.uc] #[.slice EA n ec, .slice TA ts.length tc] wr) ∧ Hid (Row wr TA (ts.flatMap tiC)) ∧ Hid (wr.ownsRow D5 49 4 (.slice CA cs.length cc) cs.length (cs.flatMap tiC))) (fun _ j _ => cs.length - (intOf j).toNat)
            case atStart => exact ⟨0, Nat.zero_le _, rfl, rfl, HP5, HT5, O5⟩
            case round =>
              clear HP5 HT5 O5
              obtain ⟨J, hJ, rfl, rfl, HP, HT, HO⟩ := hrel
              by_cases hlt3 : J < cs.length
              · have hJ0 : (0 : Int) ≤ (J : Int) := Int.natCast_nonneg _
                have hJ1 : (J : Int) < (cs.length : Int) := by omega
                obtain ⟨gc, _, e1, _, hgc⟩ := F4own_head HO.out (by omega)
                injection e1 with e1 _ e1c
                subst e1 e1c
                obtain ⟨k0, k1, k2, k3⟩ := F4.tie_at HO.out rfl hlt3
                obtain ⟨m1, m2⟩ := HM1.out cs[J]! (by rw [getElem!_pos cs J hlt3]; exact List.getElem_mem _)
                generalize cs[J]! = x at *
                obtain ⟨xk, xf, xt, xm⟩ := x
                simp only at k0 k1 k2 k3 m1 m2
                subst m1 m2
                have HPx := Lib.hid (HP.out.alloc (.cells #[.int .i64 K, .int .i64 xf, .int .i64 I, .int .i64 xm] 49))
                have hbx : Below wr.heap.size wr (wr.alloc (.cells #[.int .i64 K, .int .i64 xf, .int .i64 I, .int .i64 xm] 49)) := (Below.refl _ _).alloc (Nat.le_refl _) _
                have HTx := Lib.hid (HT.out.below (Nat.le_refl _) hbx)
                have HOx := Lib.hid (own_below HO.out hbx)
                clear hbx HP HT HO
                go_wp2_with fail
                go_roundw
                case rel => exact ⟨J + 1, hlt3, by go_num, by go_num, HPx, HTx, HOx⟩
                case measure => simp [intOf]; omega
              · obtain rfl : J = cs.length := by omega
                clear HO
                rw [← N1.out]
                have Q3 := Q2 wr HT.out
                clear Q2
                obtain ⟨c0, c1⟩ := HP.out.cells
                have hFl := HP.out.lt
                go_wp2_with fail
                refine Q3.out.mono ?_
                rintro e w6 ⟨v6, rfl, o6, hb6⟩
                obtain ⟨DA, dc, rfl⟩ := own_slice o6
                have HP6 := Lib.hid (HP.out.call hb6)
                have HT6 := Lib.hid (HT.out.below (Nat.le_refl _) hb6)
                obtain ⟨D6, O6⟩ : ∃ D, Hid (w6.ownsRow D 49 4 (.slice DA ds.length dc) ds.length (ds.flatMap tiC)) := ⟨_, Lib.hid o6⟩
                clear o6 hb6 HP HT Q3 c0 c1 hFl
                go_wp2_with fail
                obtain ⟨wo3, rfl⟩ : ∃ wo3 : World, wo3 = wr := ⟨_, rfl⟩
                go_loopw [6, 60] (fun a j wr => ∃ J : Nat, J ≤ ds.length ∧ j = .int .i64 (J : Int) ∧ a = .int .i64 ((nOf Ti.fr ts (K : Int) I + J : Nat) : Int) ∧ Hid (PF w F #[.slice g.ga g.gs.length g.gc, .slice g.ea g.es.length g.ec, .slice g.ra g.rs.length g.rc, .slice g.ua g.us.length g.uc] #[.slice EA n ec, .slice TA ts.length tc] wr) ∧ Hid (Row wr TA (ts.flatMap tiC)) ∧ Hid (wr.ownsRow D6 49 4 (.slice DA ds.length dc) ds.length (ds.flatMap tiC))) (fun _ j _ => ds.length - (intOf j).toNat)
                case atStart => exact ⟨0, Nat.zero_le _, rfl, rfl, HP6, HT6, O6⟩
                case round =>
                  clear HP6 HT6 O6
                  obtain ⟨J, hJ, rfl, rfl, HP, HT, HO⟩ := hrel
                  by_cases hlt4 : J < ds.length
                  · have hJ0 : (0 : Int) ≤ (J : Int) := Int.natCast_nonneg _
                    have hJ1 : (J : Int) < (ds.length : Int) := by omega
                    obtain ⟨gc, _, e1, _, hgc⟩ := F4own_head HO.out (by omega)
                    injection e1 with e1 _ e1c
                    subst e1 e1c
                    obtain ⟨k0, k1, k2, k3⟩ := F4.tie_at HO.out rfl hlt4
                    obtain ⟨m1, m2⟩ := HM2.out ds[J]! (by rw [getElem!_pos ds J hlt4]; exact List.getElem_mem _)
                    generalize ds[J]! = x at *
                    obtain ⟨xk, xf, xt, xm⟩ := x
                    simp only at k0 k1 k2 k3 m1 m2
                    subst m1 m2
                    have HPx := Lib.hid (HP.out.alloc (.cells #[.int .i64 K, .int .i64 I, .int .i64 xt, .int .i64 xm] 49))
                    have hbx : Below wr.heap.size wr (wr.alloc (.cells #[.int .i64 K, .int .i64 I, .int .i64 xt, .int .i64 xm] 49)) := (Below.refl _ _).alloc (Nat.le_refl _) _
                    have HTx := Lib.hid (HT.out.below (Nat.le_refl _) hbx)
                    have HOx := Lib.hid (own_below HO.out hbx)
                    clear hbx HP HT HO
                    go_wp2_with fail
                    go_roundw
                    case rel => exact ⟨J + 1, hlt4, by go_num, by go_num, HPx, HTx, HOx⟩
                    case measure => simp [intOf]; omega
                  · obtain rfl : J = ds.length := by omega
                    clear HO
                    rw [← N2.out]
                    go_wp2_with fail
                    go_roundw
                    case rel => exact ⟨I + 1, hlt2, by go_num, rfl, rfl, HP, HT⟩
                    case measure => simp [intOf]; omega
          · obtain rfl : I = n := by omega
            rw [← E1.out, ← E2.out]
            go_wp2_with fail
            go_roundw
            case rel => exact ⟨K + 1, by omega, by omega, by go_num, rfl, rfl, HP, HT⟩
            case measure => simp [intOf]; omega
      · obtain rfl : K = 6 := by omega
        have E1 : nOf Ti.to ts ((6 : Nat) : Int) 0 = ts.length := n_end _ _ (fun t ht => (HG.out t ht).2.1)
        have E2 : nOf Ti.fr ts ((6 : Nat) : Int) 0 = ts.length := n_end _ _ (fun t ht => (HG.out t ht).2.1)
        rw [E1, E2]
        clear E1 E2
        obtain ⟨c0, c1⟩ := HP.out.cells
        have hFl := HP.out.lt
        go_wp2_with fail
        go_ret
        exact ⟨rfl, HP.out.b⟩

theorem own : ownKnob Try.prog.godebug = none := by kernel_rfl
set_option maxRecDepth 100000 in
theorem lifted (os : Os) (started : os.Started) (H : Type) (enc : TypeId × Value → H) :
    ReturnsInHanded {} Try.checked os 6 .any (Rows.flatPartsSpec.pre6 enc Try.prog Try.f6 Rows.flatPartsRow.domain false) (Rows.flatPartsSpec.post enc Try.prog Try.f6 false true false false) := by
  refine returnsInHanded_of_change_sized (C := Try.checked) own started (by kernel_rfl) Try.func6
    (ChangeSpec.witness6 (enc := enc) (C := Try.checked) false ⟨#[], #[.agg #[.slice none 0 0, .slice none 0 0, .slice none 0 0, .slice none 0 0]], []⟩ 8 (by kernel_rfl) (by kernel_rfl) (by kernel_rfl) (by kernel_rfl)) ?_
  intro W base args ds gs before hval0 hW _ hsz0 _
  have hsz : (DataW.weightsEach Try.prog (Try.f6.params.toList ++ Rows.flatPartsSpec.plain.varTypes Try.prog) (ds ++ gs)).all (· ≤ reachBytes) = true := hsz0
  have hval : ∀ (j : Nat) t v, Try.f6.params[j]? = some t → args[j]? = some v → Value.okWide Try.prog W .any base t v := hval0
  have hW' := hW
  obtain ⟨p, q, hA0, hV, rfl, _, _⟩ := hW
  have hA : DataW.TrodAll enc Try.prog W 0 (fun _ => true) true Try.f6.params.toList args.toList ds p := hA0
  rw [Try.params6] at hA hval hsz
  obtain ⟨v0, vs0, d0, ds0, p0, q0, hargs, rfl, rfl, h0, r0⟩ := trodAll_cons hA
  obtain ⟨rfl, rfl, rfl⟩ := trodAll_nil r0
  obtain rfl : args = #[v0] := by cases args; simp_all
  obtain ⟨rfl, rfl⟩ := trodVars_none hV
  have hw0 : Wt Try.prog 27 d0 := Wt.of hsz (j := 0) rfl rfl
  obtain ⟨g0, rfl, hI0, hz0, hcap0, hnil0, _⟩ := open_graph (hval 0 _ v0 rfl rfl) h0 hw0
  clear hA0 hval0 hsz0
  simp only [List.append_nil] at hW'
  have hlt0 := fun x hx => hW'.lt x hx
  refine (walk W g0 hI0 hz0 hcap0).mono fun e W' ⟨he2, hg⟩ => ?_
  subst he2
  have hargs := (trodAll_cons_mk (Below.trod progLaid (by kernel_rfl) (of_decide_eq_true (by kernel_rfl)) h0 hg (fun x hx => hlt0 x (hx))) (trodAll_mk0 (enc := enc) (P := Try.prog) (w := W')))
  simp only [List.append_nil] at hargs
  exact ⟨_, rfl, _, _, _, [], p0, [], hW', trodAll_cons_mk (shut_bool Try.underlying4 _) trodAll_mk0, hargs, rfl, hg.frame _, fun h => by cases h⟩

theorem proved : Rows.FlatPartsSaid :=
  OpenClaim.holds_of_wide 6 Try.f6 rfl rfl rfl rfl rfl rfl rfl ⟨rfl, rfl, rfl, rfl, rfl⟩ rfl rfl rfl rfl rfl (by kernel_rfl) Try.func6 (by kernel_rfl)
    (of_decide_eq_true (by kernel_rfl)) (by unfold Func.isWrapper; first | (rw [if_pos (by decide +kernel)]; kernel_rfl) | (rw [if_neg (by decide +kernel)]; exact ⟨rfl, rfl⟩))
    (fun os started H enc _ => lifted os started H enc)
end Go.Proofs.Ytplplkchibefjaa.P4.Parts
