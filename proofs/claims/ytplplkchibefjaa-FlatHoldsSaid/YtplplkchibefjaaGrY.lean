/-
  Contract of graph.Members.
-/
import Derived.Test.YtplplkchibefjaaGrX
namespace Go.Proofs.Ytplplkchibefjaa
open Go.RowKit Go.Shelf

theorem infoInt : (Try.prog.info? 3).map (fun i => (i.zero, i.size, i.bytes)) = some (some (.int .i64 0), 1, 8) := by kernel_rfl
def filL (g : Gr) (s : Key) (k : Nat) : List Nat := (List.range k).filter (fun i => inB g s g.gs.length g.es[i]!.group.toList)
theorem filL_yes {g : Gr} {s : Key} {k : Nat} (h : inB g s g.gs.length g.es[k]!.group.toList = true) : filL g s (k + 1) = filL g s k ++ [k] := by
  simp only [filL, List.range_succ, List.filter_append, List.filter_cons, h, if_true, List.filter_nil]
theorem filL_no {g : Gr} {s : Key} {k : Nat} (h : inB g s g.gs.length g.es[k]!.group.toList = false) : filL g s (k + 1) = filL g s k := by
  simp only [filL, List.range_succ, List.filter_append, List.filter_cons, h, Bool.false_eq_true, if_false, List.filter_nil, List.append_nil]
theorem filL_le (g : Gr) (s : Key) (k : Nat) : (filL g s k).length ≤ k := by
  have := List.length_filter_le (fun i => inB g s g.gs.length g.es[i]!.group.toList) (List.range k)
  rw [List.length_range] at this; exact this
/-- The places of the events of a name. -/
def memL (g : Gr) (s : ByteArray) : List Nat :=
  if mayL g then (if 0 ≤ idxB (named Ev.name s) g.es then [(idxB (named Ev.name s) g.es).toNat] else filL g s.toList g.es.length) else []
def intC (l : List Nat) : List Value := l.map fun (i : Nat) => Value.int .i64 (i : Int)
def IntsOf (l : List Nat) (w : World) (e : Ending) (w' : World) : Prop := ∃ v, e = .returned v ∧ w'.ownsRow w.heap.size 3 1 v l.length (intC l) ∧ Below w.heap.size w w'
theorem map_ne_own {w : World} {B e z n b m : Nat} {v : Value} {xs : List Value} {K E : TypeId} {f : Lit → Option Nat} (h : w.ownsRow B e z v n xs) (hm : MapFn w Try.prog K E b m f) : some b ≠ v.ownBlock := by
  intro hb
  obtain ⟨D, ⟨es, clock, hh, _⟩, _⟩ := hm
  rcases h.2 with ⟨rfl, _⟩ | ⟨g, cap, cur, rfl, _, hg, _⟩
  · cases hb
  · cases hb; rw [hh] at hg; cases hg
theorem own_one {w : World} {v : Value} {B b : Nat} (h : w.heap[b]? = some (.cells #[v] 3 (0, 0))) (hb : B ≤ b) : w.ownsRow B 3 1 (.slice (some ⟨b, 0, none⟩) 1 1) 1 [v] :=
  ⟨rfl, .inr ⟨b, 1, _, rfl, hb, h, Nat.le_refl _, by unfold maxLen; omega, rfl, rfl⟩⟩
theorem own_slice {w : World} {B e z n : Nat} {v : Value} {xs : List Value} (h : w.ownsRow B e z v n xs) : ∃ ao cap, v = .slice ao n cap := by
  rcases h.2 with ⟨hv, h0⟩ | ⟨g, cap, cur, hv, _⟩
  · exact ⟨none, 0, by rw [hv, h0]⟩
  · exact ⟨_, _, hv⟩
theorem own_below {w w1 : World} {B e z n : Nat} {v : Value} {xs : List Value} (h : w.ownsRow B e z v n xs) (hb : Below w.heap.size w w1) : w1.ownsRow B e z v n xs :=
  h.kept (row := none) ⟨hb.os, hb.tape, hb.output, hb.size, fun k hk _ => hb.block k hk⟩ (by cases hv : v.ownBlock <;> simp)
theorem own_base {w : World} {B B' e z n : Nat} {v : Value} {xs : List Value} (h : w.ownsRow B e z v n xs) (hB : B' ≤ B) : w.ownsRow B' e z v n xs := by
  refine ⟨h.1, ?_⟩
  rcases h.2 with h | ⟨g, cap, cur, h1, h2, h3⟩
  · exact .inl h
  · exact .inr ⟨g, cap, cur, h1, Nat.le_trans hB h2, h3⟩
def boxW (w : World) (g : Gr) : World := w.alloc (.cells #[.slice g.ga g.gs.length g.gc, .slice g.ea g.es.length g.ec, .slice g.ra g.rs.length g.rc, .slice g.ua g.us.length g.uc] 27)
theorem box_below (w : World) (g : Gr) : Below w.heap.size w (boxW w g) := (Below.refl _ _).alloc (Nat.le_refl _) _
theorem box_size (w : World) (g : Gr) : (boxW w g).heap.size = w.heap.size + 1 := by simp [boxW]
theorem box_cells {w w1 : World} {g : Gr} (hb : Below (w.heap.size + 1) (boxW w g) w1) : w1.cell? ⟨w.heap.size, 0, none⟩ = some (.slice g.ga g.gs.length g.gc) ∧ w1.cell? ⟨w.heap.size, 1, none⟩ = some (.slice g.ea g.es.length g.ec) ∧ w1.cell? ⟨w.heap.size, 2, none⟩ = some (.slice g.ra g.rs.length g.rc) ∧ w1.cell? ⟨w.heap.size, 3, none⟩ = some (.slice g.ua g.us.length g.uc) := by
  have hh : w1.heap[w.heap.size]? = some (.cells #[.slice g.ga g.gs.length g.gc, .slice g.ea g.es.length g.ec, .slice g.ra g.rs.length g.rc, .slice g.ua g.us.length g.uc] 27 (0, 0)) := (hb.block w.heap.size (by omega)).trans (heap_new _ _)
  exact ⟨cell_blk hh rfl, cell_blk hh rfl, cell_blk hh rfl, cell_blk hh rfl⟩

def MemRel (g : Gr) (s : Key) (M : Nat) (W0 : World) (v i : Value) (wr : World) : Prop :=
  ∃ k : Nat, k ≤ g.es.length ∧ i = .int .i64 k ∧ Hid (wr.ownsRow W0.heap.size 3 1 v (filL g s k).length (intC (filL g s k))) ∧ Hid (MapFn wr Try.prog 9 3 M g.gs.length (wthF g s g.gs.length)) ∧ Below W0.heap.size W0 wr

set_option maxRecDepth 100000 in
set_option maxHeartbeats 4000000 in
theorem members_any (w : World) (g : Gr) (s : ByteArray) (hI : InG w g) (hz : SzG g) (hcap : ∀ u ∈ g.us, u.roles.length ≤ u.rc) :
    Calls Try.prog 114 #[.agg #[.slice g.ga g.gs.length g.gc, .slice g.ea g.es.length g.ec, .slice g.ra g.rs.length g.rc, .slice g.ua g.us.length g.uc], .string s] w (IntsOf (memL g s) w) := by
  have C1 := Lib.hid (mayBe_any (boxW w g) g (hI.below (Nat.le_refl _) (box_below w g)) hz hcap)
  have hb0 := box_below w g
  have hs0 := box_size w g
  have z2 := hz.es
  have HI := Lib.hid hI
  have HZ := Lib.hid hz
  have HL : Hid (memL g s = if mayL g then (if 0 ≤ idxB (named Ev.name s) g.es then [(idxB (named Ev.name s) g.es).toNat] else filL g s.toList g.es.length) else []) := Lib.hid rfl
  have HS0 := Lib.hid hs0
  clear hI hz hcap hs0
  cases hm : mayL g with
  | false =>
    rw [hm] at C1 HL
    rw [if_neg (by decide)] at HL
    clear hm
    go_enter Try.func114, Try.ntmps114
    go_wp2_with fail
    refine C1.out.mono ?_
    rintro e w1 ⟨rfl, hb1⟩
    go_wp2_with fail
    go_ret
    exact ⟨_, rfl, by rw [HL.out]; exact World.ownsRow_nil _ _ _ _, hb0.trans (hb1.mono hb0.size)⟩
  | true =>
    rw [hm, if_pos rfl] at HL
    rw [hm] at C1
    clear hm
    go_enter Try.func114, Try.ntmps114
    go_wp2_with fail
    refine C1.out.mono ?_
    rintro e w1 ⟨rfl, hb1⟩
    have B1 := Lib.hid (hb0.trans (hb1.mono hb0.size))
    have X1 := Lib.hid (hb1.mono (by rw [HS0.out]; exact Nat.le_refl _) : Below (w.heap.size + 1) (boxW w g) w1)
    obtain ⟨a0, a1, a2, a3⟩ := box_cells X1.out
    have y1 : w.heap.size + 1 ≤ w1.heap.size := by have := X1.out.size; rw [HS0.out] at this; exact this
    clear hb1 C1
    go_wp2_with fail
    refine (eventAt_any w1 g s (HI.out.below (Nat.le_refl _) B1.out) HZ.out).mono ?_
    rintro e w2 ⟨rfl, hb2⟩
    have B2 := Lib.hid (B1.out.trans (hb2.mono (by omega)))
    have X2 := Lib.hid (X1.out.trans (hb2.mono y1))
    have y2 := hb2.size
    obtain ⟨d0, d1, d2, d3⟩ := box_cells X2.out
    clear a0 a1 a2 a3 hb2
    by_cases h0 : 0 ≤ idxB (named Ev.name s) g.es
    · rw [if_pos h0] at HL
      obtain ⟨q, hq⟩ : ∃ q : Nat, (q : Int) = idxB (named Ev.name s) g.es := ⟨_, Int.toNat_of_nonneg h0⟩
      rw [← hq] at HL ⊢
      rw [Int.toNat_natCast] at HL
      clear hq h0
      go_wp2_with fail
      go_ret
      refine ⟨_, rfl, by rw [HL.out]; exact own_one (heap_new _ _) (by omega), B2.out.alloc (by omega) _⟩
    · rw [if_neg h0] at HL
      have h0' : idxB (named Ev.name s) g.es < 0 := by omega
      generalize idxB (named Ev.name s) g.es = z at *
      clear h0
      go_wp2_with fail
      refine (within_any w2 g s (HI.out.below (Nat.le_refl _) B2.out) HZ.out).mono ?_
      rintro e w3 ⟨rfl, hm3, hb3⟩
      have B3 := Lib.hid (B2.out.trans (hb3.mono (by omega)))
      have X3 := Lib.hid (X2.out.trans (hb3.mono (by omega)))
      have y3 := hb3.size
      obtain ⟨a0, a1, a2, a3⟩ := box_cells X3.out
      obtain ⟨i0, hi, hz0, hz1, hz2⟩ := info_parts infoInt
      have HI0 := Lib.hid hi
      have HZ0 := Lib.hid hz0
      have HZ1 := Lib.hid hz1
      have HZ2 := Lib.hid hz2
      have HM3 := Lib.hid hm3
      clear d0 d1 d2 d3 hb3 hi hz0 hz1 hz2 hm3
      go_wp2_with fail
      obtain ⟨ea, hea⟩ : ∃ ea, g.ea = ea := ⟨_, rfl⟩
      rw [hea]
      have HEA := Lib.hid hea
      clear hea a0 a1 a2 a3
      go_loopw [7, 8, 9, 10, 11, 28] (fun v _ _ _ _ i wr => MemRel g s.toList (w2.heap.size + 1) w3 v i wr) (fun _ _ _ _ _ i _ => g.es.length - (intOf i).toNat)
      case atStart => exact ⟨0, Nat.zero_le _, rfl, Lib.hid (World.ownsRow_nil _ _ _ _), HM3, Below.refl _ _⟩
      case round =>
        obtain ⟨k, hk, rfl, HV, HM, hB⟩ := hrel
        have hBz := hB.size
        have hfl := filL_le g s.toList k
        by_cases hlt : k < g.es.length
        · obtain ⟨b, off, hA, hb, hc⟩ := HI.out.es.at_ (k := 6) (fun _ => rfl) (by omega) hlt
          obtain rfl : ea = some ⟨b, off, none⟩ := HEA.out.symm.trans hA
          clear hA
          have hBB := B3.out.trans (hB.mono (by have := B3.out.size; omega))
          have k0 := hc 0 _ rfl
          rw [Nat.add_zero] at k0
          have k1 := hc 1 _ rfl
          have k2 := hc 2 _ rfl
          have k3 := hc 3 _ rfl
          have k4 := hc 4 _ rfl
          have k5 := hc 5 _ rfl
          rw [← hBB.cell (p := ⟨b, _, none⟩) hb] at k0 k1 k2 k3 k4 k5
          obtain ⟨_, hsg, _⟩ := HZ.out.ev _ (mem_at hlt)
          have hW : Below wr.heap.size wr (wr.alloc (.cells #[.string g.es[k]!.name, .string g.es[k]!.group, .string g.es[k]!.role, .bool g.es[k]!.inn, .bool g.es[k]!.done, .int .i64 g.es[k]!.due] 46)) := (Below.refl _ _).alloc (Nat.le_refl _) _
          have hl := (HM.out.below (Nat.le_refl _) hW).look_ok lawS Try.underlying117 Try.underlying3 (Try.zeroValue3 _) (keyS hsg)
          rw [wthF_in] at hl
          generalize (wthF g s.toList g.gs.length (litS g.es[k]!.group)).getD 0 = q at *
          have HBB := Lib.hid hBB
          have hbk : b < wr.heap.size := by have := HBB.out.size; omega
          clear hc hBB hW
          obtain ⟨va, vc, rfl⟩ := own_slice HV.out
          cases hin : inB g s.toList g.gs.length g.es[k]!.group.toList with
          | false =>
            have HF := Lib.hid (filL_no hin)
            rw [hin] at hl
            clear hin
            generalize g.es[k]! = x at *
            go_wp2_with fail
            go_roundw
            case rel => exact ⟨k + 1, hlt, by go_num, Lib.hid (by rw [HF.out]; exact HV.out.alloc _), Lib.hid (HM.out.below (Nat.le_refl _) ((Below.refl _ _).alloc (Nat.le_refl _) _)), hB.alloc hBz _⟩
            case measure => simp [intOf]; omega
          | true =>
            have HF := Lib.hid (filL_yes hin)
            rw [hin] at hl
            clear hin
            generalize g.es[k]! = x at *
            go_wp2_with (at_builtin; refine wpList_append_own _ rfl (.tmp 41) (.tmp 43) 54 rfl w3.heap.size 3 i0 _ 1 8 Try.underlying54 HI0.out HZ0.out HZ1.out HZ2.out rfl (by omega) _ _ _ rfl ((HV.out.alloc _).alloc _) ⟨wr.heap.size + 1, 0, none⟩ 1 1 [.int .i64 (k : Int)] rfl rfl ?c1 ?c2 ?c3 ?c4 ?c5 ?_)
            case c1 =>
              intro j u hj
              match j, hj with
              | 0, hj => simp at hj; subst hj; simp [Addr.add]
            case c2 => intro u hu; simp at hu; subst hu; rfl
            case c3 => unfold maxLen; omega
            case c4 => omega
            case c5 => simp; omega
            intro v' w4 hown' hgrow _
            have hmo := map_ne_own HV.out HM.out
            have HM4 : Hid (MapFn w4 Try.prog 9 3 (w2.heap.size + 1) g.gs.length (wthF g s.toList g.gs.length)) := Lib.hid ((HM.out.below (Nat.le_refl _) (((Below.refl _ _).alloc (Nat.le_refl _) _).alloc (by simp) _)).block (hgrow.block _ (by have := HM.out.lt; simp; omega) hmo))
            have HB4 : Hid (Below w3.heap.size w3 w4) := Lib.hid (((hB.alloc hBz _).alloc (by rw [World.size_alloc]; omega) _).grown hgrow (by rw [World.size_alloc, World.size_alloc]; omega) (fun j hj => (HV.out.lt j hj).1))
            have HV4 : Hid (w4.ownsRow w3.heap.size 3 1 v' (filL g s.toList (k + 1)).length (intC (filL g s.toList (k + 1)))) := Lib.hid (by
              have e1 : intC (filL g s.toList (k + 1)) = intC (filL g s.toList k) ++ [.int .i64 (k : Int)] := by rw [HF.out, intC, List.map_append]; rfl
              rw [e1, HF.out, List.length_append]; exact hown')
            clear hown' hgrow hmo
            go_wp2_with fail
            go_roundw
            case rel => exact ⟨k + 1, hlt, by go_num, HV4, HM4, HB4.out⟩
            case measure => simp [intOf]; omega
        · obtain rfl : k = g.es.length := by omega
          go_wp2_with fail
          go_ret
          exact ⟨_, rfl, by rw [HL.out]; exact own_base HV.out (by have := B3.out.size; omega), B3.out.trans (hB.mono (by have := B3.out.size; omega))⟩
end Go.Proofs.Ytplplkchibefjaa
