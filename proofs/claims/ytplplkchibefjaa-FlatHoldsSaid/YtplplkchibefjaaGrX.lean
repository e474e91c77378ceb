/-
  Contracts of graph.groupsWithin and Members.
-/
import Derived.Test.YtplplkchibefjaaGrW
namespace Go.Proofs.Ytplplkchibefjaa
open Go.RowKit Go.Shelf

theorem MapFn.mono {w : World} {P : Program} {k e : TypeId} {b n m : Nat} {f : Lit → Option Nat} (h : MapFn w P k e b n f) (hn : n ≤ m) : MapFn w P k e b m f := by
  obtain ⟨D, h, hf⟩ := h; exact ⟨D, h.mono hn, hf⟩
theorem MapFn.update {w : World} {P : Program} {k e t : TypeId} {b n : Nat} {f : Lit → Option Nat} (h : MapFn w P k e b n f) (K : Maps.Keyed P k) (ht : P.underlying t = some (.map k e)) (he : P.underlying e = some (.int .i64)) (hn : n < maxLen) {key : Value} {kl : Lit} (hkey : keyOf P k key = some kl) (i : Nat) (hi : i ≤ 9223372036854775807) :
    ∃ w1, (Instr.mapUpdate t (.map (some b)) key (.int .i64 (i : Int))).run P w = .ok () w1 ∧ MapFn w1 P k e b (n + 1) (fun l => if l = kl then some i else f l) ∧ w.grownBy w1 (some b) := by
  obtain ⟨D, h, hf⟩ := h
  obtain ⟨w1, h1, h2, h3⟩ := h.update K ht hn hkey (val := .int .i64 (i : Int)) (plainElem_int he (WalkArith.wf_i64 (by omega)))
  exact ⟨w1, h1, MapFn.of_own hf h.isMap (K.key hkey) h2, h3⟩

/-- Is a name among the first i groups' that lie in s? -/
def inB (g : Gr) (s : Key) : Nat → Key → Bool
  | 0, _ => false
  | i + 1, k => if inB g s i g.gs[i]!.parent.toList || g.gs[i]!.name.toList == s then k == g.gs[i]!.name.toList || inB g s i k else inB g s i k
noncomputable def wthF (g : Gr) (s : Key) : Nat → Lit → Option Nat
  | 0 => fun _ => none
  | i + 1 => if inB g s i g.gs[i]!.parent.toList || g.gs[i]!.name.toList == s then fun l => if l = litS g.gs[i]!.name then some i else wthF g s i l else wthF g s i
theorem litS_eq (a b : ByteArray) : (litS a = litS b) = (a.toList = b.toList) := by
  simp only [litS, Lib.toList_data, Lit.string.injEq]
theorem wthF_in (g : Gr) (s : Key) : ∀ (i : Nat) (x : ByteArray), (wthF g s i (litS x)).isSome = inB g s i x.toList
  | 0, _ => rfl
  | i + 1, x => by
    have ih := wthF_in g s i x
    rw [wthF, inB]
    by_cases h : (inB g s i g.gs[i]!.parent.toList || g.gs[i]!.name.toList == s) = true
    · rw [if_pos h, if_pos h]
      by_cases e : x.toList = g.gs[i]!.name.toList
      · rw [if_pos (by rw [litS_eq]; exact e)]
        have : (x.toList == g.gs[i]!.name.toList) = true := by rw [beq_iff_eq]; exact e
        rw [this]; rfl
      · rw [if_neg (by rw [litS_eq]; exact e), ih]
        have : (x.toList == g.gs[i]!.name.toList) = false := beq_eq_false_iff_ne.2 e
        rw [this, Bool.false_or]
    · rw [if_neg h, if_neg h]; exact ih

set_option maxRecDepth 100000 in
set_option maxHeartbeats 2000000 in
theorem within_any (w : World) (g : Gr) (s : ByteArray) (hI : InG w g) (hz : SzG g) :
    Calls Try.prog 129 #[.agg #[.slice g.ga g.gs.length g.gc, .slice g.ea g.es.length g.ec, .slice g.ra g.rs.length g.rc, .slice g.ua g.us.length g.uc], .string s] w fun e w' =>
      e = .returned (.map (some (w.heap.size + 1))) ∧ MapFn w' Try.prog 9 3 (w.heap.size + 1) g.gs.length (wthF g s.toList g.gs.length) ∧ Below w.heap.size w w' := by
  have hmm := @run_makeMap Try.prog
  have z1 := hz.gs
  have hm0 := MapFn.made (w.alloc (.cells #[.slice g.ga g.gs.length g.gc, .slice g.ea g.es.length g.ec, .slice g.ra g.rs.length g.rc, .slice g.ua g.us.length g.uc] 27)) Try.prog 9 3
  rw [World.size_alloc] at hm0
  have HM0 := Lib.hid hm0
  have HI := Lib.hid hI
  have HZ := Lib.hid hz
  clear hI hz hm0
  go_enter Try.func129, Try.ntmps129
  go_wp2_with fail
  clear hmm
  go_loopw [6, 7, 8, 9, 14] (fun _ _ _ _ i wr => ∃ k : Nat, k ≤ g.gs.length ∧ i = .int .i64 k ∧ Hid (MapFn wr Try.prog 9 3 (w.heap.size + 1) k (wthF g s.toList k)) ∧ Below w.heap.size w wr) (fun _ _ _ _ i _ => g.gs.length - (intOf i).toNat)
  case atStart => exact ⟨0, Nat.zero_le _, rfl, HM0, ((Below.refl _ _).alloc (Nat.le_refl _) _).alloc (by simp) _⟩
  case round =>
    obtain ⟨k, hk, rfl, HM, hB⟩ := hrel
    have hBz := hB.size
    by_cases hlt : k < g.gs.length
    · obtain ⟨b, off, hA, hb, hc⟩ := HI.out.gs.at_ (k := 2) (fun _ => rfl) (by omega) hlt
      have k0 := hc 0 _ rfl
      rw [Nat.add_zero] at k0
      have k1 := hc 1 _ rfl
      rw [← hB.cell (p := ⟨b, _, none⟩) hb] at k0 k1
      obtain ⟨hsn, hsp⟩ := HZ.out.gp _ (mem_at hlt)
      have hbk : b < wr.heap.size := by omega
      have hMl := HM.out.lt
      have hW : Below wr.heap.size wr (wr.alloc (.cells #[.string g.gs[k]!.name, .string g.gs[k]!.parent] 83)) := (Below.refl _ _).alloc (Nat.le_refl _) _
      have hm1 := HM.out.below (Nat.le_refl _) hW
      have hl := hm1.look_ok lawS Try.underlying117 Try.underlying3 (Try.zeroValue3 _) (keyS hsp)
      rw [wthF_in] at hl
      have hBW : Below w.heap.size w (wr.alloc (.cells #[.string g.gs[k]!.name, .string g.gs[k]!.parent] 83)) := hB.trans (hW.mono hBz)
      have HW1 : Hid (wthF g s.toList (k + 1) = if inB g s.toList k g.gs[k]!.parent.toList || g.gs[k]!.name.toList == s.toList then fun l => if l = litS g.gs[k]!.name then some k else wthF g s.toList k l else wthF g s.toList k) := Lib.hid rfl
      generalize (wthF g s.toList k (litS g.gs[k]!.parent)).getD 0 = q at *
      obtain ⟨w1, hup, hm2, hgr⟩ := hm1.update lawS Try.underlying117 Try.underlying3 (by unfold maxLen; omega) (keyS hsn) k (by omega)
      have HM1 := Lib.hid hm1
      have HM2 := Lib.hid hm2
      have HB1 := Lib.hid (hBW.grown hgr (by rw [World.size_alloc]; omega) (fun j e => by cases e; omega))
      have HBW := Lib.hid hBW
      clear hm1 hm2 hgr HM hW hBW hc
      cases hi : inB g s.toList k g.gs[k]!.parent.toList with
      | true =>
        rw [hi] at hl HW1
        rw [Bool.true_or, if_pos rfl] at HW1
        clear hi
        generalize g.gs[k]! = p at *
        subst_vars
        go_wp2_with fail
        go_roundw
        case rel => exact ⟨k + 1, hlt, by go_num, Lib.hid (by rw [HW1.out]; exact HM2.out), HB1.out⟩
        case measure => simp [intOf]; omega
      | false =>
        rw [hi] at hl HW1
        rw [Bool.false_or] at HW1
        clear hi
        cases hn : (g.gs[k]!.name.toList == s.toList) with
        | true =>
          rw [hn, if_pos rfl] at HW1
          generalize g.gs[k]! = p at *
          go_wp2_with fail
          go_roundw
          case rel => exact ⟨k + 1, hlt, by go_num, Lib.hid (by rw [HW1.out]; exact HM2.out), HB1.out⟩
          case measure => simp [intOf]; omega
        | false =>
          rw [hn, if_neg (by decide)] at HW1
          generalize g.gs[k]! = p at *
          go_wp2_with fail
          go_roundw
          case rel => exact ⟨k + 1, hlt, by go_num, Lib.hid (by rw [HW1.out]; exact HM1.out.mono (by omega)), HBW.out⟩
          case measure => simp [intOf]; omega
    · obtain rfl : k = g.gs.length := by omega
      go_wp2_with fail
      go_ret
      exact ⟨rfl, HM.out, hB⟩
end Go.Proofs.Ytplplkchibefjaa
