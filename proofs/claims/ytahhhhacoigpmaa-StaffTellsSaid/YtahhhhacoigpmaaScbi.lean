/-
  Contracts of the document's own hasGroup, hasEvent, hasUser, there. (made by wip/tools/gen_has.py) Plain facts of the model of layer 1: what an answer looks like; what stands ahead of an error; no Go, no program. Plain facts of the model of layer 1: tokens that are joined are the same again. Plain facts of the model of layer 1 that the document's own Lex and Name need, where package lex's Lex is not reached. (made by wip/tools/mklxt.py) Plain facts for the document's own answer of layer 1: kinds of bytes, how a number is read there; and the contract of its kind.
-/
import Derived.Test.YtahhhhacoigpmaaScbc
import Derived.Test.YtahhhhacoigpmaaScaa
namespace Go.Proofs.Ytahhhhacoigpmaa
open Go.RowKit Go.Shelf
section
variable {α : Type} [Inhabited α] (nm : α → ByteArray)
theorem idx_le (s : ByteArray) : ∀ (l : List α) (k : Nat), k < l.length → ((nm l[k]!).toList == s.toList) = true → (l.map fun x => (nm x).toList).idxOf s.toList ≤ k
  | [], _, h, _ => by simp at h
  | a :: r, 0, _, h => by
    rw [List.map_cons, List.idxOf_cons]
    have h' : ((nm a).toList == s.toList) = true := h
    rw [h']; exact Nat.le_refl _
  | a :: r, k + 1, hk, h => by
    have ih := idx_le s r k (by simpa using hk) h
    rw [List.map_cons, List.idxOf_cons]
    cases ((nm a).toList == s.toList) with
    | true => exact Nat.zero_le _
    | false => exact Nat.succ_le_succ ih
theorem le_idx (s : ByteArray) : ∀ (l : List α) (n : Nat), n ≤ l.length → (∀ j, j < n → ((nm l[j]!).toList == s.toList) = false) → n ≤ (l.map fun x => (nm x).toList).idxOf s.toList
  | _, 0, _, _ => Nat.zero_le _
  | [], n + 1, h, _ => by simp at h
  | a :: r, n + 1, hn, h => by
    have ih := le_idx s r n (by simpa using hn) (fun j hj => h (j + 1) (by omega))
    have h' : ((nm a).toList == s.toList) = false := h 0 (by omega)
    rw [List.map_cons, List.idxOf_cons, h']
    exact Nat.succ_le_succ ih
theorem ahead_hit {s : ByteArray} {l : List α} {k n : Nat} (hk : k < n) (hl : k < l.length) (h : ((nm l[k]!).toList == s.toList) = true) : aheadB (l.map fun x => (nm x).toList) s.toList n = true := by
  have := idx_le nm s l k hl h
  unfold aheadB; rw [decide_eq_true_eq]; omega
theorem ahead_miss {s : ByteArray} {l : List α} {n : Nat} (hn : n ≤ l.length) (h : ∀ j, j < n → ((nm l[j]!).toList == s.toList) = false) : aheadB (l.map fun x => (nm x).toList) s.toList n = false := by
  have := le_idx nm s l n hn h
  unfold aheadB; rw [decide_eq_false_iff_not]; omega
theorem at_hit {s : ByteArray} {l : List α} {k : Nat} (hl : k < l.length) (h : ((nm l[k]!).toList == s.toList) = true) (hm : ∀ j, j < k → ((nm l[j]!).toList == s.toList) = false) : (l.map fun x => (nm x).toList).idxOf s.toList = k := by
  have h1 := idx_le nm s l k hl h
  have h2 := le_idx nm s l k (by omega) hm
  omega
theorem no_more {s : ByteArray} {l : List α} {k : Nat} (h : ∀ j, j < k → ((nm l[j]!).toList == s.toList) = false) (hk : ((nm l[k]!).toList == s.toList) = false) : ∀ j, j < k + 1 → ((nm l[j]!).toList == s.toList) = false := by
  intro j hj
  rcases Nat.lt_or_ge j k with h1 | h1
  · exact h j h1
  · obtain rfl : j = k := by omega
    exact hk
omit [Inhabited α] in
theorem ahead_all {s : ByteArray} {l : List α} : aheadB (l.map fun x => (nm x).toList) s.toList l.length = hasB (l.map fun x => (nm x).toList) s.toList := by
  rw [Bool.eq_iff_iff]
  unfold aheadB hasB
  rw [decide_eq_true_eq, List.contains_iff_mem, ← List.idxOf_lt_length_iff, List.length_map]
end
theorem box_was {w w1 : World} {g : Gr} (hb : Below (w.heap.size + 1) (boxW w g) w1) : Below w.heap.size w w1 :=
  (box_below w g).trans (hb.mono (by omega))
set_option maxRecDepth 100000 in
set_option maxHeartbeats 1000000 in
theorem hasGroup_any (w : World) (g : Gr) (s : ByteArray) (n : Nat) (hI : InG w g) (hz : g.gs.length * 32 ≤ 140737488351232) (hn : n ≤ g.gs.length) :
    Calls Try.prog 71 #[.agg #[.slice g.ga g.gs.length g.gc, .slice g.ea g.es.length g.ec, .slice g.ra g.rs.length g.rc, .slice g.ua g.us.length g.uc], .string s, .int .i64 n] w fun e w' => e = .returned (.bool (aheadB (gns g) s.toList n)) ∧ Below w.heap.size w w' := by
  have HI := Lib.hid hI.gs
  clear hI
  go_enter Try.func71, Try.ntmps71
  go_wp2_with fail
  go_loopw [7] (fun i wr => ∃ k : Nat, k ≤ n ∧ i = .int .i64 k ∧ Hid (∀ j, j < k → ((Gp.name g.gs[j]!).toList == s.toList) = false) ∧ Below (w.heap.size + 1) (boxW w g) wr) (fun i _ => n - (intOf i).toNat)
  case atStart => exact ⟨0, Nat.zero_le _, rfl, Lib.hid (fun j hj => absurd hj (Nat.not_lt_zero _)), by rw [← box_size w g]; exact Below.refl _ _⟩
  case round =>
    obtain ⟨k, hk, rfl, HR, hB⟩ := hrel
    obtain ⟨a0, a1, a2, a3⟩ := box_cells hB
    by_cases hlt : k < n
    · have hll : k < g.gs.length := by omega
      obtain ⟨b, off, hA, hb, hc⟩ := HI.out.at_ (k := 2) (fun _ => rfl) (by omega) hll
      have k0 := hc 0 _ rfl
      rw [Nat.add_zero] at k0
      have k1 := hc 1 _ rfl
      rw [← (box_was hB).cell (p := ⟨b, _, none⟩) hb] at k0 k1
      rw [hA] at a0
      have hk0 : (0 : Int) ≤ (k : Int) := Int.natCast_nonneg _
      have hk1 : (k : Int) < (g.gs.length : Int) := by omega
      have hk2 : (k : Int) < (n : Int) := by omega
      clear hc hA
      cases hq : ((Gp.name g.gs[k]!).toList == s.toList) with
      | true =>
        have HF := Lib.hid (ahead_hit Gp.name hlt hll hq)
        clear HR
        generalize g.gs[k]! = p at *
        go_wp2_with fail
        go_ret
        exact ⟨ret_bool HF.out.symm, box_was hB⟩
      | false =>
        have HR' := Lib.hid (no_more Gp.name HR.out hq)
        clear HR
        generalize g.gs[k]! = p at *
        go_wp2_with fail
        go_roundw
        case rel => exact ⟨k + 1, hlt, by go_num, HR', hB⟩
        case measure => simp [intOf]; omega
    · obtain rfl : k = n := by omega
      have HF := Lib.hid (ahead_miss Gp.name hn HR.out)
      have hk2 : ¬ (k : Int) < (k : Int) := by omega
      clear HR
      go_wp2_with fail
      go_ret
      exact ⟨ret_bool HF.out.symm, box_was hB⟩
set_option maxRecDepth 100000 in
set_option maxHeartbeats 1000000 in
theorem hasEvent_any (w : World) (g : Gr) (s : ByteArray) (n : Nat) (hI : InG w g) (hz : g.es.length * 64 ≤ 140737488351232) (hn : n ≤ g.es.length) :
    Calls Try.prog 72 #[.agg #[.slice g.ga g.gs.length g.gc, .slice g.ea g.es.length g.ec, .slice g.ra g.rs.length g.rc, .slice g.ua g.us.length g.uc], .string s, .int .i64 n] w fun e w' => e = .returned (.bool (aheadB (ens g) s.toList n)) ∧ Below w.heap.size w w' := by
  have HI := Lib.hid hI.es
  clear hI
  go_enter Try.func72, Try.ntmps72
  go_wp2_with fail
  go_loopw [7] (fun i wr => ∃ k : Nat, k ≤ n ∧ i = .int .i64 k ∧ Hid (∀ j, j < k → ((Ev.name g.es[j]!).toList == s.toList) = false) ∧ Below (w.heap.size + 1) (boxW w g) wr) (fun i _ => n - (intOf i).toNat)
  case atStart => exact ⟨0, Nat.zero_le _, rfl, Lib.hid (fun j hj => absurd hj (Nat.not_lt_zero _)), by rw [← box_size w g]; exact Below.refl _ _⟩
  case round =>
    obtain ⟨k, hk, rfl, HR, hB⟩ := hrel
    obtain ⟨a0, a1, a2, a3⟩ := box_cells hB
    by_cases hlt : k < n
    · have hll : k < g.es.length := by omega
      obtain ⟨b, off, hA, hb, hc⟩ := HI.out.at_ (k := 6) (fun _ => rfl) (by omega) hll
      have k0 := hc 0 _ rfl
      rw [Nat.add_zero] at k0
      have k1 := hc 1 _ rfl
      have k2 := hc 2 _ rfl
      have k3 := hc 3 _ rfl
      have k4 := hc 4 _ rfl
      have k5 := hc 5 _ rfl
      rw [← (box_was hB).cell (p := ⟨b, _, none⟩) hb] at k0 k1 k2 k3 k4 k5
      rw [hA] at a1
      have hk0 : (0 : Int) ≤ (k : Int) := Int.natCast_nonneg _
      have hk1 : (k : Int) < (g.es.length : Int) := by omega
      have hk2 : (k : Int) < (n : Int) := by omega
      clear hc hA
      cases hq : ((Ev.name g.es[k]!).toList == s.toList) with
      | true =>
        have HF := Lib.hid (ahead_hit Ev.name hlt hll hq)
        clear HR
        generalize g.es[k]! = p at *
        go_wp2_with fail
        go_ret
        exact ⟨ret_bool HF.out.symm, box_was hB⟩
      | false =>
        have HR' := Lib.hid (no_more Ev.name HR.out hq)
        clear HR
        generalize g.es[k]! = p at *
        go_wp2_with fail
        go_roundw
        case rel => exact ⟨k + 1, hlt, by go_num, HR', hB⟩
        case measure => simp [intOf]; omega
    · obtain rfl : k = n := by omega
      have HF := Lib.hid (ahead_miss Ev.name hn HR.out)
      have hk2 : ¬ (k : Int) < (k : Int) := by omega
      clear HR
      go_wp2_with fail
      go_ret
      exact ⟨ret_bool HF.out.symm, box_was hB⟩
/-- The first user of a name, among some. -/
def userAt (g : Gr) (s : List UInt8) (n : Nat) : Int := if aheadB (uns g) s n then ((uns g).idxOf s : Int) else -1
theorem user_hit {g : Gr} {s : ByteArray} {k n : Nat} (hk : k < n) (hl : k < g.us.length) (h : ((Us.name g.us[k]!).toList == s.toList) = true) (hm : ∀ j, j < k → ((Us.name g.us[j]!).toList == s.toList) = false) : userAt g s.toList n = k := by
  unfold userAt
  rw [if_pos (show aheadB (uns g) s.toList n = true from ahead_hit Us.name hk hl h)]
  exact congrArg _ (at_hit Us.name hl h hm)
theorem user_miss {g : Gr} {s : ByteArray} {n : Nat} (h : aheadB (uns g) s.toList n = false) : userAt g s.toList n = -1 := by
  unfold userAt; rw [h]; rfl
set_option maxRecDepth 100000 in
set_option maxHeartbeats 1000000 in
theorem hasUser_any (w : World) (g : Gr) (s : ByteArray) (n : Nat) (hI : InG w g) (hz : g.us.length * 56 ≤ 140737488351232) (hn : n ≤ g.us.length) :
    Calls Try.prog 74 #[.agg #[.slice g.ga g.gs.length g.gc, .slice g.ea g.es.length g.ec, .slice g.ra g.rs.length g.rc, .slice g.ua g.us.length g.uc], .string s, .int .i64 n] w fun e w' => e = .returned (.int .i64 (userAt g s.toList n)) ∧ Below w.heap.size w w' := by
  have HI := Lib.hid hI.us
  clear hI
  go_enter Try.func74, Try.ntmps74
  go_wp2_with fail
  go_loopw [7] (fun i wr => ∃ k : Nat, k ≤ n ∧ i = .int .i64 k ∧ Hid (∀ j, j < k → ((Us.name g.us[j]!).toList == s.toList) = false) ∧ Below (w.heap.size + 1) (boxW w g) wr) (fun i _ => n - (intOf i).toNat)
  case atStart => exact ⟨0, Nat.zero_le _, rfl, Lib.hid (fun j hj => absurd hj (Nat.not_lt_zero _)), by rw [← box_size w g]; exact Below.refl _ _⟩
  case round =>
    obtain ⟨k, hk, rfl, HR, hB⟩ := hrel
    obtain ⟨a0, a1, a2, a3⟩ := box_cells hB
    by_cases hlt : k < n
    · have hll : k < g.us.length := by omega
      obtain ⟨b, off, hA, hb, hc⟩ := HI.out.at_ (k := 3) (fun _ => rfl) (by omega) hll
      have k0 := hc 0 _ rfl
      rw [Nat.add_zero] at k0
      have k1 := hc 1 _ rfl
      have k2 := hc 2 _ rfl
      rw [← (box_was hB).cell (p := ⟨b, _, none⟩) hb] at k0 k1 k2
      rw [hA] at a3
      have hk0 : (0 : Int) ≤ (k : Int) := Int.natCast_nonneg _
      have hk1 : (k : Int) < (g.us.length : Int) := by omega
      have hk2 : (k : Int) < (n : Int) := by omega
      clear hc hA
      cases hq : ((Us.name g.us[k]!).toList == s.toList) with
      | true =>
        have HF := Lib.hid (user_hit hlt hll hq HR.out)
        clear HR
        generalize g.us[k]! = p at *
        go_wp2_with fail
        go_ret
        exact ⟨ret_i64 HF.out.symm, box_was hB⟩
      | false =>
        have HR' := Lib.hid (no_more Us.name HR.out hq)
        clear HR
        generalize g.us[k]! = p at *
        go_wp2_with fail
        go_roundw
        case rel => exact ⟨k + 1, hlt, by go_num, HR', hB⟩
        case measure => simp [intOf]; omega
    · obtain rfl : k = n := by omega
      have HF := Lib.hid (ahead_miss Us.name hn HR.out)
      have hk2 : ¬ (k : Int) < (k : Int) := by omega
      clear HR
      go_wp2_with fail
      go_ret
      exact ⟨ret_i64 (user_miss HF.out).symm, box_was hB⟩
end Go.Proofs.Ytahhhhacoigpmaa

namespace Go.Proofs.Ytahhhhacoigpmaa
/-- A token is passed over whole. -/
theorem lexS_tok {c : UInt8} {r : List UInt8} {k : Nat} {l : List Tok} {t : Tok} (hg : ¬ gapB c = true) (ht : takeL (c :: r) k = some t) (hl : l.length ≠ 5000) :
    lexS (c :: r) 0 k l = lexS ((c :: r).drop t.text.length) 0 (k + t.text.length) (l ++ [t]) := by
  obtain ⟨h1, h2⟩ := takeL_len ht
  simp only [List.length_cons] at h2
  rw [lexS, if_neg hg, ht]
  simp only [hl, if_false]
  rw [lexS_skip _ _ _ _ (by omega)]
  obtain ⟨m, hm⟩ : ∃ m, t.text.length = m + 1 := ⟨t.text.length - 1, by omega⟩
  rw [hm, List.drop_succ_cons]
  congr 1
  omega
end Go.Proofs.Ytahhhhacoigpmaa

namespace Go.Proofs.Ytahhhhacoigpmaa
theorem s59 {c : UInt8} (h : c.toNat = 59) : c = 59 := UInt8.toNat_inj.1 h
/-- A token whose text, alone, is that token. -/
def Own (t : Tok) : Prop := (t.kind = 3 ∧ t.text = [59] ∧ t.val = 0) ∨ (t.text.all innB = true ∧ wordL t.text t.loc = some t)
theorem takeL_own {r : List UInt8} {k : Nat} {t : Tok} (h : takeL r k = some t) : Own t := by
  cases r with
  | nil => simp [takeL] at h
  | cons c r =>
    unfold takeL at h
    simp only at h
    by_cases h59 : c.toNat = 59
    · rw [if_pos h59] at h
      injection h with h; subst h
      left
      refine ⟨rfl, ?_, rfl⟩
      show [c] = [59]
      rw [s59 h59]
    · rw [if_neg h59] at h
      obtain ⟨h1, _, h3⟩ := wordL_some h
      right
      rw [h1, h3]
      exact ⟨runL_all _, h⟩
theorem lexS_own : ∀ (r : List UInt8) (n k : Nat) (l l' : List Tok), lexS r n k l = (l', 0, 0) → (∀ t ∈ l, Own t) → ∀ t ∈ l', Own t
  | [], n, k, l, l', h, ho => by simp [lexS] at h; subst h; exact ho
  | c :: r, n + 1, k, l, l', h, ho => by rw [lexS] at h; exact lexS_own r n (k + 1) l l' h ho
  | c :: r, 0, k, l, l', h, ho => by
    rw [lexS] at h
    by_cases hg : gapB c = true
    · rw [if_pos hg] at h; exact lexS_own r 0 (k + 1) l l' h ho
    · rw [if_neg hg] at h
      cases ht : takeL (c :: r) k with
      | none => rw [ht] at h; simp at h
      | some t =>
        rw [ht] at h
        simp only at h
        by_cases hl : l.length = 5000
        · rw [if_pos hl] at h; simp at h
        · rw [if_neg hl] at h
          refine lexS_own r _ (k + 1) (l ++ [t]) l' h fun x hx => ?_
          rw [List.mem_append, List.mem_singleton] at hx
          rcases hx with hx | rfl
          · exact ho x hx
          · exact takeL_own ht
theorem runL_app : ∀ (x y : List UInt8), x.all innB = true → (∀ c r, y = c :: r → innB c = false) → runL (x ++ y) = x
  | [], y, _, hy => by
    cases y with
    | nil => rfl
    | cons c r => rw [List.nil_append, runL_none c r (hy c r rfl)]
  | a :: x, y, hx, hy => by
    rw [List.all_cons, Bool.and_eq_true] at hx
    rw [List.cons_append, runL_cons a _ hx.1, runL_app x y hx.2 hy]
theorem inn_notgap {c : UInt8} (h : innB c = true) : ¬ gapB c = true := by
  intro e
  simp [innB, letB, digB, gapB] at h e
  omega
end Go.Proofs.Ytahhhhacoigpmaa

namespace Go.Proofs.Ytahhhhacoigpmaa
open Go.RowKit
def semiB : List UInt8 → Bool
  | [] => false
  | c :: _ => decide (c.toNat = 59)
theorem u8_eq {c : UInt8} {n : Nat} (h : n < 256) : c = UInt8.ofNat n ↔ c.toNat = n := by
  constructor
  · rintro rfl; simp; omega
  · intro e; apply UInt8.toNat_inj.1; simp; omega
theorem bytes_eq {t : ByteArray} {l : List UInt8} (h : t.data.toList = l) : t = ⟨l.toArray⟩ := by subst h; simp
theorem take_semi {s : ByteArray} {k : Nat} (hk : k < s.size) (h : semiB (s.data.toList.drop k) = true) : takeL (s.data.toList.drop k) k = some ⟨3, [59], 0, k⟩ := by
  rw [List.drop_eq_getElem_cons (by simpa using hk)] at h ⊢
  simp only [semiB, decide_eq_true_eq] at h
  simp only [takeL, h, if_true]
  rw [(u8_eq (n := 59) (by omega)).2 h]; rfl
def tokC (t : Tok) : List Value := [.int .i64 t.kind, .string ⟨t.text.toArray⟩, .int .i64 t.val, .int .i64 t.loc]
def rowC (l : List Tok) : List Value := l.flatMap tokC
theorem rowC_snoc (l : List Tok) (t : Tok) : rowC (l ++ [t]) = rowC l ++ tokC t := by simp [rowC]
theorem own_apart {w : World} {B e z n : Nat} {v : Value} {xs : List Value} (h : w.ownsRow B e z v n xs) {k : Nat} (hk : w.heap.size ≤ k) : some k ≠ v.ownBlock := by
  intro e; have := (h.lt k e.symm).2; omega
def Toks (w : World) (A : Option Addr) (n : Nat) (l : List Tok) : Prop :=
  n = l.length ∧ (0 < n → ∃ b off, A = some ⟨b, off, none⟩ ∧ b < w.heap.size ∧ ∀ j u, (rowC l)[j]? = some u → w.cell? ⟨b, off + j, none⟩ = some u)
theorem Toks.below {w w' : World} {A : Option Addr} {n : Nat} {l : List Tok} (h : Toks w A n l) (hb : Below w.heap.size w w') : Toks w' A n l := by
  refine ⟨h.1, fun hn => ?_⟩
  obtain ⟨b, off, h1, h2, h3⟩ := h.2 hn
  exact ⟨b, off, h1, by have := hb.size; omega, fun j u hu => (hb.cell (p := ⟨b, off + j, none⟩) h2).trans (h3 j u hu)⟩
theorem Toks.of_own {w : World} {B e : Nat} {A : Option Addr} {n c : Nat} {l : List Tok} (h : w.ownsRow B e 4 (.slice A n c) l.length (rowC l)) : Toks w A n l := by
  rcases h.2 with ⟨hv, h0⟩ | ⟨g, cap, cur, hv, _, hg, _⟩
  · injection hv with h1 h2 h3
    exact ⟨by omega, fun hn => by omega⟩
  · injection hv with h1 h2 h3
    subst h1
    refine ⟨h2, fun _ => ⟨g, 0, rfl, (Array.getElem?_eq_some_iff.1 hg).1, fun j u hu => ?_⟩⟩
    have := h.cells (g := g) rfl j u hu
    rw [Addr.add_lit] at this
    exact this
theorem rowC_at (l : List Tok) : ∀ (k : Nat) (hk : k < l.length), (rowC l)[k * 4]? = some (.int .i64 l[k].kind) ∧ (rowC l)[k * 4 + 1]? = some (.string ⟨l[k].text.toArray⟩) ∧ (rowC l)[k * 4 + 2]? = some (.int .i64 l[k].val) ∧ (rowC l)[k * 4 + 3]? = some (.int .i64 l[k].loc) := by
  induction l with
  | nil => intro k hk; simp at hk
  | cons t r ih =>
    intro k hk
    cases k with
    | zero => exact ⟨rfl, rfl, rfl, rfl⟩
    | succ k =>
      have := ih k (by simpa using hk)
      have e : rowC (t :: r) = tokC t ++ rowC r := by simp [rowC]
      have h4 : (tokC t).length = 4 := rfl
      simp only [List.getElem_cons_succ]
      rw [e]
      refine ⟨?_, ?_, ?_, ?_⟩
      all_goals rw [List.getElem?_append_right (by rw [h4]; omega), h4]
      · rw [show (k + 1) * 4 - 4 = k * 4 from by omega]; exact this.1
      · rw [show (k + 1) * 4 + 1 - 4 = k * 4 + 1 from by omega]; exact this.2.1
      · rw [show (k + 1) * 4 + 2 - 4 = k * 4 + 2 from by omega]; exact this.2.2.1
      · rw [show (k + 1) * 4 + 3 - 4 = k * 4 + 3 from by omega]; exact this.2.2.2
theorem Toks.at_ {w : World} {A : Option Addr} {n k : Nat} {l : List Tok} (h : Toks w A n l) (hk : k < n) : ∃ b off t x, A = some ⟨b, off, none⟩ ∧ b < w.heap.size ∧ l[k]? = some t ∧ x = (⟨t.text.toArray⟩ : ByteArray) ∧
    w.cell? ⟨b, off + k * 4, none⟩ = some (.int .i64 t.kind) ∧ w.cell? ⟨b, off + k * 4 + 1, none⟩ = some (.string x) ∧ w.cell? ⟨b, off + k * 4 + 2, none⟩ = some (.int .i64 t.val) ∧ w.cell? ⟨b, off + k * 4 + 3, none⟩ = some (.int .i64 t.loc) := by
  obtain ⟨b, off, h1, h2, h3⟩ := h.2 (by omega)
  have hk' : k < l.length := by have := h.1; omega
  obtain ⟨c0, c1, c2, c3⟩ := rowC_at l k hk'
  exact ⟨b, off, l[k], _, h1, h2, List.getElem?_eq_getElem hk', rfl, h3 _ _ c0, by rw [Nat.add_assoc]; exact h3 _ _ c1, by rw [Nat.add_assoc]; exact h3 _ _ c2, by rw [Nat.add_assoc]; exact h3 _ _ c3⟩
theorem dig_facts {c : UInt8} (h : digB c = true) : 48 ≤ c.toNat ∧ c.toNat ≤ 57 := by simpa [digB] using h
theorem lexS_ends : ∀ (r : List UInt8) (n k : Nat) (l : List Tok), (∃ l', lexS r n k l = (l', 0, 0)) ∨ (∃ k', lexS r n k l = ([], k', 2)) ∨ ∃ k', lexS r n k l = ([], k', 4)
  | [], n, k, l => .inl ⟨l, by simp [lexS]⟩
  | c :: r, n + 1, k, l => by rw [lexS]; exact lexS_ends r n (k + 1) l
  | c :: r, 0, k, l => by
    rw [lexS]
    by_cases hg : gapB c = true
    · rw [if_pos hg]; exact lexS_ends r 0 (k + 1) l
    · rw [if_neg hg]
      cases ht : takeL (c :: r) k with
      | none => exact .inr (.inl ⟨_, rfl⟩)
      | some t =>
        by_cases hl : l.length = 5000
        · simp only [if_pos hl]; exact .inr (.inr ⟨_, rfl⟩)
        · simp only [if_neg hl]; exact lexS_ends r _ (k + 1) (l ++ [t])
end Go.Proofs.Ytahhhhacoigpmaa

namespace Go.Proofs.Ytahhhhacoigpmaa
open Go.RowKit
def kindN (c : UInt8) : Nat :=
  if letB c then 1 else if digB c then 2 else if c.toNat = 95 then 3 else if c.toNat = 59 then 4 else if gapB c then 5 else 0
theorem kind_let {c : UInt8} (h : letB c = true) : kindN c = 1 := by simp [kindN, h]
theorem kind_dig {c : UInt8} (h : digB c = true) : kindN c = 2 := by
  have : letB c = false := by simp [letB, digB] at h ⊢; omega
  simp [kindN, h, this]
theorem kind_gap {c : UInt8} (h : gapB c = true) : kindN c = 5 := by
  have h1 : letB c = false := by simp [letB, gapB] at h ⊢; omega
  have h2 : digB c = false := by simp [digB, gapB] at h ⊢; omega
  have h3 : ¬ c.toNat = 95 ∧ ¬ c.toNat = 59 := by simp [gapB] at h; omega
  simp [kindN, h, h1, h2, h3]
theorem kind_semi {c : UInt8} (h : c.toNat = 59) : kindN c = 4 := by
  have h1 : letB c = false := by simp [letB, h]
  have h2 : digB c = false := by simp [digB, h]
  simp [kindN, h, h1, h2]
theorem kind_inn (c : UInt8) : (1 ≤ kindN c ∧ kindN c ≤ 3) ↔ innB c = true := by
  unfold kindN innB
  by_cases h1 : letB c = true
  · simp [h1]
  · by_cases h2 : digB c = true
    · simp [h1, h2]
    · by_cases h3 : c.toNat = 95
      · simp [h1, h2, h3]
      · by_cases h4 : c.toNat = 59
        · simp [h1, h2, h4]
        · by_cases h5 : gapB c = true <;> simp [h1, h2, h3, h4, h5]
/-- Of a byte that is no blank: what kind of token begins there. -/
theorem kind_cases (c : UInt8) (hg : gapB c = false) : (letB c = true) ∨ (digB c = true) ∨ (c.toNat = 59) ∨ ((kindN c = 0 ∨ kindN c = 3) ∧ letB c = false ∧ digB c = false ∧ ¬ c.toNat = 59) := by
  by_cases h1 : letB c = true
  · exact .inl h1
  · by_cases h2 : digB c = true
    · exact .inr (.inl h2)
    · by_cases h3 : c.toNat = 59
      · exact .inr (.inr (.inl h3))
      · refine .inr (.inr (.inr ⟨?_, by simpa using h1, by simpa using h2, h3⟩))
        unfold kindN
        by_cases h4 : c.toNat = 95 <;> simp [h1, h2, h3, h4, hg]
theorem take_bad {c : UInt8} {r : List UInt8} (k : Nat) (h1 : letB c = false) (h2 : digB c = false) (h3 : ¬ c.toNat = 59) : takeL (c :: r) k = none := by
  simp only [takeL]
  rw [if_neg h3]
  by_cases hi : innB c = true
  · rw [runL_cons c r hi]
    have hn : nameL (c :: runL r) = false := by simp [nameL, h1]
    have h48 : ¬ c.toNat = 48 := by intro e; simp [digB, e] at h2
    have hv : numL (c :: runL r) = none := by
      rw [numL, if_neg (by simp [h48]), numGo, h2]; simp
    simp [wordL, hn, hv]
  · rw [runL_none c r (by simpa using hi)]
    simp [wordL, nameL, numL]
theorem take_let {c : UInt8} {r : List UInt8} (k : Nat) (h1 : letB c = true) : takeL (c :: r) k = if (runL (c :: r)).length ≤ 20 then some ⟨1, runL (c :: r), 0, k⟩ else none := by
  have hi : innB c = true := by simp [innB, h1]
  have h59 : ¬ c.toNat = 59 := by intro e; simp [letB, e] at h1
  have h48 : ¬ c.toNat = 48 := by intro e; simp [letB, e] at h1
  have hd : digB c = false := by simp [letB, digB] at h1 ⊢; omega
  have ha := runL_all r
  simp only [takeL]
  rw [if_neg h59, runL_cons c r hi]
  have hv : numL (c :: runL r) = none := by rw [numL, if_neg (by simp [h48]), numGo, hd]; simp
  by_cases hl : (runL r).length < 20
  · have hn : nameL (c :: runL r) = true := by rw [nameL, decide_eq_true hl, h1, ha]; rfl
    rw [if_pos (by simp only [List.length_cons]; omega)]
    simp [wordL, hn]
  · have hn : nameL (c :: runL r) = false := by rw [nameL, decide_eq_false hl]; rfl
    rw [if_neg (by simp only [List.length_cons]; omega)]
    simp [wordL, hn, hv]
theorem take_dig {c : UInt8} {r : List UInt8} (k : Nat) (h1 : digB c = true) : takeL (c :: r) k = (numL (runL (c :: r))).map fun v => ⟨2, runL (c :: r), v, k⟩ := by
  have hi : innB c = true := by simp [innB, h1]
  have h59 : ¬ c.toNat = 59 := by intro e; simp [digB, e] at h1
  have hlt : letB c = false := by simp [letB, digB] at h1 ⊢; omega
  simp only [takeL]
  rw [if_neg h59, runL_cons c r hi]
  have hn : nameL (c :: runL r) = false := by simp [nameL, hlt]
  unfold wordL
  rw [hn]
  cases numL (c :: runL r) <;> rfl
/-- How the document's answer reads a number: too great is asked one digit late; z: does it begin with 0; f: is this the first digit. -/
def numR (z f : Bool) : Nat → List UInt8 → Option Nat
  | v, [] => if v ≤ 1048576 then some v else none
  | v, c :: r => if digB c && !(z && !f) && decide (v ≤ 1048576) then numR z false (10 * v + (c.toNat - 48)) r else none
theorem numR_plain (f : Bool) : ∀ (r : List UInt8) (v : Nat), numR false f v r = if v ≤ 1048576 then numGo v r else none
  | [], v => by simp [numR, numGo]
  | c :: r, v => by
    rw [numR, numGo, numR_plain false r]
    by_cases hv : v ≤ 1048576
    · by_cases hd : digB c = true
      · simp [hv, hd, Nat.mul_comm]
      · simp [hd]
    · simp [hv]
theorem numR_is (c : UInt8) (r : List UInt8) : numR (decide (c.toNat = 48)) true 0 (c :: r) = numL (c :: r) := by
  by_cases h : c.toNat = 48
  · have hd : digB c = true := by simp [digB, h]
    cases r with
    | nil => simp [h, numR, numL, numGo, hd]
    | cons a r => simp [h, numR, numL, hd]
  · rw [decide_eq_false h, numR_plain, if_pos (by omega), numL, if_neg (fun e => h e.1)]
theorem ret_int {a b : Int} (h : a = b) : Ending.returned (.int .i64 a) = .returned (.int .i64 b) := by rw [h]
set_option maxHeartbeats 1000000 in
theorem kind_any (c : UInt8) (w : World) : Calls Try.prog 94 #[.int .u8 c.toNat] w fun e w' => e = .returned (.int .i64 (kindN c)) ∧ w = w' := by
  go_enter Try.func94, Try.ntmps94
  go_wp2
  all_goals go_ret
  all_goals
    refine ⟨ret_int ?_, rfl⟩
    try simp only [beq_iff_eq, beq_eq_false_iff_ne] at *
    simp only [kindN, letB, digB, gapB, Bool.and_eq_true, Bool.or_eq_true, decide_eq_true_eq]
    repeat' split
    all_goals omega
end Go.Proofs.Ytahhhhacoigpmaa
