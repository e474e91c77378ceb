/-
  Contracts of the library's search for a text, of graph.repeats, and of the looker's look at the limits.
-/
import Derived.Test.YtplplkchibefjaaGrD
namespace Go.Proofs.Ytplplkchibefjaa
open Go.RowKit Go.Shelf

theorem Row.take {w : World} {A : Option Addr} {l : List ByteArray} (h : Row w A (l.map Value.string)) (i : Nat) : Row w A ((l.take i).map Value.string) := by
  intro hn
  obtain ⟨b, off, h1, h2, h3⟩ := h (fun e => hn (by rw [List.map_take, e]; simp))
  refine ⟨b, off, h1, h2, fun j u hu => h3 j u ?_⟩
  rw [List.map_take, List.getElem?_take] at hu
  split at hu
  · exact hu
  · cases hu
def eqS (s x : ByteArray) : Bool := s.toList == x.toList
set_option maxHeartbeats 1000000 in
theorem index_any (A : Option Addr) (c : Nat) (l : List ByteArray) (s : ByteArray) (w : World) (hr : Row w A (l.map Value.string)) (hl : l.length * 16 ≤ 140737488351232) :
    Calls Try.prog 138 #[.slice A l.length c, .string s] w fun e w' => e = .returned (.int .i64 (idxB (eqS s) l)) ∧ w = w' := by
  go_enter Try.func138, Try.ntmps138
  go_wp2
  go_loop [5, 8] (fun _ i => ∃ k : Nat, k ≤ l.length ∧ i = .int .i64 k ∧ Hid (∀ j, j < k → eqS s l[j]! = false)) (fun _ i => l.length - (intOf i).toNat)
  case atStart => exact ⟨0, Nat.zero_le _, rfl, fun j hj => absurd hj (Nat.not_lt_zero _)⟩
  case round =>
    obtain ⟨k, hk, rfl, HR⟩ := hrel
    by_cases hlt : k < l.length
    · obtain ⟨b, off, rfl, hb, hc⟩ := hr.str_at hlt
      cases hn : eqS s l[k]! with
      | false =>
        have HR' := Lib.hid (all_step (p := eqS s) HR.out hn)
        have hn' : (s.toList == l[k]!.toList) = false := hn
        clear hn HR
        generalize l[k]! = x at *
        go_wp2_with fail
        go_round
        case rel => exact ⟨k + 1, hlt, by go_num, HR'⟩
        case measure => simp [intOf]; omega
      | true =>
        have HF := Lib.hid (idxB_hit (p := eqS s) hlt hn HR.out)
        have hn' : (s.toList == l[k]!.toList) = true := hn
        clear hn HR
        generalize l[k]! = x at *
        go_wp2_with fail
        go_ret
        exact ⟨ret_i64 HF.out.symm, rfl⟩
    · obtain rfl : k = l.length := by omega
      have HF := Lib.hid (idxB_miss (p := eqS s) HR.out)
      clear HR
      go_wp2_with fail
      go_ret
      exact ⟨ret_i64 HF.out.symm, rfl⟩
theorem any_eqS (s : ByteArray) : ∀ l : List ByteArray, l.any (eqS s) = (l.map (·.toList)).contains s.toList
  | [] => rfl
  | x :: r => by rw [List.any_cons, List.map_cons, List.contains_cons, any_eqS s r]; rfl
set_option maxHeartbeats 400000 in
theorem contains_any (A : Option Addr) (c : Nat) (l : List ByteArray) (s : ByteArray) (w : World) (hr : Row w A (l.map Value.string)) (hl : l.length * 16 ≤ 140737488351232) :
    Calls Try.prog 126 #[.slice A l.length c, .string s] w fun e w' => e = .returned (.bool ((l.map (·.toList)).contains s.toList)) ∧ w = w' := by
  have HA := Lib.hid (idxB_any (eqS s) l)
  go_enter Try.func126, Try.ntmps126
  go_wp2_with (go_at_call 138; refine (index_any A c l s _ hr hl).mono ?_; rintro e w' ⟨rfl, rfl⟩)
  go_ret
  exact ⟨ret_bool (by rw [← any_eqS, ← HA.out]), rfl⟩

theorem rep_step {l : List ByteArray} {k : Nat} (hk : k < l.length) (h : repeatsL (l.map (·.toList)) k = false) (hc : ((l.take k).map (·.toList)).contains l[k]!.toList = false) : repeatsL (l.map (·.toList)) (k + 1) = false := by
  rw [repeatsL, h, Bool.false_or, ← List.map_take, List.getElem?_map, List.getElem?_eq_getElem hk, ← getElem!_pos l k hk]
  exact hc
theorem rep_mono {l : List Key} : ∀ {n k : Nat}, repeatsL l k = true → k ≤ n → repeatsL l n = true
  | 0, k, h, hk => by obtain rfl : k = 0 := by omega
                      exact h
  | n + 1, k, h, hk => by
    by_cases e : k = n + 1
    · rw [← e]; exact h
    · rw [repeatsL, rep_mono h (by omega : k ≤ n), Bool.true_or]
theorem rep_hit {l : List ByteArray} {k : Nat} (hk : k < l.length) (hc : ((l.take k).map (·.toList)).contains l[k]!.toList = true) : repeatsL (l.map (·.toList)) l.length = true := by
  refine rep_mono (k := k + 1) ?_ hk
  rw [repeatsL, ← List.map_take, List.getElem?_map, List.getElem?_eq_getElem hk, ← getElem!_pos l k hk]
  show (_ || ((l.take k).map (·.toList)).contains l[k]!.toList) = true
  rw [hc, Bool.or_true]
set_option maxHeartbeats 1000000 in
theorem repeats_any (A : Option Addr) (c : Nat) (l : List ByteArray) (w : World) (hr : Row w A (l.map Value.string)) (hl : l.length * 16 ≤ 140737488351232) (hlc : l.length ≤ c) :
    Calls Try.prog 111 #[.slice A l.length c] w fun e w' => e = .returned (.bool (repeatsL (l.map (·.toList)) l.length)) ∧ w = w' := by
  go_enter Try.func111, Try.ntmps111
  go_wp2
  go_loop [3, 4, 7] (fun _ _ i => ∃ k : Nat, k ≤ l.length ∧ i = .int .i64 k ∧ Hid (repeatsL (l.map (·.toList)) k = false)) (fun _ _ i => l.length - (intOf i).toNat)
  case atStart => exact ⟨0, Nat.zero_le _, rfl, rfl⟩
  case round =>
    obtain ⟨k, hk, rfl, HR⟩ := hrel
    by_cases hlt : k < l.length
    · obtain ⟨b, off, rfl, hb, hc⟩ := hr.str_at hlt
      have hlen : (l.take k).length = k := by rw [List.length_take]; omega
      have C := contains_any (some ⟨b, off, none⟩) c (l.take k) l[k]! w (hr.take k) (by rw [hlen]; omega)
      rw [hlen] at C
      have CC := Lib.hid C
      clear C hlen
      cases hn : ((l.take k).map (·.toList)).contains l[k]!.toList with
      | false =>
        have HR' := Lib.hid (rep_step hlt HR.out hn)
        rw [hn] at CC
        clear hn HR
        generalize l[k]! = x at *
        go_wp2_with (go_at_call 126; refine CC.out.mono ?_; rintro e w' ⟨rfl, rfl⟩)
        go_round
        case rel => exact ⟨k + 1, hlt, by go_num, HR'⟩
        case measure => simp [intOf]; omega
      | true =>
        have HF := Lib.hid (rep_hit hlt hn)
        rw [hn] at CC
        clear hn HR
        generalize l[k]! = x at *
        go_wp2_with (go_at_call 126; refine CC.out.mono ?_; rintro e w' ⟨rfl, rfl⟩)
        go_ret
        exact ⟨ret_bool HF.out.symm, rfl⟩
    · obtain rfl : k = l.length := by omega
      go_wp2_with fail
      go_ret
      exact ⟨ret_bool HR.out.symm, rfl⟩
end Go.Proofs.Ytplplkchibefjaa
