/-
  Contract of the document's own Name of layer 1: is a text a word?
-/
import Derived.Test.YtandfjahfbeaiaaGreatRfA
namespace Go.Proofs.YtandfjahfbeaiaaGreat
open Go.RowKit

theorem name_lex {x : List UInt8} (h : nameL x = true) : lexL x = ([⟨1, x, 0, 0⟩], 0, 0) := by
  obtain ⟨c, r, rfl, h1, h2, h3⟩ := nameL_cons h
  have hi : innB c = true := by simp [innB, h2]
  have hr : runL (c :: r) = c :: r := by
    have := runL_app (c :: r) [] (by simp [hi, h3]) (fun _ _ e => by cases e)
    simpa using this
  have ht := take_let (c := c) (r := r) 0 h2
  rw [hr, if_pos (by simp only [List.length_cons]; omega)] at ht
  show lexS (c :: r) 0 0 [] = _
  rw [lexS_tok (inn_notgap hi) ht (by simp)]
  simp [lexS]
theorem lex_name {x : List UInt8} {t : Tok} (h : lexL x = ([t], 0, 0)) (hk : t.kind = 1) (hx : t.text = x) : nameL x = true := by
  rcases lexS_own _ _ _ _ _ h (by simp) t (by simp) with ⟨h1, _⟩ | ⟨_, h2⟩
  · omega
  · rw [hx] at h2
    unfold wordL at h2
    by_cases hn : nameL x = true
    · exact hn
    · rw [if_neg hn] at h2
      cases hv : numL x with
      | none => rw [hv] at h2; simp at h2
      | some v => rw [hv] at h2; injection h2 with h2; rw [← h2] at hk; simp at hk

set_option maxHeartbeats 1000000 in
theorem refName_any (s : ByteArray) (w : World) (hs : s.size ≤ 140737488351232) : Calls Tryz.prog 113 #[.string s] w fun e w' => e = .returned (.bool (nameL s.data.toList)) ∧ Below w.heap.size w w' := by
  have C := fun W => Lib.hid (ref_any s W (by omega))
  rcases lexS_ends s.data.toList 0 0 [] with ⟨l, hl⟩ | ⟨k, hl⟩ | ⟨k, hl⟩
  all_goals replace hl : lexL s.data.toList = _ := hl
  · by_cases h1 : l.length = 1
    · obtain ⟨t, rfl⟩ : ∃ t, l = [t] := List.length_eq_one_iff.1 h1
      have hb : nameL s.data.toList = (decide (t.kind = 1) && decide (t.text = s.data.toList)) := by
        rw [Bool.eq_iff_iff]
        constructor
        · intro hn
          have := name_lex hn
          rw [hl] at this
          simp only [Prod.mk.injEq, List.cons.injEq, and_true] at this
          rw [this]; simp
        · intro hb
          simp only [Bool.and_eq_true, decide_eq_true_eq] at hb
          exact lex_name hl hb.1 hb.2
      have HB := Lib.hid hb
      rw [hl] at C
      clear hl hb h1
      go_enter Tryz.func113, Tryz.ntmps113
      go_wp2_with fail
      refine (C _).out.mono ?_
      rintro e w1 ⟨v, rfl, hown, hb1⟩
      simp only [List.length_cons, List.length_nil, Nat.zero_add] at hown
      obtain ⟨va, vc, rfl⟩ := own_slice hown
      have ht : Toks w1 va 1 [t] := Toks.of_own hown
      obtain ⟨b, off, t', x, rfl, hbl, htk, hx, c0, c1, c2, c3⟩ := ht.at_ (k := 0) (by omega)
      simp only [List.getElem?_cons_zero, Option.some.injEq] at htk
      subst htk
      simp only [Nat.zero_mul, Nat.add_zero] at c0 c1
      have hx' : x.toList = t.text := by rw [hx, Lib.toList_data]
      by_cases hk1 : t.kind = 1
      · have hk1' : ((t.kind : Int) == 1) = true := by rw [beq_iff_eq]; omega
        by_cases hts : t.text = s.data.toList
        · have e1 : (x.toList == s.toList) = true := by rw [beq_iff_eq, hx', hts, Lib.toList_data]
          have HF : Hid (nameL s.data.toList = true) := Lib.hid (by rw [HB.out, decide_eq_true hk1, decide_eq_true hts]; rfl)
          clear hx hx' hown ht hk1 hts HB c2 c3
          go_wp2_with fail
          go_ret
          exact ⟨ret_bool HF.out.symm, hb1⟩
        · have e1 : (x.toList == s.toList) = false := by rw [beq_eq_false_iff_ne, hx', Lib.toList_data]; exact hts
          have HF : Hid (nameL s.data.toList = false) := Lib.hid (by rw [HB.out, decide_eq_false hts, Bool.and_false])
          clear hx hx' hown ht hk1 hts HB c2 c3
          go_wp2_with fail
          go_ret
          exact ⟨ret_bool HF.out.symm, hb1⟩
      · have hk1' : ((t.kind : Int) == 1) = false := by rw [beq_eq_false_iff_ne]; omega
        have HF : Hid (nameL s.data.toList = false) := Lib.hid (by rw [HB.out, decide_eq_false hk1, Bool.false_and])
        clear hx hx' hown ht hk1 HB c1 c2 c3
        go_wp2_with fail
        go_ret
        exact ⟨ret_bool HF.out.symm, hb1⟩
    · have HF : Hid (nameL s.data.toList = false) := Lib.hid (by
        cases hn : nameL s.data.toList with
        | false => rfl
        | true =>
          have := name_lex hn
          rw [hl] at this
          simp only [Prod.mk.injEq, and_true] at this
          rw [this] at h1; simp at h1)
      have h1' : ((l.length : Int) == 1) = false := by rw [beq_eq_false_iff_ne]; omega
      rw [hl] at C
      clear hl h1
      go_enter Tryz.func113, Tryz.ntmps113
      go_wp2_with fail
      refine (C _).out.mono ?_
      rintro e w1 ⟨v, rfl, hown, hb1⟩
      simp only at hown
      obtain ⟨va, vc, rfl⟩ := own_slice hown
      clear hown
      go_wp2_with fail
      go_ret
      exact ⟨ret_bool HF.out.symm, hb1⟩
  · have HF : Hid (nameL s.data.toList = false) := Lib.hid (by
      cases hn : nameL s.data.toList with
      | false => rfl
      | true =>
        have := name_lex hn
        rw [hl] at this
        simp at this)
    rw [hl] at C
    clear hl
    go_enter Tryz.func113, Tryz.ntmps113
    go_wp2_with fail
    refine (C _).out.mono ?_
    rintro e w1 ⟨v, rfl, hown, hb1⟩
    clear hown
    go_wp2_with fail
    go_ret
    exact ⟨ret_bool HF.out.symm, hb1⟩
  · have HF : Hid (nameL s.data.toList = false) := Lib.hid (by
      cases hn : nameL s.data.toList with
      | false => rfl
      | true =>
        have := name_lex hn
        rw [hl] at this
        simp at this)
    rw [hl] at C
    clear hl
    go_enter Tryz.func113, Tryz.ntmps113
    go_wp2_with fail
    refine (C _).out.mono ?_
    rintro e w1 ⟨v, rfl, hown, hb1⟩
    clear hown
    go_wp2_with fail
    go_ret
    exact ⟨ret_bool HF.out.symm, hb1⟩
end Go.Proofs.YtandfjahfbeaiaaGreat
