/-
  Plain facts for Parse: the sizes of what a statement tells.
-/
import Derived.Test.YtigbceankmfaeaaGreatDoorTbcj
namespace Go.Proofs.YtigbceankmfaeaaGreatDoor.P3.C
open Go.RowKit Go.Shelf Go.Proofs.YtigbceankmfaeaaGreatDoor.B Go.Proofs.YtigbceankmfaeaaGreatDoor.Lx Go.Proofs.YtigbceankmfaeaaGreatDoor.P3
theorem numGo_le : ∀ (r : List UInt8) (v u : Nat), v ≤ 1048576 → numGo v r = some u → u ≤ 1048576
  | [], v, u, hv, h => by rw [numGo] at h; injection h with h; omega
  | c :: r, v, u, hv, h => by
    rw [numGo] at h
    by_cases hd : digB c = true
    · rw [if_pos hd] at h
      by_cases hl : v * 10 + (c.toNat - 48) ≤ 1048576
      · rw [if_pos hl] at h; exact numGo_le r _ u hl h
      · rw [if_neg hl] at h; cases h
    · rw [if_neg hd] at h; cases h
theorem numL_le {x : List UInt8} {v : Nat} (h : numL x = some v) : v ≤ 1048576 := by
  cases x with
  | nil => cases h
  | cons c r =>
    rw [numL] at h
    by_cases hc : c.toNat = 48 ∧ r ≠ []
    · rw [if_pos hc] at h; cases h
    · rw [if_neg hc] at h; exact numGo_le _ 0 v (by decide) h
theorem take_val {r : List UInt8} {k : Nat} {t : Tok} (h : takeL r k = some t) : t.val ≤ 1048576 := by
  unfold takeL at h
  split at h
  · cases h
  · split at h
    · injection h with h; subst h; exact Nat.zero_le _
    · unfold wordL at h
      split at h
      · injection h with h; subst h; exact Nat.zero_le _
      · split at h
        · rename_i hv; injection h with h; subst h; exact numL_le hv
        · cases h
def GT (M : Nat) (t : Tok) : Prop := t.text.length ≤ M ∧ t.val ≤ 1048576
theorem lexS_good (M : Nat) : ∀ (r : List UInt8) (n k : Nat) (l l' : List Tok) (k' : Nat), lexS r n k l = (l', k', 0) → r.length ≤ M → (∀ t ∈ l, GT M t) → ∀ t ∈ l', GT M t
  | [], n, k, l, l', k', h, _, hl => by simp [lexS] at h; rw [← h.1]; exact hl
  | c :: r, n + 1, k, l, l', k', h, hr, hl => by rw [lexS] at h; exact lexS_good M r n (k + 1) l l' k' h (by simp at hr; omega) hl
  | c :: r, 0, k, l, l', k', h, hr, hl => by
    rw [lexS] at h
    have hr' : r.length ≤ M := by simp at hr; omega
    by_cases hg : gapB c = true
    · rw [if_pos hg] at h; exact lexS_good M r 0 (k + 1) l l' k' h hr' hl
    · rw [if_neg hg] at h
      cases ht : takeL (c :: r) k with
      | none => rw [ht] at h; simp at h
      | some t =>
        rw [ht] at h
        simp only at h
        by_cases h5 : l.length = 5000
        · rw [if_pos h5] at h; simp at h
        · rw [if_neg h5] at h
          refine lexS_good M r _ (k + 1) (l ++ [t]) l' k' h hr' (fun u hu => ?_)
          rcases List.mem_append.1 hu with hu | hu
          · exact hl u hu
          · obtain rfl := List.mem_singleton.1 hu
            exact ⟨Nat.le_trans (takeL_len ht).2 hr, take_val ht⟩
def GB (M : Nat) (L : List B3) : Prop := ∀ t ∈ L, t.2.1.length ≤ M ∧ t.2.2 ≤ 1048576
section
variable {M : Nat} {L : List B3}
theorem takT_le (h : GB M L) (x : Key) (s : RS) : (takT L x s).length ≤ M := by
  unfold takT
  split
  · split
    · exact Nat.zero_le _
    · rename_i t ht; exact (h t (List.mem_of_getElem? ht)).1
  · exact Nat.zero_le _
theorem takN_le (h : GB M L) (x : Key) (s : RS) : takN L x s ≤ 1048576 := by
  unfold takN
  split
  · split
    · exact Nat.zero_le _
    · rename_i t ht; exact (h t (List.mem_of_getElem? ht)).2
  · exact Nat.zero_le _
theorem optV_le (h : GB M L) (x : Key) (s : RS) : (optV L x s).length ≤ M := by
  unfold optV
  split
  · exact takT_le h _ _
  · exact Nat.zero_le _
theorem roles_le (h : GB M L) : ∀ (n : Nat) (s : RS), (rolesS L n s).2.length ≤ n ∧ ∀ x ∈ (rolesS L n s).2, x.length ≤ M
  | 0, s => ⟨Nat.le_refl _, fun x hx => by cases hx⟩
  | n + 1, s => by
    rw [rolesS]
    split
    · have ih := roles_le h n (mayS L [110] s)
      refine ⟨by simp; omega, fun x hx => ?_⟩
      rcases List.mem_cons.1 hx with rfl | hx
      · exact takT_le h _ _
      · exact ih.2 x hx
    · exact ⟨Nat.zero_le _, fun x hx => by cases hx⟩
theorem due_le (h : GB M L) (s : RS) : -1 ≤ dueV L s ∧ dueV L s ≤ 1048576 := by
  unfold dueV
  split
  · omega
  · split
    · have := takN_le h [100] (mayS L kDue s); omega
    · omega
theorem kindV_le (s : RS) : 0 ≤ kindV L s ∧ kindV L s ≤ 5 := by
  unfold kindV
  repeat' split
  all_goals omega
theorem time_le (h : GB M L) (k : Int) (s : RS) : 0 ≤ timeV L k s ∧ timeV L k s ≤ 1048576 := by
  unfold timeV untB
  split
  · have := takN_le h [100] s; omega
  · split <;> omega
end
theorem bytes_size (l : List UInt8) : (bytes l).size = l.length := by simp [bytes, ByteArray.size]
theorem wf_of {i : Int} (h1 : -1 ≤ i) (h2 : i ≤ 1048576) : (Lit.int .i64 i).wf = true := WalkArith.wf_i64 (by constructor <;> omega)
theorem stV_cases (L : List B3) : stV L = .g (grV L).1 (grV L).2 ∨ stV L = .e (evV L) ∨ stV L = .u (usV L) ∨ stV L = .r (rlV L) := by
  unfold stV
  repeat' split
  · exact .inl rfl
  · exact .inr (.inl rfl)
  · exact .inr (.inr (.inl rfl))
  · exact .inr (.inr (.inr rfl))
theorem sz_parts (M : Nat) (hM : M ≤ 140737488351232) (ls : List (List B3)) (hn : ls.length ≤ 5000) (h : ∀ L ∈ ls, GB M L ∧ L.length ≤ 5000) (U : List Us) (a0 a1 a2 a3 : Option Addr) (c0 c1 c2 c3 : Nat) (hU : U.map usBare = usOf (ls.map stV)) :
    SzG ⟨gsOf (ls.map stV), esOf (ls.map stV), rsOf (ls.map stV), U, a0, c0, a1, c1, a2, c2, a3, c3⟩ := by
  have l0 : (gsOf (ls.map stV)).length ≤ ls.length := by have := List.length_filterMap_le (fun v => (match v with | .g a b => some ⟨bytes a, bytes b⟩ | _ => none : Option Gp)) (ls.map stV); rw [List.length_map] at this; exact this
  have l1 : (esOf (ls.map stV)).length ≤ ls.length := by unfold esOf; refine Nat.le_trans (List.length_filterMap_le _ _) (by rw [List.length_map]; exact Nat.le_refl _)
  have l2 : (rsOf (ls.map stV)).length ≤ ls.length := by unfold rsOf; refine Nat.le_trans (List.length_filterMap_le _ _) (by rw [List.length_map]; exact Nat.le_refl _)
  have l3 : U.length ≤ ls.length := by
    have e : U.length = (usOf (ls.map stV)).length := by rw [← hU, List.length_map]
    rw [e]; unfold usOf; refine Nat.le_trans (List.length_filterMap_le _ _) (by rw [List.length_map]; exact Nat.le_refl _)
  have hv : ∀ v ∈ ls.map stV, ∃ L, (GB M L ∧ L.length ≤ 5000) ∧ v = stV L := by
    intro v hv
    obtain ⟨L, hL, rfl⟩ := List.mem_map.1 hv
    exact ⟨L, h L hL, rfl⟩
  refine ⟨by show (gsOf (ls.map stV)).length * 32 ≤ _; omega, by show (esOf (ls.map stV)).length * 64 ≤ _; omega, by show (rsOf (ls.map stV)).length * 48 ≤ _; omega, by show U.length * 56 ≤ _; omega, ?_, ?_, ?_, ?_⟩
  · intro p hp
    obtain ⟨v, hvm, hvp⟩ := List.mem_filterMap.1 hp
    obtain ⟨L, ⟨hL, _⟩, rfl⟩ := hv v hvm
    rcases stV_cases L with e | e | e | e
    all_goals rw [e] at hvp
    · simp only [Option.some.injEq] at hvp
      subst hvp
      simp only [bytes_size]
      exact ⟨Nat.le_trans (takT_le hL [110] (1, false)) hM, Nat.le_trans (optV_le hL [105, 110] (mustS L [110] (1, false))) hM⟩
    all_goals cases hvp
  · intro p hp
    obtain ⟨v, hvm, hvp⟩ := List.mem_filterMap.1 hp
    obtain ⟨L, ⟨hL, _⟩, rfl⟩ := hv v hvm
    rcases stV_cases L with e | e | e | e
    all_goals rw [e] at hvp
    · cases hvp
    · simp only [Option.some.injEq] at hvp
      subst hvp
      simp only [bytes_size]
      have hd := due_le hL (ev5 L)
      exact ⟨Nat.le_trans (takT_le hL [110] (1, false)) hM, Nat.le_trans (optV_le hL [105, 110] (mustS L [110] (1, false))) hM, Nat.le_trans (takT_le hL [110] (ev2 L)) hM, wf_of (i := dueV L (ev5 L)) hd.1 hd.2⟩
    all_goals cases hvp
  · intro p hp
    obtain ⟨v, hvm, hvp⟩ := List.mem_filterMap.1 hp
    obtain ⟨L, ⟨hL, _⟩, rfl⟩ := hv v hvm
    rcases stV_cases L with e | e | e | e
    all_goals rw [e] at hvp
    · cases hvp
    · cases hvp
    · cases hvp
    · simp only [Option.some.injEq] at hvp
      subst hvp
      simp only [bytes_size]
      have hk := kindV_le (L := L) (0, false)
      have ht := time_le hL (kindV L (0, false)) (rl3 L)
      exact ⟨Nat.le_trans (takT_le hL [110] (rl1 L)) hM, Nat.le_trans (takT_le hL [110] (rl2 L)) hM, wf_of (i := kindV L (0, false)) (by omega) (by omega), wf_of (i := timeV L (kindV L (0, false)) (rl3 L)) (by omega) (by omega)⟩
  · intro p hp
    have hp' : usBare p ∈ usOf (ls.map stV) := by rw [← hU]; exact List.mem_map.2 ⟨p, hp, rfl⟩
    obtain ⟨v, hvm, hvp⟩ := List.mem_filterMap.1 hp'
    obtain ⟨L, ⟨hL, hLn⟩, rfl⟩ := hv v hvm
    rcases stV_cases L with e | e | e | e
    all_goals rw [e] at hvp
    · cases hvp
    · cases hvp
    · simp only [Option.some.injEq, usBare, Us.mk.injEq] at hvp
      obtain ⟨h1, _, _, h2, h3⟩ := hvp
      have hr := roles_le hL L.length (us1 L)
      have h5 : (usV L).roles.length ≤ L.length := hr.1
      rw [← h1, ← h2, ← h3]
      simp only [bytes_size, List.length_map]
      refine ⟨Nat.le_trans (takT_le hL [110] (1, false)) hM, Nat.le_trans (optV_le hL kSub (us2 L).1) hM, by omega, ?_⟩
      intro x hx
      obtain ⟨y, hy, rfl⟩ := List.mem_map.1 hx
      rw [bytes_size]
      exact Nat.le_trans (hr.2 y hy) hM
    · cases hvp
theorem gb_seg {M : Nat} {toks : List Tok} (h : ∀ t ∈ toks, GT M t) (hl : toks.length ≤ 5000) (s : Nat × Nat) : GB M ((segT toks s).map bare) ∧ ((segT toks s).map bare).length ≤ 5000 := by
  refine ⟨fun b hb => ?_, ?_⟩
  · obtain ⟨t, ht, rfl⟩ := List.mem_map.1 hb
    exact h t (List.mem_of_mem_take (List.mem_of_mem_drop ht))
  · unfold segT; rw [List.length_map, List.length_drop, List.length_take]; omega
end Go.Proofs.YtigbceankmfaeaaGreatDoor.P3.C
