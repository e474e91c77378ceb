/-
  Plain facts for Parse: where statements begin, the first wrong one, the beginnings of each part. Plain facts for Parse: the sizes of what a statement tells.
-/
import Derived.Test.YtjgcjnkeeiaafaaGreatDoorTcbg
import Derived.Test.YtjgcjnkeeiaafaaGreatDoorTcbh
namespace Go.Proofs.YtjgcjnkeeiaafaaGreatDoor.P3.C
open Go.RowKit Go.Shelf Go.Proofs.YtjgcjnkeeiaafaaGreatDoor.B Go.Proofs.YtjgcjnkeeiaafaaGreatDoor.Lx Go.Proofs.YtjgcjnkeeiaafaaGreatDoor.P3
/-- Parts that follow each other, a sign between. -/
def Chn (n : Nat) : Nat → List (Nat × Nat) → Prop
  | _, [] => True
  | st, s :: r => s.1 = st ∧ st ≤ s.2 ∧ s.2 < n ∧ Chn n (s.2 + 1) r
theorem seg_chn : ∀ (l : List Tok) (k st : Nat), st ≤ k → Chn (k + l.length) st (segS l k st).1
  | [], _, _, _ => trivial
  | t :: r, k, st, h => by
    rw [segS]
    have e : k + (t :: r).length = k + 1 + r.length := by simp; omega
    rw [e]
    by_cases h3 : t.kind = 3
    · rw [if_pos h3]
      exact ⟨rfl, h, by omega, seg_chn r (k + 1) (k + 1) (Nat.le_refl _)⟩
    · rw [if_neg h3]
      exact seg_chn r (k + 1) st (by omega)
/-- How many tokens statements have, with their signs. -/
def szL : List (List B3) → Nat
  | [] => 0
  | l :: r => l.length + 1 + szL r
theorem sz_app (a b : List (List B3)) : szL (a ++ b) = szL a + szL b := by
  induction a with
  | nil => simp [szL]
  | cons x r ih => rw [List.cons_append, szL, szL, ih]; omega
def segT (l : List Tok) (s : Nat × Nat) : List Tok := (l.take s.2).drop s.1
theorem chn_at (l : List Tok) : ∀ (ss : List (Nat × Nat)) (st i : Nat) (s : Nat × Nat), Chn l.length st ss → ss[i]? = some s →
    s.1 = st + szL ((ss.map fun s => (segT l s).map bare).take i) ∧ s.1 ≤ s.2 ∧ s.2 < l.length ∧ (segT l s).length = s.2 - s.1
  | [], _, _, _, _, h => by cases h
  | x :: r, st, 0, s, h, hs => by
    simp only [List.getElem?_cons_zero, Option.some.injEq] at hs
    subst hs
    obtain ⟨h1, h2, h3, _⟩ := h
    refine ⟨by simp [szL, h1], by omega, h3, ?_⟩
    unfold segT
    rw [List.length_drop, List.length_take]; omega
  | x :: r, st, i + 1, s, h, hs => by
    rw [List.getElem?_cons_succ] at hs
    obtain ⟨h1, h2, h3, h4⟩ := h
    obtain ⟨a1, a2, a3, a4⟩ := chn_at l r (x.2 + 1) i s h4 hs
    refine ⟨?_, a2, a3, a4⟩
    rw [a1, List.map_cons, List.take_succ_cons, szL, List.length_map]
    have : (segT l x).length = x.2 - x.1 := by unfold segT; rw [List.length_drop, List.length_take]; omega
    rw [this]; omega
theorem bad_at : ∀ (ls : List (List B3)) (k i : Nat) (L : List B3), ls[i]? = some L → (ls.take i).all (fun l => !(stS l).2) = true → (stS L).2 = true → firstBad ls k = some (k + szL (ls.take i) + (stS L).1)
  | [], _, _, _, h, _, _ => by cases h
  | x :: r, k, 0, L, h, _, hb => by
    simp only [List.getElem?_cons_zero, Option.some.injEq] at h
    subst h
    rw [firstBad, if_pos hb]; simp [szL]
  | x :: r, k, i + 1, L, h, hg, hb => by
    rw [List.getElem?_cons_succ] at h
    rw [List.take_succ_cons, List.all_cons, Bool.and_eq_true] at hg
    have hx : ¬ (stS x).2 = true := by have := hg.1; simpa using this
    rw [firstBad, if_neg hx, bad_at r _ i L h hg.2 hb, List.take_succ_cons, szL]
    congr 1; omega
theorem beg_app : ∀ (a b : List (List B3)) (k : Nat), begL (a ++ b) k = begL a k ++ begL b (k + szL a)
  | [], b, k => by simp [begL, szL]
  | x :: r, b, k => by
    rw [List.cons_append, begL, begL, beg_app r b, szL, List.cons_append]
    rw [show k + x.length + 1 + szL r = k + (x.length + 1 + szL r) by omega]
/-- Where a part's statements begin. -/
def blOf (ls : List (List B3)) (toks : List Tok) (p : Nat) : List Int := (begins ls toks p).map Int.ofNat
theorem bl_snoc (ls : List (List B3)) (toks : List Tok) (L : List B3) (p : Nat) :
    blOf (ls ++ [L]) toks p = if p = partNo (stV L) then blOf ls toks p ++ [((locAt toks (szL ls) : Nat) : Int)] else blOf ls toks p := by
  unfold blOf begins
  rw [beg_app, Nat.zero_add, List.filter_append, List.map_append, List.map_append]
  have : begL [L] (szL ls) = [(partNo (stV L), szL ls)] := by simp [begL]
  rw [this]
  by_cases h : p = partNo (stV L)
  · rw [if_pos h, List.filter_cons_of_pos (by simp [h])]; simp
  · rw [if_neg h, List.filter_cons_of_neg (by simp [Ne.symm h])]; simp
theorem begins_len (toks : List Tok) (p : Nat) : ∀ (ls : List (List B3)) (k : Nat), (((begL ls k).filter (fun x => x.1 == p)).map fun x => locAt toks x.2).length = ((ls.map stV).filter (fun v => partNo v == p)).length
  | [], _ => rfl
  | x :: r, k => by
    have ih := begins_len toks p r (k + x.length + 1)
    rw [List.length_map] at ih ⊢
    rw [begL, List.map_cons]
    by_cases h : partNo (stV x) = p
    · rw [List.filter_cons_of_pos (by simp [h]), List.filter_cons_of_pos (by simp [h]), List.length_cons, List.length_cons, ih]
    · rw [List.filter_cons_of_neg (by simp [h]), List.filter_cons_of_neg (by simp [h]), ih]
theorem bl_len (ls : List (List B3)) (toks : List Tok) (p : Nat) : (blOf ls toks p).length = ((ls.map stV).filter (fun v => partNo v == p)).length := by
  unfold blOf begins; rw [List.length_map]; exact begins_len toks p ls 0
theorem gs_len : ∀ vs : List PartV, (gsOf vs).length = (vs.filter fun v => partNo v == 1).length
  | [] => rfl
  | v :: r => by
    have ih := gs_len r
    cases v <;> simp_all [gsOf, partNo]
theorem es_len : ∀ vs : List PartV, (esOf vs).length = (vs.filter fun v => partNo v == 2).length
  | [] => rfl
  | v :: r => by
    have ih := es_len r
    cases v <;> simp_all [esOf, partNo]
theorem rs_len : ∀ vs : List PartV, (rsOf vs).length = (vs.filter fun v => partNo v == 3).length
  | [] => rfl
  | v :: r => by
    have ih := rs_len r
    cases v <;> simp_all [rsOf, partNo]
theorem us_len : ∀ vs : List PartV, (usOf vs).length = (vs.filter fun v => partNo v == 4).length
  | [] => rfl
  | v :: r => by
    have ih := us_len r
    cases v <;> simp_all [usOf, partNo]
theorem of_app (a b : List PartV) : gsOf (a ++ b) = gsOf a ++ gsOf b ∧ esOf (a ++ b) = esOf a ++ esOf b ∧ rsOf (a ++ b) = rsOf a ++ rsOf b ∧ usOf (a ++ b) = usOf a ++ usOf b := by
  simp [gsOf, esOf, rsOf, usOf, List.filterMap_append]
/-- The place that Check tells has its beginning. -/
theorem place_beg (ls : List (List B3)) (toks : List Tok) (c : St) (h : PlOk c (gsOf (ls.map stV)).length (esOf (ls.map stV)).length (rsOf (ls.map stV)).length (usOf (ls.map stV)).length) (h0 : c.2.2 ≠ 0) (hp : c.1 ≠ 0) :
    c.1 < 5 ∧ c.2.1 < (blOf ls toks c.1).length := by
  rw [bl_len]
  rw [gs_len, es_len, rs_len, us_len] at h
  rcases h with h | h | ⟨h1, h2⟩ | ⟨h1, h2⟩ | ⟨h1, h2⟩ | ⟨h1, h2⟩
  · exact absurd h h0
  · exact absurd h hp
  all_goals (rw [h1]; exact ⟨by decide, h2⟩)
theorem bl_get (ls : List (List B3)) (toks : List Tok) (p i : Nat) (h : i < (blOf ls toks p).length) : (blOf ls toks p)[i]! = ((((begins ls toks p)[i]?).getD 0 : Nat) : Int) := by
  unfold blOf at h ⊢
  rw [List.length_map] at h
  rw [getElem!_pos _ i (by rw [List.length_map]; exact h), List.getElem_map, List.getElem?_eq_getElem h]; rfl
end Go.Proofs.YtjgcjnkeeiaafaaGreatDoor.P3.C

namespace Go.Proofs.YtjgcjnkeeiaafaaGreatDoor.P3.C
open Go.RowKit Go.Shelf Go.Proofs.YtjgcjnkeeiaafaaGreatDoor.B Go.Proofs.YtjgcjnkeeiaafaaGreatDoor.Lx Go.Proofs.YtjgcjnkeeiaafaaGreatDoor.P3
theorem numGo_le : ∀ (r : List UInt8) (v u : Nat), v ≤ 1048576 → numGo v r = some u → u ≤ 1048576
  | [], v, u, hv, h => by rw [numGo] at h; injection h with h; omega
  | c :: r, v, u, hv, h => by
    rw [numGo] at h
    by_cases hd : digB c = true
    · rw [if_pos hd] at h
      by_cases hl : v * 10 + (c.toNat - 48) ≤ 1048576
      · rw [if_pos hl] at h; exact numGo_le r _ u hl h
      · rw [if_neg hl] at h; cases h
    · rw [if_neg hd] at h; cases h
theorem numL_le {x : List UInt8} {v : Nat} (h : numL x = some v) : v ≤ 1048576 := by
  cases x with
  | nil => cases h
  | cons c r =>
    rw [numL] at h
    by_cases hc : c.toNat = 48 ∧ r ≠ []
    · rw [if_pos hc] at h; cases h
    · rw [if_neg hc] at h; exact numGo_le _ 0 v (by decide) h
theorem take_val {r : List UInt8} {k : Nat} {t : Tok} (h : takeL r k = some t) : t.val ≤ 1048576 := by
  unfold takeL at h
  split at h
  · cases h
  · split at h
    · injection h with h; subst h; exact Nat.zero_le _
    · unfold wordL at h
      split at h
      · injection h with h; subst h; exact Nat.zero_le _
      · split at h
        · rename_i hv; injection h with h; subst h; exact numL_le hv
        · cases h
def GT (M : Nat) (t : Tok) : Prop := t.text.length ≤ M ∧ t.val ≤ 1048576
theorem lexS_good (M : Nat) : ∀ (r : List UInt8) (n k : Nat) (l l' : List Tok) (k' : Nat), lexS r n k l = (l', k', 0) → r.length ≤ M → (∀ t ∈ l, GT M t) → ∀ t ∈ l', GT M t
  | [], n, k, l, l', k', h, _, hl => by simp [lexS] at h; rw [← h.1]; exact hl
  | c :: r, n + 1, k, l, l', k', h, hr, hl => by rw [lexS] at h; exact lexS_good M r n (k + 1) l l' k' h (by simp at hr; omega) hl
  | c :: r, 0, k, l, l', k', h, hr, hl => by
    rw [lexS] at h
    have hr' : r.length ≤ M := by simp at hr; omega
    by_cases hg : gapB c = true
    · rw [if_pos hg] at h; exact lexS_good M r 0 (k + 1) l l' k' h hr' hl
    · rw [if_neg hg] at h
      cases ht : takeL (c :: r) k with
      | none => rw [ht] at h; simp at h
      | some t =>
        rw [ht] at h
        simp only at h
        by_cases h5 : l.length = 5000
        · rw [if_pos h5] at h; simp at h
        · rw [if_neg h5] at h
          refine lexS_good M r _ (k + 1) (l ++ [t]) l' k' h hr' (fun u hu => ?_)
          rcases List.mem_append.1 hu with hu | hu
          · exact hl u hu
          · obtain rfl := List.mem_singleton.1 hu
            exact ⟨Nat.le_trans (takeL_len ht).2 hr, take_val ht⟩
def GB (M : Nat) (L : List B3) : Prop := ∀ t ∈ L, t.2.1.length ≤ M ∧ t.2.2 ≤ 1048576
section
variable {M : Nat} {L : List B3}
theorem takT_le (h : GB M L) (x : Key) (s : RS) : (takT L x s).length ≤ M := by
  unfold takT
  split
  · split
    · exact Nat.zero_le _
    · rename_i t ht; exact (h t (List.mem_of_getElem? ht)).1
  · exact Nat.zero_le _
theorem takN_le (h : GB M L) (x : Key) (s : RS) : takN L x s ≤ 1048576 := by
  unfold takN
  split
  · split
    · exact Nat.zero_le _
    · rename_i t ht; exact (h t (List.mem_of_getElem? ht)).2
  · exact Nat.zero_le _
theorem optV_le (h : GB M L) (x : Key) (s : RS) : (optV L x s).length ≤ M := by
  unfold optV
  split
  · exact takT_le h _ _
  · exact Nat.zero_le _
theorem roles_le (h : GB M L) : ∀ (n : Nat) (s : RS), (rolesS L n s).2.length ≤ n ∧ ∀ x ∈ (rolesS L n s).2, x.length ≤ M
  | 0, s => ⟨Nat.le_refl _, fun x hx => by cases hx⟩
  | n + 1, s => by
    rw [rolesS]
    split
    · have ih := roles_le h n (mayS L [110] s)
      refine ⟨by simp; omega, fun x hx => ?_⟩
      rcases List.mem_cons.1 hx with rfl | hx
      · exact takT_le h _ _
      · exact ih.2 x hx
    · exact ⟨Nat.zero_le _, fun x hx => by cases hx⟩
theorem due_le (h : GB M L) (s : RS) : -1 ≤ dueV L s ∧ dueV L s ≤ 1048576 := by
  unfold dueV
  split
  · omega
  · split
    · have := takN_le h [100] (mayS L kDue s); omega
    · omega
theorem kindV_le (s : RS) : 0 ≤ kindV L s ∧ kindV L s ≤ 5 := by
  unfold kindV
  repeat' split
  all_goals omega
theorem time_le (h : GB M L) (k : Int) (s : RS) : 0 ≤ timeV L k s ∧ timeV L k s ≤ 1048576 := by
  unfold timeV untB
  split
  · have := takN_le h [100] s; omega
  · split <;> omega
end
theorem bytes_size (l : List UInt8) : (bytes l).size = l.length := by simp [bytes, ByteArray.size]
theorem wf_of {i : Int} (h1 : -1 ≤ i) (h2 : i ≤ 1048576) : (Lit.int .i64 i).wf = true := WalkArith.wf_i64 (by constructor <;> omega)
theorem stV_cases (L : List B3) : stV L = .g (grV L).1 (grV L).2 ∨ stV L = .e (evV L) ∨ stV L = .u (usV L) ∨ stV L = .r (rlV L) := by
  unfold stV
  repeat' split
  · exact .inl rfl
  · exact .inr (.inl rfl)
  · exact .inr (.inr (.inl rfl))
  · exact .inr (.inr (.inr rfl))
theorem sz_parts (M : Nat) (hM : M ≤ 140737488351232) (ls : List (List B3)) (hn : ls.length ≤ 5000) (h : ∀ L ∈ ls, GB M L ∧ L.length ≤ 5000) (U : List Us) (a0 a1 a2 a3 : Option Addr) (c0 c1 c2 c3 : Nat) (hU : U.map usBare = usOf (ls.map stV)) :
    SzG ⟨gsOf (ls.map stV), esOf (ls.map stV), rsOf (ls.map stV), U, a0, c0, a1, c1, a2, c2, a3, c3⟩ := by
  have l0 : (gsOf (ls.map stV)).length ≤ ls.length := by have := List.length_filterMap_le (fun v => (match v with | .g a b => some ⟨bytes a, bytes b⟩ | _ => none : Option Gp)) (ls.map stV); rw [List.length_map] at this; exact this
  have l1 : (esOf (ls.map stV)).length ≤ ls.length := by unfold esOf; refine Nat.le_trans (List.length_filterMap_le _ _) (by rw [List.length_map]; exact Nat.le_refl _)
  have l2 : (rsOf (ls.map stV)).length ≤ ls.length := by unfold rsOf; refine Nat.le_trans (List.length_filterMap_le _ _) (by rw [List.length_map]; exact Nat.le_refl _)
  have l3 : U.length ≤ ls.length := by
    have e : U.length = (usOf (ls.map stV)).length := by rw [← hU, List.length_map]
    rw [e]; unfold usOf; refine Nat.le_trans (List.length_filterMap_le _ _) (by rw [List.length_map]; exact Nat.le_refl _)
  have hv : ∀ v ∈ ls.map stV, ∃ L, (GB M L ∧ L.length ≤ 5000) ∧ v = stV L := by
    intro v hv
    obtain ⟨L, hL, rfl⟩ := List.mem_map.1 hv
    exact ⟨L, h L hL, rfl⟩
  refine ⟨by show (gsOf (ls.map stV)).length * 32 ≤ _; omega, by show (esOf (ls.map stV)).length * 64 ≤ _; omega, by show (rsOf (ls.map stV)).length * 48 ≤ _; omega, by show U.length * 56 ≤ _; omega, ?_, ?_, ?_, ?_⟩
  · intro p hp
    obtain ⟨v, hvm, hvp⟩ := List.mem_filterMap.1 hp
    obtain ⟨L, ⟨hL, _⟩, rfl⟩ := hv v hvm
    rcases stV_cases L with e | e | e | e
    all_goals rw [e] at hvp
    · simp only [Option.some.injEq] at hvp
      subst hvp
      simp only [bytes_size]
      exact ⟨Nat.le_trans (takT_le hL [110] (1, false)) hM, Nat.le_trans (optV_le hL [105, 110] (mustS L [110] (1, false))) hM⟩
    all_goals cases hvp
  · intro p hp
    obtain ⟨v, hvm, hvp⟩ := List.mem_filterMap.1 hp
    obtain ⟨L, ⟨hL, _⟩, rfl⟩ := hv v hvm
    rcases stV_cases L with e | e | e | e
    all_goals rw [e] at hvp
    · cases hvp
    · simp only [Option.some.injEq] at hvp
      subst hvp
      simp only [bytes_size]
      have hd := due_le hL (ev5 L)
      exact ⟨Nat.le_trans (takT_le hL [110] (1, false)) hM, Nat.le_trans (optV_le hL [105, 110] (mustS L [110] (1, false))) hM, Nat.le_trans (takT_le hL [110] (ev2 L)) hM, wf_of (i := dueV L (ev5 L)) hd.1 hd.2⟩
    all_goals cases hvp
  · intro p hp
    obtain ⟨v, hvm, hvp⟩ := List.mem_filterMap.1 hp
    obtain ⟨L, ⟨hL, _⟩, rfl⟩ := hv v hvm
    rcases stV_cases L with e | e | e | e
    all_goals rw [e] at hvp
    · cases hvp
    · cases hvp
    · cases hvp
    · simp only [Option.some.injEq] at hvp
      subst hvp
      simp only [bytes_size]
      have hk := kindV_le (L := L) (0, false)
      have ht := time_le hL (kindV L (0, false)) (rl3 L)
      exact ⟨Nat.le_trans (takT_le hL [110] (rl1 L)) hM, Nat.le_trans (takT_le hL [110] (rl2 L)) hM, wf_of (i := kindV L (0, false)) (by omega) (by omega), wf_of (i := timeV L (kindV L (0, false)) (rl3 L)) (by omega) (by omega)⟩
  · intro p hp
    have hp' : usBare p ∈ usOf (ls.map stV) := by rw [← hU]; exact List.mem_map.2 ⟨p, hp, rfl⟩
    obtain ⟨v, hvm, hvp⟩ := List.mem_filterMap.1 hp'
    obtain ⟨L, ⟨hL, hLn⟩, rfl⟩ := hv v hvm
    rcases stV_cases L with e | e | e | e
    all_goals rw [e] at hvp
    · cases hvp
    · cases hvp
    · simp only [Option.some.injEq, usBare, Us.mk.injEq] at hvp
      obtain ⟨h1, _, _, h2, h3⟩ := hvp
      have hr := roles_le hL L.length (us1 L)
      have h5 : (usV L).roles.length ≤ L.length := hr.1
      rw [← h1, ← h2, ← h3]
      simp only [bytes_size, List.length_map]
      refine ⟨Nat.le_trans (takT_le hL [110] (1, false)) hM, Nat.le_trans (optV_le hL kSub (us2 L).1) hM, by omega, ?_⟩
      intro x hx
      obtain ⟨y, hy, rfl⟩ := List.mem_map.1 hx
      rw [bytes_size]
      exact Nat.le_trans (hr.2 y hy) hM
    · cases hvp
theorem gb_seg {M : Nat} {toks : List Tok} (h : ∀ t ∈ toks, GT M t) (hl : toks.length ≤ 5000) (s : Nat × Nat) : GB M ((segT toks s).map bare) ∧ ((segT toks s).map bare).length ≤ 5000 := by
  refine ⟨fun b hb => ?_, ?_⟩
  · obtain ⟨t, ht, rfl⟩ := List.mem_map.1 hb
    exact h t (List.mem_of_mem_take (List.mem_of_mem_drop ht))
  · unfold segT; rw [List.length_map, List.length_drop, List.length_take]; omega
end Go.Proofs.YtjgcjnkeeiaafaaGreatDoor.P3.C
