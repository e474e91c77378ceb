/-
  The graph of a flat graph's events and ties may be, and tells just those ties: plainly.
-/
import Derived.Test.YtplplkchibefjaaF4q
namespace Go.Proofs.Ytplplkchibefjaa.P4
open Go.RowKit Go.Shelf

theorem map_at' {α β : Type} [Inhabited α] [Inhabited β] (f : α → β) {l : List α} {i : Nat} (h : i < l.length) : (l.map f)[i]! = f l[i]! := by
  rw [getElem!_pos (l.map f) i (by simpa using h), getElem!_pos l i h, List.getElem_map]
theorem bare_ens (es : List Ev) (ts : List Ti) (EA RA : Option Addr) (ec rc : Nat) : ens (bgG es ts EA RA ec rc) = es.map (·.name.toList) := by
  show (es.map F4.bareE).map (fun x => x.name.toList) = _
  rw [List.map_map]; rfl
theorem bare_grp (v : Ev) : (F4.bareE v).group.toList = [] := (show (⟨#[]⟩ : ByteArray).toList = [] from by kernel_rfl)
theorem here_ens {es : List Ev} {i : Nat} (h : i < es.length) : hasB (es.map (fun x => x.name.toList)) es[i]!.name.toList = true := by
  unfold hasB
  rw [List.contains_iff_mem, List.mem_map]
  exact ⟨es[i]!, by rw [getElem!_pos es i h]; exact List.getElem_mem _, rfl⟩
theorem back_may {g : Gr} (hm : mayL g = true) {ts : List Ti} (hg : ∀ t ∈ ts, Good g.es.length t) (ht : ∀ t ∈ ts, Timed t) (hn : (ts.map tkey).Nodup) (hl : ts.length ≤ 300) (EA RA : Option Addr) (ec rc : Nat) : mayL (bgG g.es ts EA RA ec rc) = true := by
  obtain ⟨m1, _, m3, _, _⟩ := may_iff.1 hm
  have hes : g.es.length ≤ 80 := by
    unfold limitE at m1
    split at m1
    · omega
    · split at m1
      · omega
      · omega
  have hrs : (bgG g.es ts EA RA ec rc).rs = ts.map (F4.backR g.es) := back_eq hg
  have hrl : (bgG g.es ts EA RA ec rc).rs.length = ts.length := by rw [hrs, List.length_map]
  have hel : (bgG g.es ts EA RA ec rc).es.length = g.es.length := List.length_map _
  have own := names_own hm
  rw [may_iff]
  refine ⟨?_, ?_, ?_, ?_, ?_⟩
  · unfold limitE
    have a1 : ¬ 40 < (bgG g.es ts EA RA ec rc).gs.length := by show ¬ 40 < 0; omega
    have a2 : ¬ 80 < (bgG g.es ts EA RA ec rc).es.length := by rw [hel]; omega
    have a3 : ¬ 300 < (bgG g.es ts EA RA ec rc).rs.length := by rw [hrl]; omega
    have a4 : ¬ 40 < (bgG g.es ts EA RA ec rc).us.length := by show ¬ 40 < 0; omega
    rw [if_neg a1, if_neg a2, if_neg a3, if_neg a4]; rfl
  · intro i hi; exact absurd hi (Nat.not_lt_zero _)
  · intro i hi
    rw [hel] at hi
    have h := m3 i hi
    have e : (bgG g.es ts EA RA ec rc).es[i]! = F4.bareE g.es[i]! := map_at' _ hi
    unfold eventE at h ⊢
    rw [e, bare_ens]
    unfold ens at h
    split at h
    · rename_i h1
      simp only [Bool.and_eq_true] at h1
      split at h
      · omega
      · rename_i h2
        rw [Bool.or_eq_true, not_or] at h2
        split at h
        · rename_i h3
          split at h
          · omega
          · split at h
            · omega
            · rename_i d1 d2
              rw [if_pos, if_neg, if_pos, if_neg, if_neg]
              · exact d2
              · exact d1
              · rw [bare_grp]; rfl
              · rw [Bool.or_eq_true, not_or, show gns (bgG g.es ts EA RA ec rc) = [] from rfl]
                exact ⟨by unfold hasB; simp, h2.2⟩
              · simp only [Bool.and_eq_true]
                exact ⟨h1.1, by rw [bare_grp]; rfl⟩
        · omega
    · omega
  · intro i hi
    rw [hrl] at hi
    have e : (bgG g.es ts EA RA ec rc).rs[i]! = F4.backR g.es ts[i]! := by rw [hrs]; exact map_at' _ hi
    have hmem : ts[i]! ∈ ts := by rw [getElem!_pos ts i hi]; exact List.getElem_mem _
    obtain ⟨k1, k2, f1, f2, t1, t2⟩ := hg _ hmem
    obtain ⟨u1, u2⟩ := ht _ hmem
    unfold relE
    rw [e]
    have hsrc : thereB (bgG g.es ts EA RA ec rc) (F4.backR g.es ts[i]!).src.toList = true := by
      unfold thereB; rw [bare_ens]; show (hasB (g.es.map (fun x => x.name.toList)) g.es[ts[i]!.fr.toNat]!.name.toList || _) = true; rw [here_ens (by omega), Bool.true_or]
    have hdst : thereB (bgG g.es ts EA RA ec rc) (F4.backR g.es ts[i]!).dst.toList = true := by
      unfold thereB; rw [bare_ens]; show (hasB (g.es.map (fun x => x.name.toList)) g.es[ts[i]!.to.toNat]!.name.toList || _) = true; rw [here_ens (by omega), Bool.true_or]
    rw [if_neg (by show ¬ ts[i]!.kind < 1; omega), if_neg (by show ¬ 5 < ts[i]!.kind; omega), hsrc, hdst, if_pos (show (true && true) = true from rfl), if_neg (by show ¬ ts[i]!.time < 0; omega), if_neg (by show ¬ longL ts[i]!.kind < ts[i]!.time; omega), if_neg]
    unfold aheadB
    rw [decide_eq_true_eq]
    intro hlt
    have hks : rks (bgG g.es ts EA RA ec rc) = ts.map (fun t => rkey (F4.backR g.es t)) := by unfold rks; rw [hrs, List.map_map]; rfl
    rw [hks] at hlt
    obtain ⟨j, hlt, hjl, hj⟩ : ∃ j, j < i ∧ ∃ h : j < ts.length, rkey (F4.backR g.es ts[j]) = rkey (F4.backR g.es ts[i]!) :=
      ⟨_, hlt, by omega, by
        have hj := List.getElem_idxOf (show (ts.map (fun t => rkey (F4.backR g.es t))).idxOf (rkey (F4.backR g.es ts[i]!)) < (ts.map (fun t => rkey (F4.backR g.es t))).length by rw [List.length_map]; omega)
        rw [List.getElem_map] at hj; exact hj⟩
    have hjm : ts[j] ∈ ts := List.getElem_mem _
    obtain ⟨_, _, f3, f4, t3, t4⟩ := hg _ hjm
    unfold rkey F4.backR at hj
    simp only [Prod.mk.injEq] at hj
    have e1 := own _ _ (by omega) (by omega) hj.2.1
    have e2 := own _ _ (by omega) (by omega) hj.2.2
    have ek : tkey ts[j] = tkey ts[i]! := by
      unfold tkey
      rw [hj.1, show ts[j].fr = ts[i]!.fr by omega, show ts[j].to = ts[i]!.to by omega]
    rw [getElem!_pos ts i hi] at ek
    have := (List.pairwise_iff_getElem.1 hn) j i (by simpa using hjl) (by simpa using hi) hlt
    rw [List.getElem_map, List.getElem_map] at this
    exact this ek
  · intro i hi; exact absurd hi (Nat.not_lt_zero _)
theorem mem_own {g : Gr} (hm : mayL g = true) {bg : Gr} (hb : mayL bg = true) (he : bg.es = g.es.map F4.bareE) {i : Nat} (hi : i < g.es.length) : memL bg g.es[i]!.name = [i] := by
  have hidx : idxB (named Ev.name g.es[i]!.name) bg.es = (i : Int) := by
    rw [he]
    refine idxB_hit (by simpa using hi) ?_ ?_
    · rw [map_at' _ hi]; unfold named; exact beq_iff_eq.2 rfl
    · intro j hj
      rw [map_at' _ (by omega)]
      unfold named
      rw [beq_eq_false_iff_ne]
      intro e
      have := names_own hm j i (by omega) hi e
      omega
  unfold memL
  rw [if_pos hb, hidx, if_pos (by omega)]
  rfl
theorem back_told {g : Gr} (hm : mayL g = true) {ts : List Ti} (hg : ∀ t ∈ ts, Good g.es.length t) (EA RA : Option Addr) (ec rc : Nat) (hb : mayL (bgG g.es ts EA RA ec rc) = true) : toldL (bgG g.es ts EA RA ec rc) (bgG g.es ts EA RA ec rc).rs.length = ts := by
  rw [toldL, List.take_length]
  show (F4.backL g.es ts).flatMap _ = ts
  rw [back_eq hg, List.flatMap_map]
  have h1 : ∀ t ∈ ts, told1 (bgG g.es ts EA RA ec rc) (F4.backR g.es t) = [t] := fun t ht => by
    obtain ⟨_, _, f1, f2, t1, t2⟩ := hg t ht
    unfold told1
    have a := mem_own hm hb rfl (show t.fr.toNat < g.es.length by omega)
    have b := mem_own hm hb rfl (show t.to.toNat < g.es.length by omega)
    show (prs (memL _ g.es[t.fr.toNat]!.name) (memL _ g.es[t.to.toNat]!.name)).map _ = [t]
    rw [a, b]
    show [(⟨t.kind, ((t.fr.toNat : Nat) : Int), ((t.to.toNat : Nat) : Int), t.time⟩ : Ti)] = [t]
    rw [Int.toNat_of_nonneg f1, Int.toNat_of_nonneg t1]
  have h2 : ∀ l : List Ti, (∀ t ∈ l, told1 (bgG g.es ts EA RA ec rc) (F4.backR g.es t) = [t]) → l.flatMap (fun t => told1 (bgG g.es ts EA RA ec rc) (F4.backR g.es t)) = l := fun l => by
    induction l with
    | nil => intro _; rfl
    | cons t r ih =>
      intro h
      rw [List.flatMap_cons, h t (List.mem_cons_self ..), ih (fun x hx => h x (List.mem_cons_of_mem _ hx))]
      rfl
  exact h2 ts h1
/-- Made flat again, it is the same. -/
theorem back_same {g : Gr} (hm : mayL g = true) {ts : List Ti} (hf : foldT [] (toldL g g.rs.length) = some ts) (hl : ts.length ≤ 300) (EA RA : Option Addr) (ec rc : Nat) :
    mayL (bgG g.es ts EA RA ec rc) = true ∧ foldT [] (toldL (bgG g.es ts EA RA ec rc) (bgG g.es ts EA RA ec rc).rs.length) = some ts := by
  have hg := make_good hm hf
  have ht := Timed.fold _ (fun x hx => by cases hx) (told_timed hm) hf
  have hn : (ts.map tkey).Nodup := nodup_fold _ (by simp) hf
  have hb := back_may hm hg ht hn hl EA RA ec rc
  refine ⟨hb, ?_⟩
  rw [back_told hm hg EA RA ec rc hb]
  exact fold_self ts [] hn (by simp; omega)
end Go.Proofs.Ytplplkchibefjaa.P4
