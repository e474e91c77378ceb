/-
  The looker in memory; contracts of its small methods and of its look at a group.
-/
import Derived.Test.YtplplkchibefjaaGrI
import Derived.RegionTactic
import Derived.StillTailTactics
namespace Go.Proofs.Ytplplkchibefjaa
open Go.RowKit Go.Shelf

/-- The looker: the graph, and its four maps. -/
structure LkIn (w : World) (L : Nat) (g : Gr) (bg be br bu : Nat) : Prop where
  c0 : w.cell? ⟨L, 0, none⟩ = some (.slice g.ga g.gs.length g.gc)
  c1 : w.cell? ⟨L, 1, none⟩ = some (.slice g.ea g.es.length g.ec)
  c2 : w.cell? ⟨L, 2, none⟩ = some (.slice g.ra g.rs.length g.rc)
  c3 : w.cell? ⟨L, 3, none⟩ = some (.slice g.ua g.us.length g.uc)
  c4 : w.cell? ⟨L, 4, none⟩ = some (.map (some bg))
  c5 : w.cell? ⟨L, 5, none⟩ = some (.map (some be))
  c6 : w.cell? ⟨L, 6, none⟩ = some (.map (some br))
  c7 : w.cell? ⟨L, 7, none⟩ = some (.map (some bu))
  gm : MapFn w Try.prog 9 3 bg g.gs.length (firstOf (g.gs.map fun p => litS p.name))
  em : MapFn w Try.prog 9 3 be g.es.length (firstOf (g.es.map fun p => litS p.name))
  rm : MapFn w Try.prog 53 3 br g.rs.length (firstOf (g.rs.map fun p => rlit (rkey p)))
  um : MapFn w Try.prog 9 3 bu g.us.length (firstOf (g.us.map fun p => litS p.name))
  ing : InG w g
theorem LkIn.lt {w : World} {L : Nat} {g : Gr} {bg be br bu : Nat} (h : LkIn w L g bg be br bu) : L < w.heap.size := World.block_lt_of_cell? _ _ h.c0
theorem LkIn.below {w w' : World} {L : Nat} {g : Gr} {bg be br bu : Nat} (h : LkIn w L g bg be br bu) (hb : Below w.heap.size w w') : LkIn w' L g bg be br bu := by
  have hL := h.lt
  have hc : ∀ i : Nat, w'.cell? ⟨L, i, none⟩ = w.cell? ⟨L, i, none⟩ := fun i => hb.cell (p := ⟨L, i, none⟩) hL
  exact ⟨(hc 0).trans h.c0, (hc 1).trans h.c1, (hc 2).trans h.c2, (hc 3).trans h.c3, (hc 4).trans h.c4, (hc 5).trans h.c5, (hc 6).trans h.c6, (hc 7).trans h.c7,
    h.gm.below (Nat.le_refl _) hb, h.em.below (Nat.le_refl _) hb, h.rm.below (Nat.le_refl _) hb, h.um.below (Nat.le_refl _) hb, h.ing.below (Nat.le_refl _) hb⟩

theorem first_nm {α : Type} (nm : α → ByteArray) (l : List α) (s : ByteArray) : firstOf (l.map fun x => litS (nm x)) (litS s) = if hasB (l.map fun x => (nm x).toList) s.toList then some ((l.map fun x => (nm x).toList).idxOf s.toList) else none := by
  have h := firstOf_map (fun k : Key => Lit.string k) s.toList (l.map fun x => (nm x).toList) (fun x _ h => by injection h)
  rw [List.map_map] at h
  have e1 : (fun x => litS (nm x)) = ((fun k : Key => Lit.string k) ∘ fun x => (nm x).toList) := by
    funext x; simp only [litS, Function.comp, Lib.toList_data]
  have e2 : litS s = Lit.string s.toList := by simp only [litS, Lib.toList_data]
  rw [e1, e2]
  exact h
/-- A look-up by name: a place, and whether there is one. -/
theorem look_nm {α : Type} (nm : α → ByteArray) (l : List α) {s : ByteArray} (hs : s.size ≤ 140737488351232) :
    ∃ q : Nat, (∀ (b : Nat) (w : World), MapFn w Try.prog 9 3 b l.length (firstOf (l.map fun x => litS (nm x))) →
      (Instr.lookup 117 (.map (some b)) (.string s) true).run Try.prog w = .ok (.tuple #[.int .i64 (q : Int), .bool (hasB (l.map fun x => (nm x).toList) s.toList)]) w ∧
      (Instr.lookup 117 (.map (some b)) (.string s) false).run Try.prog w = .ok (.int .i64 (q : Int)) w) ∧ (hasB (l.map fun x => (nm x).toList) s.toList = true → q = (l.map fun x => (nm x).toList).idxOf s.toList ∧ q < l.length) ∧ q ≤ l.length := by
  refine ⟨if hasB (l.map fun x => (nm x).toList) s.toList then (l.map fun x => (nm x).toList).idxOf s.toList else 0, fun b w h => ?_, fun e => ?_, ?_⟩
  · have h1 := h.look_ok lawS Try.underlying117 Try.underlying3 (Try.zeroValue3 w) (keyS hs)
    have h2 := h.look lawS Try.underlying117 Try.underlying3 (Try.zeroValue3 w) (keyS hs)
    rw [first_nm] at h1 h2
    cases hh : hasB (l.map fun x => (nm x).toList) s.toList with
    | true => rw [hh] at h1 h2; exact ⟨h1, h2⟩
    | false => rw [hh] at h1 h2; exact ⟨h1, h2⟩
  · rw [if_pos e]
    refine ⟨rfl, ?_⟩
    have := List.idxOf_lt_length_iff.2 (List.contains_iff_mem.1 e)
    simpa using this
  · split
    · have := List.idxOf_le_length (l := l.map fun x => (nm x).toList) (a := s.toList)
      simpa using this
    · exact Nat.zero_le _

section
variable {L : Nat} {g : Gr} {bg be br bu : Nat}
set_option maxHeartbeats 400000 in
theorem isGroup_any (w : World) (h : LkIn w L g bg be br bu) (s : ByteArray) (hs : s.size ≤ 140737488351232) :
    Calls Try.prog 107 #[.pointer (some ⟨L, 0, none⟩), .string s] w fun e w' => e = .returned (.bool (hasB (gns g) s.toList)) ∧ w = w' := by
  have c4 := h.c4
  obtain ⟨q, hlk, _, _⟩ := look_nm Gp.name g.gs hs
  have h1 := (hlk _ _ h.gm).1
  clear hlk
  clear h
  go_enter Try.func107, Try.ntmps107
  go_wp2
  go_ret
  exact ⟨rfl, rfl⟩
set_option maxHeartbeats 400000 in
theorem isUser_any (w : World) (h : LkIn w L g bg be br bu) (s : ByteArray) (hs : s.size ≤ 140737488351232) :
    Calls Try.prog 112 #[.pointer (some ⟨L, 0, none⟩), .string s] w fun e w' => e = .returned (.bool (hasB (uns g) s.toList)) ∧ w = w' := by
  have c4 := h.c7
  obtain ⟨q, hlk, _, _⟩ := look_nm Us.name g.us hs
  have h1 := (hlk _ _ h.um).1
  clear hlk
  clear h
  go_enter Try.func112, Try.ntmps112
  go_wp2
  go_ret
  exact ⟨rfl, rfl⟩
set_option maxHeartbeats 400000 in
theorem isThere_any (w : World) (h : LkIn w L g bg be br bu) (s : ByteArray) (hs : s.size ≤ 140737488351232) :
    Calls Try.prog 108 #[.pointer (some ⟨L, 0, none⟩), .string s] w fun e w' => e = .returned (.bool (thereB g s.toList)) ∧ w = w' := by
  have c4 := h.c5
  obtain ⟨q, hlk, _, _⟩ := look_nm Ev.name g.es hs
  have h1 := (hlk _ _ h.em).1
  clear hlk
  have C := fun W hW => Lib.hid (isGroup_any (L := L) (g := g) (bg := bg) (be := be) (br := br) (bu := bu) W hW s hs)
  have H := Lib.hid h
  clear h
  have HT : Hid (thereB g s.toList = (hasB (ens g) s.toList || hasB (gns g) s.toList)) := rfl
  have he : hasB (g.es.map fun x => x.name.toList) s.toList = hasB (ens g) s.toList := rfl
  rw [he] at h1
  clear he
  cases hh : hasB (ens g) s.toList with
  | true =>
    rw [hh] at h1 HT
    clear hh
    go_enter Try.func108, Try.ntmps108
    go_wp2_with fail
    go_ret
    exact ⟨ret_bool HT.out.symm, rfl⟩
  | false =>
    rw [hh] at h1 HT
    clear hh
    go_enter Try.func108, Try.ntmps108
    go_wp2_with (go_at_call 107; refine (C _ H.out).out.mono ?_; rintro e w' ⟨rfl, rfl⟩)
    go_ret
    exact ⟨ret_bool HT.out.symm, rfl⟩
set_option maxHeartbeats 400000 in
theorem isGroupAhead_any (w : World) (h : LkIn w L g bg be br bu) (s : ByteArray) (hs : s.size ≤ 140737488351232) (i : Nat) :
    Calls Try.prog 106 #[.pointer (some ⟨L, 0, none⟩), .string s, .int .i64 i] w fun e w' => e = .returned (.bool (hasB (gns g) s.toList && aheadB (gns g) s.toList i)) ∧ w = w' := by
  have c4 := h.c4
  obtain ⟨q, hlk, hq, _⟩ := look_nm Gp.name g.gs hs
  have h1 := (hlk _ _ h.gm).1
  clear hlk
  have he : hasB (g.gs.map fun x => x.name.toList) s.toList = hasB (gns g) s.toList := rfl
  rw [he] at h1 hq
  clear h he
  cases hh : hasB (gns g) s.toList with
  | true =>
    rw [hh] at h1
    have HQ : Hid (decide (q < i) = aheadB (gns g) s.toList i) := Lib.hid (by rw [(hq hh).1]; rfl)
    clear hh hq
    go_enter Try.func106, Try.ntmps106
    go_wp2_with fail
    go_ret
    exact ⟨ret_bool (by rw [Bool.true_and, ← HQ.out]), rfl⟩
  | false =>
    rw [hh] at h1
    clear hh hq
    go_enter Try.func106, Try.ntmps106
    go_wp2_with fail
    go_ret
    exact ⟨rfl, rfl⟩
end
end Go.Proofs.Ytplplkchibefjaa
