/-
  The looker in memory; contracts of its small methods and of its look at a group. Contracts of the looker's looks at groups. Contract of the closure by which Check tells what is wrong first.
-/
import Derived.Test.YtigbceankmfaeaaGreatDoorTbbh
import Derived.RegionTactic
import Derived.StillTailTactics
namespace Go.Proofs.YtigbceankmfaeaaGreatDoor
open Go.RowKit Go.Shelf
/-- The looker: the graph, and its four maps. -/
structure LkIn (w : World) (L : Nat) (g : Gr) (bg be br bu : Nat) : Prop where
  c0 : w.cell? ⟨L, 0, none⟩ = some (.slice g.ga g.gs.length g.gc)
  c1 : w.cell? ⟨L, 1, none⟩ = some (.slice g.ea g.es.length g.ec)
  c2 : w.cell? ⟨L, 2, none⟩ = some (.slice g.ra g.rs.length g.rc)
  c3 : w.cell? ⟨L, 3, none⟩ = some (.slice g.ua g.us.length g.uc)
  c4 : w.cell? ⟨L, 4, none⟩ = some (.map (some bg))
  c5 : w.cell? ⟨L, 5, none⟩ = some (.map (some be))
  c6 : w.cell? ⟨L, 6, none⟩ = some (.map (some br))
  c7 : w.cell? ⟨L, 7, none⟩ = some (.map (some bu))
  gm : MapFn w Tryz.prog 9 3 bg g.gs.length (firstOf (g.gs.map fun p => litS p.name))
  em : MapFn w Tryz.prog 9 3 be g.es.length (firstOf (g.es.map fun p => litS p.name))
  rm : MapFn w Tryz.prog 48 3 br g.rs.length (firstOf (g.rs.map fun p => rlit (rkey p)))
  um : MapFn w Tryz.prog 9 3 bu g.us.length (firstOf (g.us.map fun p => litS p.name))
  ing : InG w g
theorem LkIn.lt {w : World} {L : Nat} {g : Gr} {bg be br bu : Nat} (h : LkIn w L g bg be br bu) : L < w.heap.size := World.block_lt_of_cell? _ _ h.c0
theorem LkIn.below {w w' : World} {L : Nat} {g : Gr} {bg be br bu : Nat} (h : LkIn w L g bg be br bu) (hb : Below w.heap.size w w') : LkIn w' L g bg be br bu := by
  have hL := h.lt
  have hc : ∀ i : Nat, w'.cell? ⟨L, i, none⟩ = w.cell? ⟨L, i, none⟩ := fun i => hb.cell (p := ⟨L, i, none⟩) hL
  exact ⟨(hc 0).trans h.c0, (hc 1).trans h.c1, (hc 2).trans h.c2, (hc 3).trans h.c3, (hc 4).trans h.c4, (hc 5).trans h.c5, (hc 6).trans h.c6, (hc 7).trans h.c7,
    h.gm.below (Nat.le_refl _) hb, h.em.below (Nat.le_refl _) hb, h.rm.below (Nat.le_refl _) hb, h.um.below (Nat.le_refl _) hb, h.ing.below (Nat.le_refl _) hb⟩
theorem first_nm {α : Type} (nm : α → ByteArray) (l : List α) (s : ByteArray) : firstOf (l.map fun x => litS (nm x)) (litS s) = if hasB (l.map fun x => (nm x).toList) s.toList then some ((l.map fun x => (nm x).toList).idxOf s.toList) else none := by
  have h := firstOf_map (fun k : Key => Lit.string k) s.toList (l.map fun x => (nm x).toList) (fun x _ h => by injection h)
  rw [List.map_map] at h
  have e1 : (fun x => litS (nm x)) = ((fun k : Key => Lit.string k) ∘ fun x => (nm x).toList) := by
    funext x; simp only [litS, Function.comp, Lib.toList_data]
  have e2 : litS s = Lit.string s.toList := by simp only [litS, Lib.toList_data]
  rw [e1, e2]
  exact h
/-- A look-up by name: a place, and whether there is one. -/
theorem look_nm {α : Type} (nm : α → ByteArray) (l : List α) {s : ByteArray} (hs : s.size ≤ 140737488351232) :
    ∃ q : Nat, (∀ (b : Nat) (w : World), MapFn w Tryz.prog 9 3 b l.length (firstOf (l.map fun x => litS (nm x))) →
      (Instr.lookup 105 (.map (some b)) (.string s) true).run Tryz.prog w = .ok (.tuple #[.int .i64 (q : Int), .bool (hasB (l.map fun x => (nm x).toList) s.toList)]) w ∧
      (Instr.lookup 105 (.map (some b)) (.string s) false).run Tryz.prog w = .ok (.int .i64 (q : Int)) w) ∧ (hasB (l.map fun x => (nm x).toList) s.toList = true → q = (l.map fun x => (nm x).toList).idxOf s.toList ∧ q < l.length) ∧ q ≤ l.length := by
  refine ⟨if hasB (l.map fun x => (nm x).toList) s.toList then (l.map fun x => (nm x).toList).idxOf s.toList else 0, fun b w h => ?_, fun e => ?_, ?_⟩
  · have h1 := h.look_ok lawS Tryz.underlying105 Tryz.underlying3 (Tryz.zeroValue3 w) (keyS hs)
    have h2 := h.look lawS Tryz.underlying105 Tryz.underlying3 (Tryz.zeroValue3 w) (keyS hs)
    rw [first_nm] at h1 h2
    cases hh : hasB (l.map fun x => (nm x).toList) s.toList with
    | true => rw [hh] at h1 h2; exact ⟨h1, h2⟩
    | false => rw [hh] at h1 h2; exact ⟨h1, h2⟩
  · rw [if_pos e]
    refine ⟨rfl, ?_⟩
    have := List.idxOf_lt_length_iff.2 (List.contains_iff_mem.1 e)
    simpa using this
  · split
    · have := List.idxOf_le_length (l := l.map fun x => (nm x).toList) (a := s.toList)
      simpa using this
    · exact Nat.zero_le _
section
variable {L : Nat} {g : Gr} {bg be br bu : Nat}
set_option maxHeartbeats 400000 in
theorem isGroup_any (w : World) (h : LkIn w L g bg be br bu) (s : ByteArray) (hs : s.size ≤ 140737488351232) :
    Calls Tryz.prog 86 #[.pointer (some ⟨L, 0, none⟩), .string s] w fun e w' => e = .returned (.bool (hasB (gns g) s.toList)) ∧ w = w' := by
  have c4 := h.c4
  obtain ⟨q, hlk, _, _⟩ := look_nm Gp.name g.gs hs
  have h1 := (hlk _ _ h.gm).1
  clear hlk
  clear h
  go_enter Tryz.func86, Tryz.ntmps86
  go_wp2
  go_ret
  exact ⟨rfl, rfl⟩
set_option maxHeartbeats 400000 in
theorem isUser_any (w : World) (h : LkIn w L g bg be br bu) (s : ByteArray) (hs : s.size ≤ 140737488351232) :
    Calls Tryz.prog 91 #[.pointer (some ⟨L, 0, none⟩), .string s] w fun e w' => e = .returned (.bool (hasB (uns g) s.toList)) ∧ w = w' := by
  have c4 := h.c7
  obtain ⟨q, hlk, _, _⟩ := look_nm Us.name g.us hs
  have h1 := (hlk _ _ h.um).1
  clear hlk
  clear h
  go_enter Tryz.func91, Tryz.ntmps91
  go_wp2
  go_ret
  exact ⟨rfl, rfl⟩
set_option maxHeartbeats 400000 in
theorem isThere_any (w : World) (h : LkIn w L g bg be br bu) (s : ByteArray) (hs : s.size ≤ 140737488351232) :
    Calls Tryz.prog 87 #[.pointer (some ⟨L, 0, none⟩), .string s] w fun e w' => e = .returned (.bool (thereB g s.toList)) ∧ w = w' := by
  have c4 := h.c5
  obtain ⟨q, hlk, _, _⟩ := look_nm Ev.name g.es hs
  have h1 := (hlk _ _ h.em).1
  clear hlk
  have C := fun W hW => Lib.hid (isGroup_any (L := L) (g := g) (bg := bg) (be := be) (br := br) (bu := bu) W hW s hs)
  have H := Lib.hid h
  clear h
  have HT : Hid (thereB g s.toList = (hasB (ens g) s.toList || hasB (gns g) s.toList)) := rfl
  have he : hasB (g.es.map fun x => x.name.toList) s.toList = hasB (ens g) s.toList := rfl
  rw [he] at h1
  clear he
  cases hh : hasB (ens g) s.toList with
  | true =>
    rw [hh] at h1 HT
    clear hh
    go_enter Tryz.func87, Tryz.ntmps87
    go_wp2_with fail
    go_ret
    exact ⟨ret_bool HT.out.symm, rfl⟩
  | false =>
    rw [hh] at h1 HT
    clear hh
    go_enter Tryz.func87, Tryz.ntmps87
    go_wp2_with (go_at_call 86; refine (C _ H.out).out.mono ?_; rintro e w' ⟨rfl, rfl⟩)
    go_ret
    exact ⟨ret_bool HT.out.symm, rfl⟩
set_option maxHeartbeats 400000 in
theorem isGroupAhead_any (w : World) (h : LkIn w L g bg be br bu) (s : ByteArray) (hs : s.size ≤ 140737488351232) (i : Nat) :
    Calls Tryz.prog 85 #[.pointer (some ⟨L, 0, none⟩), .string s, .int .i64 i] w fun e w' => e = .returned (.bool (hasB (gns g) s.toList && aheadB (gns g) s.toList i)) ∧ w = w' := by
  have c4 := h.c4
  obtain ⟨q, hlk, hq, _⟩ := look_nm Gp.name g.gs hs
  have h1 := (hlk _ _ h.gm).1
  clear hlk
  have he : hasB (g.gs.map fun x => x.name.toList) s.toList = hasB (gns g) s.toList := rfl
  rw [he] at h1 hq
  clear h he
  cases hh : hasB (gns g) s.toList with
  | true =>
    rw [hh] at h1
    have HQ : Hid (decide (q < i) = aheadB (gns g) s.toList i) := Lib.hid (by rw [(hq hh).1]; rfl)
    clear hh hq
    go_enter Tryz.func85, Tryz.ntmps85
    go_wp2_with fail
    go_ret
    exact ⟨ret_bool (by rw [Bool.true_and, ← HQ.out]), rfl⟩
  | false =>
    rw [hh] at h1
    clear hh hq
    go_enter Tryz.func85, Tryz.ntmps85
    go_wp2_with fail
    go_ret
    exact ⟨rfl, rfl⟩
end
end Go.Proofs.YtigbceankmfaeaaGreatDoor

namespace Go.Proofs.YtigbceankmfaeaaGreatDoor
open Go.RowKit Go.Shelf
theorem below_draws {B : Nat} {a w : World} (h : Below B a w) (n : Nat) : Below B a (w.drewN n) := ⟨h.os, h.tape, h.output, h.size, h.block⟩
theorem quiet_left {P : Program} {f : FuncId} {args : Array Value} {w : World} {n : Nat} {v : Value}
    (h : Calls P f args (w.drewN n) fun e w' => e = .returned v ∧ w.drewN n = w') : Calls P f args (w.drewN n) fun e w'' => e = .returned v ∧ ∃ m, w'' = w.drewN m :=
  h.mono fun _ _ ⟨he, hm⟩ => ⟨he, n, hm.symm⟩
section
variable {L : Nat} {g : Gr} {bg be br bu : Nat}
theorem has_at {α : Type} [Inhabited α] (nm : α → ByteArray) {l : List α} {i : Nat} (hi : i < l.length) : hasB (l.map fun x => (nm x).toList) (nm l[i]!).toList = true := by
  simp only [hasB, List.contains_iff_mem, List.mem_map]
  exact ⟨_, mem_at hi, rfl⟩
set_option maxRecDepth 100000 in
set_option maxHeartbeats 1000000 in
theorem group_any (w : World) (h : LkIn w L g bg be br bu) (hz : SzG g) (i : Nat) (hi : i < g.gs.length) :
    Calls Tryz.prog 43 #[.pointer (some ⟨L, 0, none⟩), .int .i64 i] w fun e w' => e = .returned (.int .i64 (groupE g i)) ∧ Below w.heap.size w w' := by
  have hgl := hz.gs
  have c0 := h.c0
  have c4 := h.c4
  have hL := h.lt
  obtain ⟨b, off, hA, hb, hc⟩ := h.ing.gs.at_ (k := 2) (fun _ => rfl) (by omega) hi
  obtain ⟨hsn, hsp⟩ := hz.gp _ (mem_at hi)
  have k0 := hc 0 _ rfl
  rw [Nat.add_zero] at k0
  have k1 := hc 1 _ rfl
  have HE : Hid (groupE g i = if nameK g.gs[i]!.name.toList then
    if aheadB (gns g) g.gs[i]!.name.toList i then 6
    else if g.gs[i]!.parent.toList == [] then 0
    else if hasB (gns g) g.gs[i]!.parent.toList && aheadB (gns g) g.gs[i]!.parent.toList i then 0 else 10
    else 5) := Lib.hid rfl
  have hat := has_at Gp.name hi
  have hbw : Below w.heap.size w (w.alloc (.cells #[.string g.gs[i]!.name, .string g.gs[i]!.parent] 43)) := (Below.refl _ _).alloc (Nat.le_refl _) _
  obtain ⟨q, hlk, hq, _⟩ := look_nm Gp.name g.gs hsn
  have hl := fun n => (hlk _ _ (h.below (below_draws hbw n)).gm).2
  have hq' := (hq hat).1
  have HA : Hid (decide (q < i) = aheadB (gns g) g.gs[i]!.name.toList i) := Lib.hid (by rw [hq']; rfl)
  have CA := fun W hW => Lib.hid (isGroupAhead_any (L := L) (g := g) (bg := bg) (be := be) (br := br) (bu := bu) W hW g.gs[i]!.parent hsp i)
  have CN := fun W => Lib.hid (isName_any g.gs[i]!.name W hsn)
  have H := Lib.hid h
  rw [hA] at c0
  clear h hc hA hq hq' hat hlk
  generalize g.gs[i]! = p at *
  generalize gns g = ns at *
  cases hn : nameK p.name.toList with
  | false =>
    rw [hn] at CN HE
    clear hn
    go_enter Tryz.func43, Tryz.ntmps43
    go_wp2_with (go_at_call 84; refine (CN _).out.mono ?_; rintro e w' ⟨rfl, rfl⟩)
    go_ret
    exact ⟨ret_i64 (by rw [HE.out]; rfl), hbw⟩
  | true =>
    rw [hn] at CN HE
    clear hn
    by_cases hqi : q < i
    · have hd : decide (q < i) = true := by simpa using hqi
      rw [hd] at HA
      rw [← HA.out] at HE
      go_enter Tryz.func43, Tryz.ntmps43
      go_wp2_with (go_at_call 84; refine (CN _).out.mono ?_; rintro e w' ⟨rfl, rfl⟩)
      go_quiet (fail)
      go_wp2_with fail
      go_ret
      exact ⟨ret_i64 (by rw [HE.out]; rfl), below_draws hbw _⟩
    · have hd : decide (q < i) = false := by simpa using hqi
      rw [hd] at HA
      rw [← HA.out] at HE
      cases hp : (p.parent.toList == []) with
      | true =>
        rw [hp] at HE
        go_enter Tryz.func43, Tryz.ntmps43
        go_wp2_with (go_at_call 84; refine (CN _).out.mono ?_; rintro e w' ⟨rfl, rfl⟩)
        go_quiet (fail)
        go_wp2_with fail
        go_ret
        exact ⟨ret_i64 (by rw [HE.out]; rfl), below_draws hbw _⟩
      | false =>
        rw [hp] at HE
        cases ha : (hasB ns p.parent.toList && aheadB ns p.parent.toList i) with
        | true =>
          rw [ha] at CA HE
          clear ha
          go_enter Tryz.func43, Tryz.ntmps43
          go_wp2_with (go_at_call 84; refine (CN _).out.mono ?_; rintro e w' ⟨rfl, rfl⟩)
          go_quiet (fail)
          go_wp2_with (go_at_call 85; refine (CA _ (H.out.below (below_draws hbw _))).out.mono ?_; rintro e w' ⟨rfl, rfl⟩)
          go_ret
          exact ⟨ret_i64 (by rw [HE.out]; rfl), below_draws hbw _⟩
        | false =>
          rw [ha] at CA HE
          clear ha
          go_enter Tryz.func43, Tryz.ntmps43
          go_wp2_with (go_at_call 84; refine (CN _).out.mono ?_; rintro e w' ⟨rfl, rfl⟩)
          go_quiet (fail)
          go_wp2_with (go_at_call 85; refine (CA _ (H.out.below (below_draws hbw _))).out.mono ?_; rintro e w' ⟨rfl, rfl⟩)
          go_ret
          exact ⟨ret_i64 (by rw [HE.out]; rfl), below_draws hbw _⟩
end
end Go.Proofs.YtigbceankmfaeaaGreatDoor

namespace Go.Proofs.YtigbceankmfaeaaGreatDoor
open Go.RowKit Go.Shelf
theorem tellS_zero (s : St) (part : Nat) (f : Nat → Nat) : tellS s part f 0 = s := by unfold tellS; simp [tellL]
theorem tellS_step {s : St} {part k : Nat} {f : Nat → Nat} (h : (tellS s part f k).2.2 = 0) : tellS s part f (k + 1) = if f k = 0 then tellS s part f k else (part, k, f k) := by
  obtain ⟨h0, hk⟩ := tellS_ok.1 h
  have hn := tellL_none.2 hk
  unfold tellS
  rw [if_pos h0, if_pos h0, hn, tellL, hn]
  by_cases e : f k = 0
  · simp [e]
  · simp [e]
theorem tellL_more {f : Nat → Nat} {x : Nat × Nat} : ∀ {n k : Nat}, tellL f k = some x → k ≤ n → tellL f n = some x
  | 0, k, h, hk => by obtain rfl : k = 0 := by omega
                      exact h
  | n + 1, k, h, hk => by
    by_cases e : k = n + 1
    · rw [← e]; exact h
    · rw [tellL, tellL_more h (by omega : k ≤ n)]
theorem tellS_stop {s : St} {part k n : Nat} {f : Nat → Nat} (h : (tellS s part f k).2.2 ≠ 0) (hk : k ≤ n) : tellS s part f n = tellS s part f k := by
  unfold tellS at h ⊢
  by_cases h0 : s.2.2 = 0
  · rw [if_pos h0] at h
    rw [if_pos h0, if_pos h0]
    cases hx : tellL f k with
    | none => rw [hx] at h; exact absurd h0 h
    | some x => rw [tellL_more hx hk]
  · rw [if_neg h0, if_neg h0]
/-- All but two blocks are as they were. -/
structure Kx (Be Bp : Nat) (w w' : World) : Prop where
  os : w'.os = w.os
  tape : w'.tape = w.tape
  output : w'.output = w.output
  size : w.heap.size ≤ w'.heap.size
  block : ∀ k, k < w.heap.size → k ≠ Be → k ≠ Bp → w'.heap[k]? = w.heap[k]?
theorem Kx.refl (Be Bp : Nat) (w : World) : Kx Be Bp w w := ⟨rfl, rfl, rfl, Nat.le_refl _, fun _ _ _ _ => rfl⟩
theorem Kx.trans {Be Bp : Nat} {a b c : World} (h : Kx Be Bp a b) (k : Kx Be Bp b c) : Kx Be Bp a c :=
  ⟨k.os.trans h.os, k.tape.trans h.tape, k.output.trans h.output, Nat.le_trans h.size k.size, fun i hi h1 h2 => (k.block i (Nat.lt_of_lt_of_le hi h.size) h1 h2).trans (h.block i hi h1 h2)⟩
theorem Kx.of_below {Be Bp : Nat} {a b : World} (h : Below a.heap.size a b) : Kx Be Bp a b := ⟨h.os, h.tape, h.output, h.size, fun i hi _ _ => h.block i hi⟩
theorem Kx.setCell {Be Bp : Nat} (w : World) {p : Addr} (u : Value) (h : p.block = Be ∨ p.block = Bp) : Kx Be Bp w (w.setCell p u) :=
  ⟨rfl, rfl, rfl, by simp [World.setCell], fun k _ h1 h2 => Below.heap_setCell _ _ _ _ (fun e => by rcases h with h | h; exact h1 (e.trans h); exact h2 (e.trans h))⟩
/-- What has been told so far. -/
structure TS (Be Bp : Nat) (w : World) (s : St) : Prop where
  e : w.heap[Be]? = some (.cells #[.int .i64 (s.2.2 : Int)] 30 (0, 0))
  p : w.heap[Bp]? = some (.cells #[.int .i64 (s.1 : Int), .int .i64 (s.2.1 : Int)] 53 (0, 0))
theorem cell_blk {w : World} {b i : Nat} {cs : Array Value} {t : TypeId} {v : Value} (h : w.heap[b]? = some (.cells cs t (0, 0))) (hi : cs[i]? = some v) : w.cell? ⟨b, i, none⟩ = some v := by
  unfold World.cell?; simp only; rw [h]; exact hi
theorem frozen_blk {w : World} {b i : Nat} {cs : Array Value} {t : TypeId} (h : w.heap[b]? = some (.cells cs t (0, 0))) : w.frozen? ⟨b, i, none⟩ = false := by
  unfold World.frozen?; simp only; rw [h]; simp
theorem blk_set {w : World} {b i : Nat} {cs : Array Value} {t : TypeId} {v : Value} (h : w.heap[b]? = some (.cells cs t (0, 0))) : (w.setCell ⟨b, i, none⟩ v).heap[b]? = some (.cells (cs.setIfInBounds i v) t (0, 0)) := by
  simp [World.setCell, Array.getElem?_modify, h]
theorem blk_other {w : World} {b c i : Nat} {v : Value} (h : c ≠ b) : (w.setCell ⟨b, i, none⟩ v).heap[c]? = w.heap[c]? := Below.heap_setCell _ _ _ _ h
theorem TS.below {Be Bp : Nat} {w w' : World} {s : St} (h : TS Be Bp w s) (hb : Below w.heap.size w w') : TS Be Bp w' s :=
  ⟨(hb.block _ (Array.getElem?_eq_some_iff.1 h.e).1).trans h.e, (hb.block _ (Array.getElem?_eq_some_iff.1 h.p).1).trans h.p⟩
theorem TS.set_e {Be Bp : Nat} {w : World} {s : St} (h : TS Be Bp w s) (hne : Be ≠ Bp) (c : Nat) : TS Be Bp (w.setCell ⟨Be, 0, none⟩ (.int .i64 (c : Int))) (s.1, s.2.1, c) :=
  ⟨by rw [blk_set h.e]; rfl, by rw [blk_other (Ne.symm hne)]; exact h.p⟩
theorem TS.set_p {Be Bp : Nat} {w : World} {s : St} (h : TS Be Bp w s) (hne : Be ≠ Bp) (p a : Nat) : TS Be Bp ((w.setCell ⟨Bp, 0, none⟩ (.int .i64 (p : Int))).setCell ⟨Bp, 1, none⟩ (.int .i64 (a : Int))) (p, a, s.2.2) :=
  ⟨by rw [blk_other hne, blk_other hne]; exact h.e, by rw [blk_set (blk_set h.p)]; rfl⟩
set_option maxRecDepth 100000 in
set_option maxHeartbeats 2000000 in
theorem tell_any (w : World) (Be Bp L fl part n : Nat) (f : Nat → Nat) (s : St) (hne : Be ≠ Bp) (hs : TS Be Bp w s) (hn : n ≤ 140737488351232) (eg : ∀ args w, (callFunc fl args).run Tryz.prog w = .ok (.enter fl args) w)
    (hcall : ∀ (W : World) (i : Nat), s.2.2 = 0 → Kx Be Bp w W → i < n → Calls Tryz.prog fl #[.pointer (some ⟨L, 0, none⟩), .int .i64 i] W fun e W' => e = .returned (.int .i64 (f i)) ∧ Below W.heap.size W W') :
    Calls Tryz.prog 40 #[.int .i64 part, .int .i64 n, .func (.func fl) #[.pointer (some ⟨L, 0, none⟩)] #[], .pointer (some ⟨Be, 0, none⟩), .pointer (some ⟨Bp, 0, none⟩)] w fun e w' =>
      (∃ v, e = .returned v) ∧ TS Be Bp w' (tellS s part f n) ∧ Kx Be Bp w w' := by
  have HC := Lib.hid hcall
  clear hcall
  go_enter Tryz.func40, Tryz.ntmps40
  go_wp2_with fail
  go_loopw [8] (fun i wr => ∃ k : Nat, k ≤ n ∧ i = .int .i64 k ∧ TS Be Bp wr (tellS s part f k) ∧ Kx Be Bp w wr) (fun i _ => n - (intOf i).toNat)
  case atStart => exact ⟨0, Nat.zero_le _, rfl, by rw [tellS_zero]; exact hs, Kx.refl _ _ _⟩
  case round =>
    obtain ⟨k, hk, rfl, ht, hx⟩ := hrel
    have cE := cell_blk (i := 0) ht.e rfl
    have fE := frozen_blk (i := 0) ht.e
    by_cases hlt : k < n
    · by_cases h0 : (tellS s part f k).2.2 = 0
      · have hst := tellS_step h0
        have C := Lib.hid (HC.out wr k (tellS_ok.1 h0).1 hx hlt)
        rw [h0] at cE
        have HT := Lib.hid ht
        have HX := Lib.hid hx
        have HS := Lib.hid hst
        have H0 := Lib.hid h0
        have cz := hx.size
        clear ht hx hst h0
        have hz0 : (((0 : Nat) : Int)) = 0 := rfl
        by_cases hf : f k = 0
        · rw [hf] at C HS
          rw [if_pos rfl] at HS
          clear hf
          go_wp2_with fail
          refine C.out.mono ?_
          rintro e w1 ⟨rfl, hb1⟩
          have ht1 := HT.out.below hb1
          have cE1 := cell_blk (i := 0) ht1.e rfl
          have fE1 := frozen_blk (i := 0) ht1.e
          have HT2 := Lib.hid (ht1.set_e hne 0)
          have HX2 := Lib.hid ((HX.out.trans (Kx.of_below hb1)).trans (Kx.setCell (Be := Be) (Bp := Bp) w1 (p := ⟨Be, 0, none⟩) (.int .i64 ((0 : Nat) : Int)) (.inl rfl)))
          have HTE : Hid (((tellS s part f k).1, (tellS s part f k).2.1, 0) = tellS s part f k) := Lib.hid (by rw [← H0.out])
          clear ht1 hb1
          go_wp2_with fail
          go_roundw
          case rel => exact ⟨k + 1, hlt, by go_num, by rw [HS.out, ← HTE.out]; exact HT2.out, HX2.out⟩
          case measure => simp [intOf]; omega
        · have hf' : (((f k : Nat) : Int) != 0) = true := by rw [bne_iff_ne]; omega
          rw [if_neg hf] at HS
          clear hf
          generalize f k = c at *
          go_wp2_with fail
          refine C.out.mono ?_
          rintro e w1 ⟨rfl, hb1⟩
          have ht1 := HT.out.below hb1
          have cE1 := cell_blk (i := 0) ht1.e rfl
          have fE1 := frozen_blk (i := 0) ht1.e
          have cP0 := cell_blk (i := 0) ht1.p rfl
          have cP1 := cell_blk (i := 1) ht1.p rfl
          have fP0 := frozen_blk (i := 0) ht1.p
          have fP1 := frozen_blk (i := 1) ht1.p
          have HT2 := Lib.hid ((ht1.set_e hne c).set_p hne part k)
          have HX2 := Lib.hid ((((HX.out.trans (Kx.of_below hb1)).trans (Kx.setCell (Be := Be) (Bp := Bp) w1 (p := ⟨Be, 0, none⟩) (.int .i64 (c : Int)) (.inl rfl))).trans (Kx.setCell _ (p := ⟨Bp, 0, none⟩) (.int .i64 (part : Int)) (.inr rfl))).trans (Kx.setCell _ (p := ⟨Bp, 1, none⟩) (.int .i64 (k : Int)) (.inr rfl)))
          clear ht1 hb1
          go_wp2_with fail
          go_roundw
          case rel => exact ⟨k + 1, hlt, by go_num, by rw [HS.out]; exact HT2.out, HX2.out⟩
          case measure => simp [intOf]; omega
      · have HF := Lib.hid (tellS_stop h0 hk)
        have h0' : (((tellS s part f k).2.2 : Int) == 0) = false := by rw [beq_eq_false_iff_ne]; omega
        go_wp2_with fail
        go_end0
        exact ⟨⟨_, rfl⟩, by rw [HF.out]; exact ht, hx⟩
    · obtain rfl : k = n := by omega
      go_wp2_with fail
      go_end0
      exact ⟨⟨_, rfl⟩, ht, hx⟩
end Go.Proofs.YtigbceankmfaeaaGreatDoor
