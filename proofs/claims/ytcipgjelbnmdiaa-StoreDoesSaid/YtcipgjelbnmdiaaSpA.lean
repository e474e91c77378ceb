/-
  The document's own store, in the same words: contracts of its New, Fuse, Up, Read, Write, Bytes.
-/
import Derived.Test.YtcipgjelbnmdiaaSoJ
namespace Go.Proofs.Ytcipgjelbnmdiaa.ST
open Go.RowKit Go.Shelf Go.Proofs.Ytcipgjelbnmdiaa.B
attribute [local go_sem] Oper.semAt_some

/-- What the document's store tells besides its blocks. -/
structure Rs where
  wt : Int
  pr : Int
  down : Bool
  many : Int
def stV (b : Bk) : Value := .string ⟨b.toArray⟩
def reC (g n c : Nat) (r : Rs) : Array Value := #[.slice (some ⟨g, 0, none⟩) n c, .int .i64 r.wt, .int .i64 r.pr, .bool r.down, .int .i64 r.many]
/-- The document's store in memory. -/
structure RB (w : World) (rb g c : Nat) (L : List Bk) (r : Rs) : Prop where
  box : w.heap[rb]? = some (.cells (reC g L.length c r) 73 (0, 0))
  row : ∃ ex, w.heap[g]? = some (.cells (L.map stV ++ ex).toArray 9 (0, 0))
  len : ∀ b ∈ L, b.length = 32
  few : 1 ≤ L.length ∧ L.length ≤ 256
  pr : 0 ≤ r.pr ∧ r.pr ≤ 32
theorem RB.lt {w : World} {rb g c : Nat} {L : List Bk} {r : Rs} (h : RB w rb g c L r) : rb < w.heap.size := blk_lt h.box
theorem RB.ltg {w : World} {rb g c : Nat} {L : List Bk} {r : Rs} (h : RB w rb g c L r) : g < w.heap.size := by obtain ⟨ex, hx⟩ := h.row; exact blk_lt hx
theorem RB.ne {w : World} {rb g c : Nat} {L : List Bk} {r : Rs} (h : RB w rb g c L r) : rb ≠ g := fun e => by
  obtain ⟨ex, hx⟩ := h.row
  have := h.box
  rw [e, hx] at this
  simp only [Option.some.injEq, Obj.cells.injEq] at this
  exact absurd this.2.1 (by decide)
theorem RB.keep {w w' : World} {rb g c : Nat} {L : List Bk} {r : Rs} (h : RB w rb g c L r) (h1 : w'.heap[rb]? = w.heap[rb]?) (h2 : w'.heap[g]? = w.heap[g]?) : RB w' rb g c L r where
  box := h1.trans h.box
  row := by obtain ⟨ex, hx⟩ := h.row; exact ⟨ex, h2.trans hx⟩
  len := h.len
  few := h.few
  pr := h.pr
theorem RB.below {w w' : World} {rb g c : Nat} {L : List Bk} {r : Rs} (h : RB w rb g c L r) (hb : Below w.heap.size w w') : RB w' rb g c L r := h.keep (hb.block _ h.lt) (hb.block _ h.ltg)
theorem RB.drew {w : World} {rb g c : Nat} {L : List Bk} {r : Rs} (h : RB w rb g c L r) : RB w.drew rb g c L r := h.keep rfl rfl
theorem blk_ne {w : World} {a b : Nat} {cs ds : Array Value} {s t : TypeId} (h : w.heap[a]? = some (.cells cs s (0, 0))) (h2 : w.heap[b]? = some (.cells ds t (0, 0))) (hn : s ≠ t) : a ≠ b := fun e => by
  subst e
  rw [h] at h2
  simp only [Option.some.injEq, Obj.cells.injEq] at h2
  exact hn h2.2.1
/-- The two stand apart. -/
theorem apart {w : World} {sb g c rb q e : Nat} {L M : List Bk} {f : Fs} {r : Rs} (h : SB w sb g c L f) (h2 : RB w rb q e M r) : sb ≠ rb ∧ sb ≠ q ∧ g ≠ rb ∧ g ≠ q := by
  obtain ⟨x, hx⟩ := h.row
  obtain ⟨y, hy⟩ := h2.row
  exact ⟨blk_ne h.box h2.box (by decide), blk_ne h.box hy (by decide), blk_ne hx h2.box (by decide), blk_ne hx hy (by decide)⟩
theorem RB.other {w w' : World} {sb g c rb q e : Nat} {L M : List Bk} {f : Fs} {r : Rs} (h2 : RB w rb q e M r) (h : SB w sb g c L f) (hk : K2 sb g w w') : RB w' rb q e M r := by
  obtain ⟨n1, n2, n3, n4⟩ := apart h h2
  exact h2.keep (hk.block _ h2.lt (Ne.symm n1) (Ne.symm n3)) (hk.block _ h2.ltg (Ne.symm n2) (Ne.symm n4))
theorem SB.other2 {w w' : World} {sb g c rb q e : Nat} {L M : List Bk} {f : Fs} {r : Rs} (h : SB w sb g c L f) (h2 : RB w rb q e M r) (hk : K2 rb q w w') : SB w' sb g c L f := by
  obtain ⟨n1, n2, n3, n4⟩ := apart h h2
  exact h.other hk n1 n2 n3 n4
theorem RB.set {w : World} {rb g c : Nat} {L : List Bk} {r r' : Rs} (h : RB w rb g c L r) (i : Nat) (v : Value) (e : (reC g L.length c r).setIfInBounds i v = reC g L.length c r') (h4 : 0 ≤ r'.pr ∧ r'.pr ≤ 32) :
    RB (w.setCell ⟨rb, i, none⟩ v) rb g c L r' := by
  have hb := blk_set (i := i) (v := v) h.box
  rw [e] at hb
  obtain ⟨ex, hx⟩ := h.row
  exact ⟨hb, ⟨ex, (blk_other (Ne.symm h.ne)).trans hx⟩, h.len, h.few, h4⟩
theorem RB.cells {w : World} {rb g c : Nat} {L : List Bk} {r : Rs} (h : RB w rb g c L r) : w.cell? ⟨rb, 0, none⟩ = some (.slice (some ⟨g, 0, none⟩) L.length c) ∧ w.cell? ⟨rb, 1, none⟩ = some (.int .i64 r.wt) ∧ w.cell? ⟨rb, 2, none⟩ = some (.int .i64 r.pr) ∧ w.cell? ⟨rb, 3, none⟩ = some (.bool r.down) ∧ w.cell? ⟨rb, 4, none⟩ = some (.int .i64 r.many) :=
  ⟨cell_blk (i := 0) h.box rfl, cell_blk (i := 1) h.box rfl, cell_blk (i := 2) h.box rfl, cell_blk (i := 3) h.box rfl, cell_blk (i := 4) h.box rfl⟩
theorem RB.free {w : World} {rb g c : Nat} {L : List Bk} {r : Rs} (h : RB w rb g c L r) (i : Nat) : w.frozen? ⟨rb, i, none⟩ = false := frozen_blk h.box
theorem RB.freeg {w : World} {rb g c : Nat} {L : List Bk} {r : Rs} (h : RB w rb g c L r) (i : Nat) : w.frozen? ⟨g, i, none⟩ = false := by obtain ⟨ex, hx⟩ := h.row; exact frozen_blk hx
theorem RB.at_ {w : World} {rb g c : Nat} {L : List Bk} {r : Rs} (h : RB w rb g c L r) {i : Nat} (hi : i < L.length) : w.cell? ⟨g, i, none⟩ = some (stV L[i]!) := by
  obtain ⟨ex, hx⟩ := h.row
  refine cell_blk hx ?_
  rw [List.getElem?_toArray, List.getElem?_append_left (by simpa using hi), List.getElem?_map, List.getElem?_eq_getElem hi, getElem!_pos L i hi]
  rfl
theorem RB.put {w : World} {rb g c : Nat} {L : List Bk} {r : Rs} (h : RB w rb g c L r) {i : Nat} (hi : i < L.length) (b : Bk) (hb : b.length = 32) : RB (w.setCell ⟨g, i, none⟩ (stV b)) rb g c (L.set i b) r := by
  obtain ⟨ex, hx⟩ := h.row
  refine ⟨?_, ⟨ex, ?_⟩, fun b' hb' => ?_, by rw [List.length_set]; exact h.few, h.pr⟩
  · rw [List.length_set]; exact (blk_other h.ne).trans h.box
  · have := blk_set (i := i) (v := stV b) hx
    rw [this]
    congr 2
    rw [List.setIfInBounds_toArray, List.set_append_left _ _ (by simpa using hi), List.map_set]
  · rcases List.mem_or_eq_of_mem_set hb' with h1 | rfl
    · exact h.len b' h1
    · exact hb
set_option maxHeartbeats 1000000 in
theorem rfuse_any (w : World) (rb g c : Nat) (L : List Bk) (r : Rs) (h : RB w rb g c L r) (n p : Int) : Calls Try.prog 32 #[pt rb, .int .i64 n, .int .i64 p] w fun e w' => e = .returned (.tuple #[]) ∧ RB w' rb g c L ⟨max n (-1), max p 0 % 33, r.down, r.many⟩ ∧ K2 rb g w w' := by
  obtain ⟨wt, pr, down, many⟩ := r
  obtain ⟨-, c1, c2, -, -⟩ := h.cells
  simp only at c1 c2
  have f1 := h.free 1
  have f2 := h.free 2
  have hl := h.lt
  have H := Lib.hid h
  clear h
  go_enter Try.func32, Try.ntmps32
  go_wp2_with fail
  go_end0
  exact ⟨rfl, (H.out.set (r' := ⟨max n (-1), pr, down, many⟩) 1 _ rfl H.out.pr).set 2 _ rfl ⟨by show 0 ≤ max p 0 % 33; omega, by show max p 0 % 33 ≤ 32; omega⟩, ((K2.refl rb g w).setCell ⟨rb, 1, none⟩ _ (.inl rfl)).setCell ⟨rb, 2, none⟩ _ (.inl rfl)⟩
set_option maxHeartbeats 1000000 in
theorem rup_any (w : World) (rb g c : Nat) (L : List Bk) (r : Rs) (h : RB w rb g c L r) : Calls Try.prog 34 #[pt rb] w fun e w' => e = .returned (.tuple #[]) ∧ RB w' rb g c L ⟨-1, r.pr, false, r.many⟩ ∧ K2 rb g w w' := by
  obtain ⟨wt, pr, down, many⟩ := r
  obtain ⟨-, c1, -, c3, -⟩ := h.cells
  simp only at c1 c3
  have f1 := h.free 1
  have f3 := h.free 3
  have hl := h.lt
  have H := Lib.hid h
  clear h
  go_enter Try.func34, Try.ntmps34
  go_wp2_with fail
  go_end0
  exact ⟨rfl, (H.out.set (r' := ⟨wt, pr, false, many⟩) 3 _ rfl H.out.pr).set 1 _ rfl H.out.pr, ((K2.refl rb g w).setCell ⟨rb, 3, none⟩ _ (.inl rfl)).setCell ⟨rb, 1, none⟩ _ (.inl rfl)⟩
set_option maxHeartbeats 1000000 in
theorem rread_any (w : World) (rb g c : Nat) (L : List Bk) (r : Rs) (h : RB w rb g c L r) (i : Int) : Calls Try.prog 36 #[pt rb, .int .i64 i] w fun e w' => e = .returned (.tuple #[.string (readS L r.down i), .int .i64 (reachE L.length r.down i)]) ∧ w = w' := by
  obtain ⟨wt, pr, down, many⟩ := r
  obtain ⟨c0, -, -, c3, -⟩ := h.cells
  simp only at c3
  have hl := h.lt
  have HA := Lib.hid (fun (k : Nat) (hk : k < L.length) => h.at_ hk)
  clear h
  cases down with
  | true =>
    have e1 : readS L true i = ⟨#[]⟩ := by unfold readS; rw [if_neg (by unfold reachE; rw [if_pos rfl]; decide)]
    have e2 : reachE L.length true i = 16 := rfl
    rw [e1, e2]
    clear e1 e2
    go_enter Try.func36, Try.ntmps36
    go_wp2_with fail
    go_ret2
    exact ⟨rfl, rfl⟩
  | false =>
    by_cases hi : i < 0
    · have e2 : reachE L.length false i = 3 := by unfold reachE; rw [if_neg (by decide), if_pos (.inl hi)]
      have e1 : readS L false i = ⟨#[]⟩ := by unfold readS; rw [e2]; rfl
      rw [e1, e2]
      clear e1 e2
      go_enter Try.func36, Try.ntmps36
      go_wp2_with fail
      go_ret2
      exact ⟨rfl, rfl⟩
    · by_cases hj : (L.length : Int) ≤ i
      · have e2 : reachE L.length false i = 3 := by unfold reachE; rw [if_neg (by decide), if_pos (.inr hj)]
        have e1 : readS L false i = ⟨#[]⟩ := by unfold readS; rw [e2]; rfl
        rw [e1, e2]
        clear e1 e2
        go_enter Try.func36, Try.ntmps36
        go_wp2_with fail
        go_ret2
        exact ⟨rfl, rfl⟩
      · obtain ⟨k, rfl⟩ : ∃ k : Nat, i = (k : Int) := ⟨i.toNat, by omega⟩
        have hk : k < L.length := by omega
        have e2 : reachE L.length false (k : Int) = 0 := by unfold reachE; rw [if_neg (by decide), if_neg (by omega)]
        have e1 : readS L false (k : Int) = ⟨L[k]!.toArray⟩ := by unfold readS; rw [if_pos e2]; rfl
        have c9 := HA.out k hk
        unfold stV at c9
        rw [e1, e2]
        clear e1 e2
        generalize (⟨L[k]!.toArray⟩ : ByteArray) = S at *
        go_enter Try.func36, Try.ntmps36
        go_wp2_with fail
        go_ret2
        exact ⟨rfl, rfl⟩
/-- What the document's write does. -/
def rwS (L : List Bk) (r : Rs) (i : Int) (d : ByteArray) : Int × List Bk × Rs :=
  if reachE L.length r.down i ≠ 0 then (reachE L.length r.down i, L, r)
  else if d.size ≠ 32 then (1, L, r)
  else if r.wt = 0 then (16, L.set i.toNat (onto L[i.toNat]! (d.extract 0 r.pr.toNat)), ⟨-1, r.pr, true, r.many⟩)
  else (0, L.set i.toNat (onto L[i.toNat]! d), ⟨if 0 < r.wt then r.wt - 1 else r.wt, r.pr, r.down, r.many + 1⟩)
theorem onto_full {b : Bk} {d : ByteArray} (hb : b.length = 32) (hd : d.size = 32) : stV (onto b d) = .string d := by
  unfold stV onto
  rw [List.drop_of_length_le (by omega), List.append_nil]
theorem onto_part {b : Bk} {d : ByteArray} (hb : b.length = 32) (hd : d.size = 32) {p : Nat} (hp : p ≤ 32) : stV (onto b (d.extract 0 p)) = .string (d.extract 0 p ++ (⟨b.toArray⟩ : ByteArray).extract p 32) := by
  unfold stV onto
  congr 1
  apply ByteArray.ext
  apply Array.toList_inj.1
  rw [ba_append, Lib.extract_data, Lib.extract_data, ByteArray.size_extract, hd]
  show List.take (p - 0) (List.drop 0 d.data.toList) ++ List.drop (min p 32 - 0) b = List.take (p - 0) (List.drop 0 d.data.toList) ++ List.take (32 - p) (List.drop p b)
  congr 1
  rw [Nat.min_eq_left hp, Nat.sub_zero, List.take_of_length_le (by rw [List.length_drop]; omega)]
set_option maxRecDepth 100000 in
set_option maxHeartbeats 1000000 in
theorem rwrite_no (w : World) (rb g c : Nat) (L : List Bk) (r : Rs) (h : RB w rb g c L r) (i : Int) (d : ByteArray) (hn : reachE L.length r.down i ≠ 0 ∨ d.size ≠ 32) :
    Calls Try.prog 30 #[pt rb, .int .i64 i, .string d] w fun e w' => e = .returned (.int .i64 (rwS L r i d).1) ∧ w = w' := by
  have CR := Lib.hid (rread_any w rb g c L r h i)
  by_cases h0 : reachE L.length r.down i = 0
  · have hn2 : d.size ≠ 32 := hn.resolve_left (fun e => e h0)
    have HE : Hid ((rwS L r i d).1 = 1) := Lib.hid (by unfold rwS; rw [if_neg (by simpa using h0), if_pos hn2])
    rw [h0] at CR
    have hb1 : ((d.size : Int) == 32) = false := beq_eq_false_iff_ne.2 (by omega)
    have hb2 : ((d.size : Int) != 32) = true := by rw [bne_iff_ne]; omega
    clear h0 hn hn2 h
    go_enter Try.func30, Try.ntmps30
    go_wp2_with fail
    refine CR.out.mono ?_
    rintro e w1 ⟨rfl, rfl⟩
    go_wp2_with fail
    go_ret
    exact ⟨by rw [HE.out]; rfl, rfl⟩
  · have HE : Hid ((rwS L r i d).1 = reachE L.length r.down i) := Lib.hid (by unfold rwS; rw [if_pos h0])
    obtain ⟨E, hE⟩ : ∃ E, reachE L.length r.down i = E := ⟨_, rfl⟩
    rw [hE] at CR h0 HE
    clear hE h hn
    have hb : (E == 0) = false := beq_eq_false_iff_ne.2 h0
    have hb2 : (E != 0) = true := by rw [bne_iff_ne]; exact h0
    clear h0
    go_enter Try.func30, Try.ntmps30
    go_wp2_with fail
    refine CR.out.mono ?_
    rintro e w1 ⟨rfl, rfl⟩
    go_wp2_with fail
    go_ret
    exact ⟨by rw [HE.out]; rfl, rfl⟩
set_option maxRecDepth 100000 in
set_option maxHeartbeats 2000000 in
theorem rwrite_yes (w : World) (rb g c : Nat) (L : List Bk) (r : Rs) (h : RB w rb g c L r) (i : Nat) (hi : i < L.length) (d : ByteArray) (hs : d.size = 32) (hd : r.down = false) (ht : r.wt ≠ 0) (hw : -1 ≤ r.wt ∧ r.wt ≤ 9223372036854775807) (hm : 0 ≤ r.many ∧ r.many ≤ 1000000) :
    Calls Try.prog 30 #[pt rb, .int .i64 (i : Int), .string d] w fun e w' => e = .returned (.int .i64 0) ∧ RB w' rb g c (L.set i (onto L[i]! d)) ⟨if 0 < r.wt then r.wt - 1 else r.wt, r.pr, r.down, r.many + 1⟩ ∧ K2 rb g w w' := by
  have h0 : reachE L.length r.down (i : Int) = 0 := by unfold reachE; rw [hd, if_neg (by decide), if_neg (by omega)]
  have CR := Lib.hid (rread_any w rb g c L r h (i : Int))
  rw [h0] at CR
  have hb1 : ((d.size : Int) == 32) = true := by rw [hs]; rfl
  have hb2 : ((d.size : Int) != 32) = false := by rw [hs]; rfl
  have HBL := Lib.hid (h.len _ (mem_at hi))
  obtain ⟨wt, pr, down, many⟩ := r
  simp only at ht hd CR ⊢
  obtain ⟨c0, c1, c2, c3, c4⟩ := h.cells
  simp only at c1 c2 c3 c4
  have f1 := h.free 1
  have f4 := h.free 4
  have fg := h.freeg i
  have c9 := h.at_ hi
  unfold stV at c9
  have hl := h.lt
  have hlg := h.ltg
  have hne := h.ne
  have H := Lib.hid h
  clear h0
  simp only at hw hm
  have hw0 := hw.1
  have hw1 := hw.2
  have hm0 := hm.1
  have hm1 := hm.2
  have HOF := Lib.hid (onto_full HBL.out hs)
  have HOL := Lib.hid (onto_len HBL.out (by rw [hs]; decide : d.size ≤ 32))
  have hwb : (wt == 0) = false := beq_eq_false_iff_ne.2 ht
  by_cases hp : 0 < wt
  · rw [if_pos hp]
    have hp2 : wt > 0 := hp
    have HF : Hid (RB (((w.setCell ⟨rb, 1, none⟩ (.int .i64 (wt - 1))).setCell ⟨g, i, none⟩ (.string d)).setCell ⟨rb, 4, none⟩ (.int .i64 (many + 1))) rb g c (L.set i (onto L[i]! d)) ⟨wt - 1, pr, down, many + 1⟩) := Lib.hid (by
      have q1 := H.out.set (r' := ⟨wt - 1, pr, down, many⟩) 1 (.int .i64 (wt - 1)) rfl H.out.pr
      have q2 := q1.put hi (onto L[i]! d) HOL.out
      rw [HOF.out] at q2
      exact q2.set 4 _ rfl H.out.pr)
    have HK : Hid (K2 rb g w (((w.setCell ⟨rb, 1, none⟩ (.int .i64 (wt - 1))).setCell ⟨g, i, none⟩ (.string d)).setCell ⟨rb, 4, none⟩ (.int .i64 (many + 1)))) := Lib.hid ((((K2.refl rb g w).setCell ⟨rb, 1, none⟩ _ (.inl rfl)).setCell ⟨g, i, none⟩ _ (.inr rfl)).setCell ⟨rb, 4, none⟩ _ (.inl rfl))
    clear h hs hd ht hm H HBL
    go_enter Try.func30, Try.ntmps30
    go_wp2_with fail
    refine CR.out.mono ?_
    rintro e w1 ⟨rfl, rfl⟩
    go_wp2_with fail
    go_ret
    exact ⟨rfl, HF.out, HK.out⟩
  · rw [if_neg hp]
    have hp2 : ¬ wt > 0 := hp
    have HF : Hid (RB ((w.setCell ⟨g, i, none⟩ (.string d)).setCell ⟨rb, 4, none⟩ (.int .i64 (many + 1))) rb g c (L.set i (onto L[i]! d)) ⟨wt, pr, down, many + 1⟩) := Lib.hid (by
      have q2 := H.out.put hi (onto L[i]! d) HOL.out
      rw [HOF.out] at q2
      exact q2.set 4 _ rfl H.out.pr)
    have HK : Hid (K2 rb g w ((w.setCell ⟨g, i, none⟩ (.string d)).setCell ⟨rb, 4, none⟩ (.int .i64 (many + 1)))) := Lib.hid (((K2.refl rb g w).setCell ⟨g, i, none⟩ _ (.inr rfl)).setCell ⟨rb, 4, none⟩ _ (.inl rfl))
    clear h hs hd ht hm H HBL
    go_enter Try.func30, Try.ntmps30
    go_wp2_with fail
    refine CR.out.mono ?_
    rintro e w1 ⟨rfl, rfl⟩
    go_wp2_with fail
    go_ret
    exact ⟨rfl, HF.out, HK.out⟩
set_option maxRecDepth 100000 in
set_option maxHeartbeats 4000000 in
theorem rwrite_torn (w : World) (rb g c : Nat) (L : List Bk) (r : Rs) (h : RB w rb g c L r) (i : Nat) (hi : i < L.length) (d : ByteArray) (hs : d.size = 32) (hd : r.down = false) (ht : r.wt = 0) :
    Calls Try.prog 30 #[pt rb, .int .i64 (i : Int), .string d] w fun e w' => e = .returned (.int .i64 16) ∧ RB w' rb g c (L.set i (onto L[i]! (d.extract 0 r.pr.toNat))) ⟨-1, r.pr, true, r.many⟩ ∧ K2 rb g w w' := by
  have h0 : reachE L.length r.down (i : Int) = 0 := by unfold reachE; rw [hd, if_neg (by decide), if_neg (by omega)]
  have CR := Lib.hid (rread_any w rb g c L r h (i : Int))
  rw [h0] at CR
  have hb1 : ((d.size : Int) == 32) = true := by rw [hs]; rfl
  have hb2 : ((d.size : Int) != 32) = false := by rw [hs]; rfl
  have HBL := Lib.hid (h.len _ (mem_at hi))
  obtain ⟨wt, pr, down, many⟩ := r
  simp only at ht hd CR ⊢
  obtain ⟨c0, c1, c2, c3, c4⟩ := h.cells
  simp only at c1 c2 c3 c4
  have f1 := h.free 1
  have f4 := h.free 4
  have fg := h.freeg i
  have c9 := h.at_ hi
  unfold stV at c9
  have hl := h.lt
  have hlg := h.ltg
  have hne := h.ne
  have H := Lib.hid h
  clear h0
  subst ht
  have hpr := h.pr
  simp only at hpr
  obtain ⟨p, rfl⟩ : ∃ p : Nat, pr = (p : Int) := ⟨pr.toNat, by have := hpr.1; omega⟩
  have hp1 : p ≤ 32 := by have := hpr.2; omega
  rw [Int.toNat_natCast]
  have HOP := Lib.hid (onto_part HBL.out hs hp1)
  have HOL : Hid ((onto L[i]! (d.extract 0 p)).length = 32) := Lib.hid (onto_len HBL.out (by rw [ByteArray.size_extract]; omega))
  obtain ⟨S, hS⟩ : ∃ S : ByteArray, S = ⟨L[i]!.toArray⟩ := ⟨_, rfl⟩
  rw [← hS] at HOP c9
  have HBE : Hid (stV L[i]! = .string S) := Lib.hid (by unfold stV; rw [hS])
  have hSs : S.size = 32 := by rw [hS]; show L[i]!.toArray.size = 32; rw [List.size_toArray]; exact HBL.out
  clear hS
  have S0 := Lib.hid h.drew
  have z5 : (0 : Int) ≤ (p : Int) := Int.natCast_nonneg _
  have z6 : (p : Int) ≤ 32 := by omega
  have z7 : (p : Int) ≤ (d.size : Int) := by omega
  have q3 : (9223372036854775807 < p + (32 - p)) = False := by simp; omega
  clear h c0 c1 c2 c3 c4 c9 hpr hd
  have hw0 : ((0 : Int) == 0) = true := rfl
  obtain ⟨c0, c1, -, -, -⟩ := H.out.cells
  simp only at c1
  go_enter Try.func30, Try.ntmps30
  go_wp2_with fail
  refine CR.out.mono ?_
  rintro e w1 ⟨rfl, rfl⟩
  go_wp2_with fail
  clear c0 c1
  refine wp_region_T (S := fun W => RB W rb g c L ⟨0, (p : Int), down, many⟩) (z := 25) (by kernel_rfl) ?_
  refine anyT_take (i := 0) 0 [] (v := ?_) rfl (by kernel_rfl) (by kernel_rfl) (by kernel_rfl) (by kernel_rfl) (fun _ _ _ h => h) S0.out (by rfl) ?_ ?_
  rotate_left
  · intro W9 hSw
    obtain ⟨c0, -, c2, -, -⟩ := hSw.cells
    have c9 := hSw.at_ hi
    rw [HBE.out] at c9
    simp only at c2
    clear hSw
    go_simp
    try with_reducible rfl
  simp only [Act.put, List.setIfInBounds_toArray]
  try simp only [List.set_cons_zero, List.set_cons_succ]
  try simp only [List.getElem_toArray]
  repeat (first | simp only [List.getElem_cons_zero] | simp only [List.getElem_cons_succ])
  refine anyT_take (i := 1) 1 [] (v := ?_) rfl (by kernel_rfl) (by kernel_rfl) (by kernel_rfl) (by kernel_rfl) (fun _ _ _ h => h) S0.out (by rfl) ?_ ?_
  rotate_left
  · intro W9 hSw
    obtain ⟨c0, -, c2, -, -⟩ := hSw.cells
    have c9 := hSw.at_ hi
    rw [HBE.out] at c9
    simp only at c2
    clear hSw
    go_simp
    try with_reducible rfl
  simp only [Act.put, List.setIfInBounds_toArray]
  try simp only [List.set_cons_zero, List.set_cons_succ]
  try simp only [List.getElem_toArray]
  repeat (first | simp only [List.getElem_cons_zero] | simp only [List.getElem_cons_succ])
  refine anyT_take (i := 2) 2 [] (v := ?_) rfl (by kernel_rfl) (by kernel_rfl) (by kernel_rfl) (by kernel_rfl) (fun _ _ _ h => h) S0.out (by rfl) ?_ ?_
  rotate_left
  · intro W9 hSw
    obtain ⟨c0, -, c2, -, -⟩ := hSw.cells
    have c9 := hSw.at_ hi
    rw [HBE.out] at c9
    simp only at c2
    clear hSw
    go_simp
    try with_reducible rfl
  simp only [Act.put, List.setIfInBounds_toArray]
  try simp only [List.set_cons_zero, List.set_cons_succ]
  try simp only [List.getElem_toArray]
  repeat (first | simp only [List.getElem_cons_zero] | simp only [List.getElem_cons_succ])
  refine anyT_take (i := 3) 3 [] (v := ?_) rfl (by kernel_rfl) (by kernel_rfl) (by kernel_rfl) (by kernel_rfl) (fun _ _ _ h => h) S0.out (by rfl) ?_ ?_
  rotate_left
  · intro W9 hSw
    obtain ⟨c0, -, c2, -, -⟩ := hSw.cells
    have c9 := hSw.at_ hi
    rw [HBE.out] at c9
    simp only at c2
    clear hSw
    go_simp
    try with_reducible rfl
  simp only [Act.put, List.setIfInBounds_toArray]
  try simp only [List.set_cons_zero, List.set_cons_succ]
  try simp only [List.getElem_toArray]
  repeat (first | simp only [List.getElem_cons_zero] | simp only [List.getElem_cons_succ])
  refine anyT_take (i := 4) 4 [] (v := ?_) rfl (by kernel_rfl) (by kernel_rfl) (by kernel_rfl) (by kernel_rfl) (fun _ _ _ h => h) S0.out (by rfl) ?_ ?_
  rotate_left
  · intro W9 hSw
    obtain ⟨c0, -, c2, -, -⟩ := hSw.cells
    have c9 := hSw.at_ hi
    rw [HBE.out] at c9
    simp only at c2
    clear hSw
    go_simp
    try with_reducible rfl
  simp only [Act.put, List.setIfInBounds_toArray]
  try simp only [List.set_cons_zero, List.set_cons_succ]
  try simp only [List.getElem_toArray]
  repeat (first | simp only [List.getElem_cons_zero] | simp only [List.getElem_cons_succ])
  refine anyT_take (i := 5) 5 [] (v := ?_) rfl (by kernel_rfl) (by kernel_rfl) (by kernel_rfl) (by kernel_rfl) (fun _ _ _ h => h) S0.out (by rfl) ?_ ?_
  rotate_left
  · intro W9 hSw
    obtain ⟨c0, -, c2, -, -⟩ := hSw.cells
    have c9 := hSw.at_ hi
    rw [HBE.out] at c9
    simp only at c2
    clear hSw
    go_simp
    try with_reducible rfl
  simp only [Act.put, List.setIfInBounds_toArray]
  try simp only [List.set_cons_zero, List.set_cons_succ]
  try simp only [List.getElem_toArray]
  repeat (first | simp only [List.getElem_cons_zero] | simp only [List.getElem_cons_succ])
  refine anyT_take (i := 6) 6 [] (v := ?_) rfl (by kernel_rfl) (by kernel_rfl) (by kernel_rfl) (by kernel_rfl) (fun _ _ _ h => h) S0.out (by rfl) ?_ ?_
  rotate_left
  · intro W9 hSw
    obtain ⟨c0, -, c2, -, -⟩ := hSw.cells
    have c9 := hSw.at_ hi
    rw [HBE.out] at c9
    simp only at c2
    clear hSw
    go_simp
    try with_reducible rfl
  simp only [Act.put, List.setIfInBounds_toArray]
  try simp only [List.set_cons_zero, List.set_cons_succ]
  try simp only [List.getElem_toArray]
  repeat (first | simp only [List.getElem_cons_zero] | simp only [List.getElem_cons_succ])
  refine anyT_take (i := 7) 7 [] (v := ?_) rfl (by kernel_rfl) (by kernel_rfl) (by kernel_rfl) (by kernel_rfl) (fun _ _ _ h => h) S0.out (by rfl) ?_ ?_
  rotate_left
  · intro W9 hSw
    obtain ⟨c0, -, c2, -, -⟩ := hSw.cells
    have c9 := hSw.at_ hi
    rw [HBE.out] at c9
    simp only at c2
    clear hSw
    go_simp
    try with_reducible rfl
  simp only [Act.put, List.setIfInBounds_toArray]
  try simp only [List.set_cons_zero, List.set_cons_succ]
  try simp only [List.getElem_toArray]
  repeat (first | simp only [List.getElem_cons_zero] | simp only [List.getElem_cons_succ])
  refine anyT_take (i := 8) 8 [] (v := ?_) rfl (by kernel_rfl) (by kernel_rfl) (by kernel_rfl) (by kernel_rfl) (fun _ _ _ h => h) S0.out (by rfl) ?_ ?_
  rotate_left
  · intro W9 hSw
    obtain ⟨c0, -, c2, -, -⟩ := hSw.cells
    have c9 := hSw.at_ hi
    rw [HBE.out] at c9
    simp only at c2
    clear hSw
    go_simp
    try with_reducible rfl
  simp only [Act.put, List.setIfInBounds_toArray]
  try simp only [List.set_cons_zero, List.set_cons_succ]
  try simp only [List.getElem_toArray]
  repeat (first | simp only [List.getElem_cons_zero] | simp only [List.getElem_cons_succ])
  refine anyT_take (i := 9) 9 [] (v := ?_) rfl (by kernel_rfl) (by kernel_rfl) (by kernel_rfl) (by kernel_rfl) (fun _ _ _ h => h) S0.out (by rfl) ?_ ?_
  rotate_left
  · intro W9 hSw
    obtain ⟨c0, -, c2, -, -⟩ := hSw.cells
    have c9 := hSw.at_ hi
    rw [HBE.out] at c9
    simp only at c2
    clear hSw
    go_simp
    try with_reducible rfl
  simp only [Act.put, List.setIfInBounds_toArray]
  try simp only [List.set_cons_zero, List.set_cons_succ]
  try simp only [List.getElem_toArray]
  repeat (first | simp only [List.getElem_cons_zero] | simp only [List.getElem_cons_succ])
  refine anyT_take (i := 10) 10 [] (v := ?_) rfl (by kernel_rfl) (by kernel_rfl) (by kernel_rfl) (by kernel_rfl) (fun _ _ _ h => h) S0.out (by rfl) ?_ ?_
  rotate_left
  · intro W9 hSw
    obtain ⟨c0, -, c2, -, -⟩ := hSw.cells
    have c9 := hSw.at_ hi
    rw [HBE.out] at c9
    simp only at c2
    clear hSw
    go_simp
    try with_reducible rfl
  simp only [Act.put, List.setIfInBounds_toArray]
  try simp only [List.set_cons_zero, List.set_cons_succ]
  try simp only [List.getElem_toArray]
  repeat (first | simp only [List.getElem_cons_zero] | simp only [List.getElem_cons_succ])
  refine anyT_take (i := 11) 11 [] (v := ?_) rfl (by kernel_rfl) (by kernel_rfl) (by kernel_rfl) (by kernel_rfl) (fun _ _ _ h => h) S0.out (by rfl) ?_ ?_
  rotate_left
  · intro W9 hSw
    obtain ⟨c0, -, c2, -, -⟩ := hSw.cells
    have c9 := hSw.at_ hi
    rw [HBE.out] at c9
    simp only at c2
    clear hSw
    go_simp
    try with_reducible rfl
  simp only [Act.put, List.setIfInBounds_toArray]
  try simp only [List.set_cons_zero, List.set_cons_succ]
  try simp only [List.getElem_toArray]
  repeat (first | simp only [List.getElem_cons_zero] | simp only [List.getElem_cons_succ])
  refine anyT_take (i := 12) 12 [] (v := ?_) rfl (by kernel_rfl) (by kernel_rfl) (by kernel_rfl) (by kernel_rfl) (fun _ _ _ h => h) S0.out (by rfl) ?_ ?_
  rotate_left
  · intro W9 hSw
    obtain ⟨c0, -, c2, -, -⟩ := hSw.cells
    have c9 := hSw.at_ hi
    rw [HBE.out] at c9
    simp only at c2
    clear hSw
    go_simp
    try with_reducible rfl
  simp only [Act.put, List.setIfInBounds_toArray]
  try simp only [List.set_cons_zero, List.set_cons_succ]
  try simp only [List.getElem_toArray]
  repeat (first | simp only [List.getElem_cons_zero] | simp only [List.getElem_cons_succ])
  refine anyT_take (i := 13) 13 [] (v := ?_) rfl (by kernel_rfl) (by kernel_rfl) (by kernel_rfl) (by kernel_rfl) (fun _ _ _ h => h) S0.out (by rfl) ?_ ?_
  rotate_left
  · intro W9 hSw
    obtain ⟨c0, -, c2, -, -⟩ := hSw.cells
    have c9 := hSw.at_ hi
    rw [HBE.out] at c9
    simp only at c2
    clear hSw
    go_simp
    try with_reducible rfl
  simp only [Act.put, List.setIfInBounds_toArray]
  try simp only [List.set_cons_zero, List.set_cons_succ]
  try simp only [List.getElem_toArray]
  repeat (first | simp only [List.getElem_cons_zero] | simp only [List.getElem_cons_succ])
  refine anyT_take (i := 14) 14 [] (v := ?_) rfl (by kernel_rfl) (by kernel_rfl) (by kernel_rfl) (by kernel_rfl) (fun _ _ _ h => h) S0.out (by rfl) ?_ ?_
  rotate_left
  · intro W9 hSw
    obtain ⟨c0, -, c2, -, -⟩ := hSw.cells
    have c9 := hSw.at_ hi
    rw [HBE.out] at c9
    simp only at c2
    clear hSw
    go_simp
    try with_reducible rfl
  simp only [Act.put, List.setIfInBounds_toArray]
  try simp only [List.set_cons_zero, List.set_cons_succ]
  try simp only [List.getElem_toArray]
  repeat (first | simp only [List.getElem_cons_zero] | simp only [List.getElem_cons_succ])
  refine anyT_take (i := 15) 15 [] (v := ?_) rfl (by kernel_rfl) (by kernel_rfl) (by kernel_rfl) (by kernel_rfl) (fun _ _ _ h => h) S0.out (by rfl) ?_ ?_
  rotate_left
  · intro W9 hSw
    obtain ⟨c0, -, c2, -, -⟩ := hSw.cells
    have c9 := hSw.at_ hi
    rw [HBE.out] at c9
    simp only at c2
    clear hSw
    go_simp
    try with_reducible rfl
  simp only [Act.put, List.setIfInBounds_toArray]
  try simp only [List.set_cons_zero, List.set_cons_succ]
  try simp only [List.getElem_toArray]
  repeat (first | simp only [List.getElem_cons_zero] | simp only [List.getElem_cons_succ])
  refine anyT_take (i := 16) 16 [] (v := ?_) rfl (by kernel_rfl) (by kernel_rfl) (by kernel_rfl) (by kernel_rfl) (fun _ _ _ h => h) S0.out (by rfl) ?_ ?_
  rotate_left
  · intro W9 hSw
    obtain ⟨c0, -, c2, -, -⟩ := hSw.cells
    have c9 := hSw.at_ hi
    rw [HBE.out] at c9
    simp only at c2
    clear hSw
    go_simp
    try with_reducible rfl
  simp only [Act.put, List.setIfInBounds_toArray]
  try simp only [List.set_cons_zero, List.set_cons_succ]
  try simp only [List.getElem_toArray]
  repeat (first | simp only [List.getElem_cons_zero] | simp only [List.getElem_cons_succ])
  refine anyT_take (i := 17) 17 [] (v := ?_) rfl (by kernel_rfl) (by kernel_rfl) (by kernel_rfl) (by kernel_rfl) (fun _ _ _ h => h) S0.out (by rfl) ?_ ?_
  rotate_left
  · intro W9 hSw
    obtain ⟨c0, -, c2, -, -⟩ := hSw.cells
    have c9 := hSw.at_ hi
    rw [HBE.out] at c9
    simp only at c2
    clear hSw
    go_simp
    try with_reducible rfl
  simp only [Act.put, List.setIfInBounds_toArray]
  try simp only [List.set_cons_zero, List.set_cons_succ]
  try simp only [List.getElem_toArray]
  repeat (first | simp only [List.getElem_cons_zero] | simp only [List.getElem_cons_succ])
  refine anyT_take (i := 18) 18 [] (v := ?_) rfl (by kernel_rfl) (by kernel_rfl) (by kernel_rfl) (by kernel_rfl) (fun _ _ _ h => h) S0.out (by rfl) ?_ ?_
  rotate_left
  · intro W9 hSw
    obtain ⟨c0, -, c2, -, -⟩ := hSw.cells
    have c9 := hSw.at_ hi
    rw [HBE.out] at c9
    simp only at c2
    clear hSw
    go_simp
    try with_reducible rfl
  simp only [Act.put, List.setIfInBounds_toArray]
  try simp only [List.set_cons_zero, List.set_cons_succ]
  try simp only [List.getElem_toArray]
  repeat (first | simp only [List.getElem_cons_zero] | simp only [List.getElem_cons_succ])
  refine anyT_take (i := 19) 19 [] (v := ?_) rfl (by kernel_rfl) (by kernel_rfl) (by kernel_rfl) (by kernel_rfl) (fun _ _ _ h => h) S0.out (by rfl) ?_ ?_
  rotate_left
  · intro W9 hSw
    obtain ⟨c0, -, c2, -, -⟩ := hSw.cells
    have c9 := hSw.at_ hi
    rw [HBE.out] at c9
    simp only at c2
    clear hSw
    go_simp
    try with_reducible rfl
  simp only [Act.put, List.setIfInBounds_toArray]
  try simp only [List.set_cons_zero, List.set_cons_succ]
  try simp only [List.getElem_toArray]
  repeat (first | simp only [List.getElem_cons_zero] | simp only [List.getElem_cons_succ])
  refine anyT_take (i := 20) 20 [] (v := ?_) rfl (by kernel_rfl) (by kernel_rfl) (by kernel_rfl) (by kernel_rfl) (fun _ _ _ h => h) S0.out (by rfl) ?_ ?_
  rotate_left
  · intro W9 hSw
    obtain ⟨c0, -, c2, -, -⟩ := hSw.cells
    have c9 := hSw.at_ hi
    rw [HBE.out] at c9
    simp only at c2
    clear hSw
    go_simp
    try with_reducible rfl
  simp only [Act.put, List.setIfInBounds_toArray]
  try simp only [List.set_cons_zero, List.set_cons_succ]
  try simp only [List.getElem_toArray]
  repeat (first | simp only [List.getElem_cons_zero] | simp only [List.getElem_cons_succ])
  refine anyT_take (i := 21) 21 [] (v := ?_) rfl (by kernel_rfl) (by kernel_rfl) (by kernel_rfl) (by kernel_rfl) (fun _ _ _ h => h) S0.out (by rfl) ?_ ?_
  rotate_left
  · intro W9 hSw
    obtain ⟨c0, -, c2, -, -⟩ := hSw.cells
    have c9 := hSw.at_ hi
    rw [HBE.out] at c9
    simp only at c2
    clear hSw
    go_simp
    try with_reducible rfl
  simp only [Act.put, List.setIfInBounds_toArray]
  try simp only [List.set_cons_zero, List.set_cons_succ]
  try simp only [List.getElem_toArray]
  repeat (first | simp only [List.getElem_cons_zero] | simp only [List.getElem_cons_succ])
  refine anyT_take (i := 22) 22 [] (v := ?_) rfl (by kernel_rfl) (by kernel_rfl) (by kernel_rfl) (by kernel_rfl) (fun _ _ _ h => h) S0.out (by rfl) ?_ ?_
  rotate_left
  · intro W9 hSw
    obtain ⟨c0, -, c2, -, -⟩ := hSw.cells
    have c9 := hSw.at_ hi
    rw [HBE.out] at c9
    simp only at c2
    clear hSw
    go_simp
    try with_reducible rfl
  simp only [Act.put, List.setIfInBounds_toArray]
  try simp only [List.set_cons_zero, List.set_cons_succ]
  try simp only [List.getElem_toArray]
  repeat (first | simp only [List.getElem_cons_zero] | simp only [List.getElem_cons_succ])
  refine anyT_take (i := 23) 23 [] (v := ?_) rfl (by kernel_rfl) (by kernel_rfl) (by kernel_rfl) (by kernel_rfl) (fun _ _ _ h => h) S0.out (by rfl) ?_ ?_
  rotate_left
  · intro W9 hSw
    obtain ⟨c0, -, c2, -, -⟩ := hSw.cells
    have c9 := hSw.at_ hi
    rw [HBE.out] at c9
    simp only at c2
    clear hSw
    go_simp
    try with_reducible rfl
  simp only [Act.put, List.setIfInBounds_toArray]
  try simp only [List.set_cons_zero, List.set_cons_succ]
  try simp only [List.getElem_toArray]
  repeat (first | simp only [List.getElem_cons_zero] | simp only [List.getElem_cons_succ])
  refine anyT_one' (i := 24) (by kernel_rfl) rfl (by rfl) (fun K hK => ?_)
  have HK := Lib.hid hK
  clear hK
  unfold Oper.wp
  go_simp
  refine HK.out _ _ (fun _ => S0.out) ?_
  clear HK K
  refine anyT_one' (i := 25) (by kernel_rfl) rfl (by rfl) (fun K hK => ?_)
  have HK := Lib.hid hK
  clear hK
  have c9 := S0.out.at_ hi
  have fg2 := S0.out.freeg i
  have hlg2 := S0.out.ltg
  have S3 := Lib.hid (S0.out.put hi _ HOL.out)
  rw [HOP.out] at S3
  unfold Oper.wp
  go_simp
  refine HK.out _ _ (fun h => absurd rfl h) ?_
  clear HK K c9 fg2 hlg2
  refine anyT_done (by kernel_rfl) ?_ _
  have q2 := H.out.put hi _ HOL.out
  rw [HOP.out] at q2
  have q5 := q2.drew
  obtain ⟨-, d1, -, d3, -⟩ := q5.cells
  simp only at d1 d3
  have e1 := q5.free 1
  have e3 := q5.free 3
  have el := q5.lt
  obtain ⟨-, d1', -, d3', -⟩ := q2.cells
  simp only at d1' d3'
  have e1' := q2.free 1
  have e3' := q2.free 3
  have el' := q2.lt
  have HF := Lib.hid (((q2.set (r' := ⟨0, (p : Int), true, many⟩) 3 (.bool true) rfl H.out.pr).set (r' := ⟨-1, (p : Int), true, many⟩) 1 (.int .i64 (-1)) rfl H.out.pr).drew)
  have HK := Lib.hid (((((K2.refl rb g w).setCell ⟨g, i, none⟩ (.string (d.extract 0 p ++ S.extract p 32)) (.inr rfl)).setCell ⟨rb, 3, none⟩ (.bool true) (.inl rfl)).setCell ⟨rb, 1, none⟩ (.int .i64 (-1)) (.inl rfl)).drew)
  clear q2 q5 S3
  go_wp2_with fail
  go_ret
  exact ⟨rfl, HF.out, HK.out⟩
/-- What the document's write leaves. -/
def RwP (rb g c : Nat) (L : List Bk) (r : Rs) (i : Int) (d : ByteArray) (w : World) (e : Ending) (w' : World) : Prop :=
  e = .returned (.int .i64 (rwS L r i d).1) ∧ RB w' rb g c (rwS L r i d).2.1 (rwS L r i d).2.2 ∧ K2 rb g w w'
theorem rwrite_any (w : World) (rb g c : Nat) (L : List Bk) (r : Rs) (h : RB w rb g c L r) (i : Int) (d : ByteArray) (hw : -1 ≤ r.wt ∧ r.wt ≤ 9223372036854775807) (hm : 0 ≤ r.many ∧ r.many ≤ 1000000) :
    Calls Try.prog 30 #[pt rb, .int .i64 i, .string d] w fun e w' => RwP rb g c L r i d w e w' := by
  by_cases h0 : reachE L.length r.down i = 0
  · by_cases hs : d.size = 32
    · obtain ⟨hd, k, rfl, hk⟩ := reach_ok h0
      by_cases ht : r.wt = 0
      · have e : rwS L r (k : Int) d = (16, L.set k (onto L[k]! (d.extract 0 r.pr.toNat)), ⟨-1, r.pr, true, r.many⟩) := by
          unfold rwS; rw [if_neg (by simpa using h0), if_neg (by simpa using hs), if_pos ht]; rfl
        refine (rwrite_torn w rb g c L r h k hk d hs hd ht).mono fun e' w' h' => ?_
        unfold RwP; rw [e]; exact h'
      · have e : rwS L r (k : Int) d = (0, L.set k (onto L[k]! d), ⟨if 0 < r.wt then r.wt - 1 else r.wt, r.pr, r.down, r.many + 1⟩) := by
          unfold rwS; rw [if_neg (by simpa using h0), if_neg (by simpa using hs), if_neg ht]; rfl
        refine (rwrite_yes w rb g c L r h k hk d hs hd ht hw hm).mono fun e' w' h' => ?_
        unfold RwP; rw [e]; exact h'
    · have e : (rwS L r i d).2 = (L, r) := by unfold rwS; rw [if_neg (by simpa using h0), if_pos hs]
      refine (rwrite_no w rb g c L r h i d (.inr hs)).mono fun e' w' h' => ?_
      unfold RwP; rw [e, ← h'.2]
      exact ⟨h'.1, h, K2.refl _ _ _⟩
  · have e : (rwS L r i d).2 = (L, r) := by unfold rwS; rw [if_pos h0]
    refine (rwrite_no w rb g c L r h i d (.inl h0)).mono fun e' w' h' => ?_
    unfold RwP; rw [e, ← h'.2]
    exact ⟨h'.1, h, K2.refl _ _ _⟩
/-- The bytes so far. -/
structure BS (L : List Bk) (k : Nat) (x : ByteArray) : Prop where
  e : x = ⟨(L.take k).flatten.toArray⟩
theorem BS.next {L : List Bk} {k : Nat} {x : ByteArray} (h : BS L k x) (hk : k < L.length) : BS L (k + 1) (x ++ ⟨L[k]!.toArray⟩) := by
  constructor
  rw [h.e]
  apply ByteArray.ext
  apply Array.toList_inj.1
  rw [ba_append, take_next hk, List.flatten_append]
  simp
theorem BS.size {L : List Bk} {k : Nat} {x : ByteArray} (h : BS L k x) (hl : ∀ b ∈ L, b.length = 32) : x.size ≤ L.length * 32 := by
  have h1 := flatten_len (L := L.take k) (fun b hb => hl b (List.mem_of_mem_take hb))
  have h2 : x.size = ((L.take k).flatten).length := by rw [h.e]; exact List.size_toArray ..
  rw [h2, h1, List.length_take]
  omega
set_option maxHeartbeats 1000000 in
theorem rbytes_any (w : World) (rb g c : Nat) (L : List Bk) (r : Rs) (h : RB w rb g c L r) : Calls Try.prog 41 #[pt rb] w fun e w' => e = .returned (.string ⟨L.flatten.toArray⟩) ∧ w = w' := by
  obtain ⟨c0, -⟩ := h.cells
  have hl := h.lt
  have hfew := h.few.2
  have HLn := Lib.hid h.len
  have HA := Lib.hid (fun (k : Nat) (hk : k < L.length) => h.at_ hk)
  clear h
  have HB0 : Hid (BS L 0 ⟨#[]⟩) := Lib.hid ⟨by simp⟩
  go_enter Try.func41, Try.ntmps41
  go_wp2_with fail
  go_loop [3, 4] (fun v i => ∃ (k : Nat) (x : ByteArray), k ≤ L.length ∧ i = .int .i64 (k : Int) ∧ v = .string x ∧ Hid (BS L k x)) (fun _ i => L.length - (intOf i).toNat)
  case atStart => exact ⟨0, ⟨#[]⟩, Nat.zero_le _, rfl, rfl, HB0⟩
  case round =>
    obtain ⟨k, x, hk, rfl, rfl, HX⟩ := hrel
    have hxs := HX.out.size HLn.out
    by_cases hlt : k < L.length
    · have c9 := HA.out k hlt
      unfold stV at c9
      have HN := Lib.hid (HX.out.next hlt)
      have hys : (⟨L[k]!.toArray⟩ : ByteArray).size = 32 := by show L[k]!.toArray.size = 32; rw [List.size_toArray]; exact HLn.out _ (mem_at hlt)
      obtain ⟨y, hy⟩ : ∃ y : ByteArray, y = ⟨L[k]!.toArray⟩ := ⟨_, rfl⟩
      rw [← hy] at c9 HN hys
      clear hy
      go_wp2_with fail
      go_round
      case rel => exact ⟨k + 1, _, hlt, by go_num, rfl, HN⟩
      case measure => simp [intOf]; omega
    · obtain rfl : k = L.length := by omega
      have HE : Hid (x = ⟨L.flatten.toArray⟩) := Lib.hid (by have := HX.out.e; rw [List.take_length] at this; exact this)
      go_wp2_with fail
      go_ret
      exact ⟨by first | rfl | (rw [HE.out]; rfl), rfl⟩
end Go.Proofs.Ytcipgjelbnmdiaa.ST
