/-
  The document's New; how the two stores go on alike.
-/
import Derived.Test.YtcipgjelbnmdiaaSpA
import Derived.Laws.AppendOwn
namespace Go.Proofs.Ytcipgjelbnmdiaa.ST
open Go.RowKit Go.Shelf Go.Proofs.Ytcipgjelbnmdiaa.B
attribute [local go_sem] Oper.semAt_some

/-- What the document's New hands back. -/
def RNewP (n : Nat) (w : World) (e : Ending) (w' : World) : Prop := ∃ rb g c, e = .returned (.tuple #[pt rb, .int .i64 0]) ∧ RB w' rb g c (List.replicate n zbk) ⟨-1, 0, false, 0⟩ ∧ Below w.heap.size w w' ∧ w.heap.size ≤ rb ∧ w.heap.size ≤ g
theorem info_str : (Try.prog.info? 9).map (fun i => (i.zero, i.size, i.bytes)) = some (some (.string ⟨#[]⟩), 1, 16) := by kernel_rfl
theorem zer_next (k : Nat) : (⟨(List.replicate k (0 : UInt8)).toArray⟩ : ByteArray) ++ ⟨#[0]⟩ = ⟨(List.replicate (k + 1) (0 : UInt8)).toArray⟩ := by
  apply ByteArray.ext
  apply Array.toList_inj.1
  rw [ba_append]
  show List.replicate k (0 : UInt8) ++ [0] = List.replicate (k + 1) 0
  rw [List.replicate_succ']
theorem zer_size (k : Nat) : (⟨(List.replicate k (0 : UInt8)).toArray⟩ : ByteArray).size = k := by show (List.replicate k (0 : UInt8)).toArray.size = k; simp
/-- The list so far. -/
structure RN (w : World) (k : Nat) (wr : World) : Prop where
  b : Below w.heap.size w wr
  h : ∃ v, wr.heap[w.heap.size]? = some (.cells #[v, .int .i64 (-1), .int .i64 0, .bool false, .int .i64 0] 73 (0, 0)) ∧ wr.ownsRow w.heap.size 9 1 v k ((List.replicate k zbk).map stV)
theorem rnew_no (w : World) (n : Int) (h : n < 1 ∨ 256 < n) : Calls Try.prog 27 #[.int .i64 n] w fun e w' => e = .returned (.tuple #[.pointer none, .int .i64 1]) ∧ w = w' := by
  by_cases h1 : n < 1
  · go_enter Try.func27, Try.ntmps27
    go_wp2_with fail
    go_ret2
    exact ⟨rfl, rfl⟩
  · have h2 : n > 256 := by omega
    go_enter Try.func27, Try.ntmps27
    go_wp2_with fail
    go_ret2
    exact ⟨rfl, rfl⟩
set_option maxRecDepth 100000 in
set_option maxHeartbeats 2000000 in
theorem rnew_yes (w : World) (n : Nat) (h1 : 1 ≤ n) (h2 : n ≤ 256) : Calls Try.prog 27 #[.int .i64 (n : Int)] w fun e w' => RNewP n w e w' := by
  obtain ⟨i0, hi, hz0, hz1, hz2⟩ := info_parts info_str
  have HI := Lib.hid hi
  have HZ0 := Lib.hid hz0
  have HZ1 := Lib.hid hz1
  have HZ2 := Lib.hid hz2
  clear hi hz0 hz1 hz2
  have k1 : ¬ (n : Int) < 1 := by omega
  have k2 : ¬ (n : Int) > 256 := by omega
  have HN0 : Hid (RN w 0 (w.alloc (.cells #[.slice none 0 0, .int .i64 (-1), .int .i64 0, .bool false, .int .i64 0] 73))) := Lib.hid ⟨(Below.refl _ _).alloc (Nat.le_refl _) _, _, heap_alloc_last w _, World.ownsRow_nil _ _ _ _⟩
  go_enter Try.func27, Try.ntmps27
  go_wp2_with fail
  go_loop [4, 5] (fun v i => ∃ k : Nat, k ≤ 32 ∧ i = .int .i64 (k : Int) ∧ v = .string ⟨(List.replicate k (0 : UInt8)).toArray⟩) (fun _ i => 32 - (intOf i).toNat)
  case atStart => exact ⟨0, Nat.zero_le _, rfl, rfl⟩
  case round =>
    obtain ⟨k, hk, rfl, rfl⟩ := hrel
    by_cases hlt : k < 32
    · have hlt2 : (k : Int) < 32 := by omega
      have HN := Lib.hid (zer_next k)
      have hzs := zer_size k
      obtain ⟨x, hx⟩ : ∃ x : ByteArray, x = ⟨(List.replicate k (0 : UInt8)).toArray⟩ := ⟨_, rfl⟩
      rw [← hx] at HN hzs ⊢
      clear hx
      go_wp2_with fail
      go_round
      case rel => exact ⟨k + 1, hlt, by go_num, by rw [HN.out]⟩
      case measure => simp [intOf]; omega
    · have hlt2 : ¬ (k : Int) < 32 := by omega
      obtain rfl : k = 32 := by omega
      obtain ⟨Z0, hZ0⟩ : ∃ Z0 : ByteArray, Z0 = ⟨(List.replicate 32 (0 : UInt8)).toArray⟩ := ⟨_, rfl⟩
      rw [← hZ0]
      have HZV : Hid (Value.string Z0 = stV zbk) := Lib.hid (by rw [hZ0]; rfl)
      clear hZ0
      have h32 : ¬ ((32 : Nat) : Int) < 32 := by omega
      go_wp2_with fail
      go_loopw [7] (fun i wr => ∃ k : Nat, k ≤ n ∧ i = .int .i64 (k : Int) ∧ Hid (RN w k wr)) (fun i _ => n - (intOf i).toNat)
      case atStart => exact ⟨0, Nat.zero_le _, rfl, HN0⟩
      case round =>
        clear HN0
        obtain ⟨k, hk, rfl, HR⟩ := hrel
        obtain ⟨v, hbx, hown⟩ := HR.out.h
        by_cases hkn : k < n
        · have hkn2 : (k : Int) < (n : Int) := by omega
          obtain ⟨ao, cp, rfl⟩ := own_slice hown
          have c0 : wr.cell? ⟨w.heap.size, 0, none⟩ = some (.slice ao k cp) := cell_blk (i := 0) hbx rfl
          have hl := blk_lt hbx
          have HO := Lib.hid hown
          have HBX := Lib.hid hbx
          have HFA := Lib.hid (own_far hown hbx (by decide))
          clear hown hbx
          go_wp2_with (at_builtin; refine wpList_append_own _ rfl (.tmp 31) (.tmp 33) 71 rfl w.heap.size 9 i0 _ 1 16 Try.underlying71 HI.out HZ0.out HZ1.out HZ2.out rfl (by decide) _ _ _ rfl (HO.out.alloc _) ⟨wr.heap.size, 0, none⟩ 1 1 [.string Z0] rfl rfl ?c1 ?c2 ?c3 ?c4 ?c5 ?_)
          case c1 =>
            intro j u hj
            match j, hj with
            | 0, hj => simp at hj; subst hj; simp [Addr.add]
          case c2 => intro u hu; simp at hu; subst hu; rfl
          case c3 => unfold maxLen; omega
          case c4 => omega
          case c5 => have := HR.out.b.size; simp; omega
          intro v' w2 hown' hgrow _
          have hz : w.heap.size < (wr.alloc (.cells #[.string Z0] 9)).heap.size := by rw [World.size_alloc]; omega
          have hb2 : w2.heap[w.heap.size]? = some (.cells #[.slice ao k cp, .int .i64 (-1), .int .i64 0, .bool false, .int .i64 0] 73 (0, 0)) := (hgrow.block _ hz (fun e => HFA.out e.symm)).trans ((Below.heap_alloc wr _ _ hl).trans HBX.out)
          have d0 : w2.cell? ⟨w.heap.size, 0, none⟩ = some (.slice ao k cp) := cell_blk (i := 0) hb2 rfl
          have f0 : w2.frozen? ⟨w.heap.size, 0, none⟩ = false := frozen_blk hb2
          obtain ⟨ao2, cp2, rfl⟩ := own_slice hown'
          have HRN : Hid (RN w (k + 1) (w2.setCell ⟨w.heap.size, 0, none⟩ (.slice ao2 (k + 1) cp2))) := Lib.hid (by
            have hba : Below w.heap.size w (wr.alloc (.cells #[.string Z0] 9)) := HR.out.b.alloc HR.out.b.size _
            refine ⟨(hba.grown hgrow hba.size (fun q hq => (HO.out.lt q hq).1)).setCell (p := ⟨w.heap.size, 0, none⟩) (Nat.le_refl _) _, _, blk_set (i := 0) hb2, ?_⟩
            have h9 := own_set hown' (own_far hown' hb2 (by decide)) (b := w.heap.size) (i := 0) (.slice ao2 (k + 1) cp2)
            rw [List.replicate_succ', List.map_append, List.map_cons, List.map_nil, ← HZV.out]
            first | exact h9 | (rw [List.map_replicate]; exact h9))
          clear hb2 hown' hgrow hz HBX HO HFA c0
          go_wp2_with fail
          go_roundw
          case rel => exact ⟨k + 1, hkn, by go_num, HRN⟩
          case measure => simp [intOf]; omega
        · have hkn2 : ¬ (k : Int) < (n : Int) := by omega
          obtain rfl : k = n := by omega
          have HBX := Lib.hid hbx
          have HO := Lib.hid hown
          clear hbx hown
          go_wp2_with fail
          go_ret2
          rcases HO.out.2 with ⟨_, h0⟩ | ⟨g, cap, cur, rfl, hg, hh, _, _, _, ht⟩
          · omega
          · refine ⟨w.heap.size, g, cap, rfl, { box := by rw [List.length_replicate]; exact HBX.out, row := ⟨cur.toList.drop (k * 1), ?_⟩, len := fun b hb => by rw [List.eq_of_mem_replicate hb]; rfl, few := by rw [List.length_replicate]; exact ⟨h1, h2⟩, pr := ⟨Int.le_refl _, show (0 : Int) ≤ 32 by decide⟩ }, HR.out.b, Nat.le_refl _, hg⟩
            rw [← ht, List.take_append_drop]
            exact hh
/-- The two go on alike. -/
structure Rel (f : Fs) (r : Rs) : Prop where
  down : f.down = r.down
  many : f.wr = r.many
  fuse : f.down = false → (f.f.is = false ∧ r.wt = -1) ∨ (f.f.is = true ∧ r.wt = f.f.wh ∧ r.pr = f.f.pr)
  wt : -1 ≤ r.wt ∧ r.wt ≤ 9223372036854775807
theorem Rel.start : Rel ⟨⟨false, 0, 0⟩, false, 0⟩ ⟨-1, 0, false, 0⟩ := ⟨rfl, rfl, fun _ => .inl ⟨rfl, rfl⟩, ⟨show (-1 : Int) ≤ -1 by decide, show (-1 : Int) ≤ 9223372036854775807 by decide⟩⟩
theorem Rel.up {f : Fs} {r : Rs} (h : Rel f r) : Rel ⟨⟨false, 0, 0⟩, false, f.wr⟩ ⟨-1, r.pr, false, r.many⟩ := ⟨rfl, h.many, fun _ => .inl ⟨rfl, rfl⟩, ⟨show (-1 : Int) ≤ -1 by decide, show (-1 : Int) ≤ 9223372036854775807 by decide⟩⟩
theorem Rel.fuse' {f : Fs} {r : Rs} (h : Rel f r) (n p : Int) (hn : n ≤ 9223372036854775807) : Rel ⟨mkF n p, f.down, f.wr⟩ ⟨max n (-1), max p 0 % 33, r.down, r.many⟩ := by
  refine ⟨h.down, h.many, fun _ => ?_, ?_⟩
  · unfold mkF
    by_cases h0 : n < 0
    · rw [if_pos h0]; exact .inl ⟨rfl, by show max n (-1) = -1; omega⟩
    · rw [if_neg h0]; exact .inr ⟨rfl, by show max n (-1) = n; omega, rfl⟩
  · show -1 ≤ max n (-1) ∧ max n (-1) ≤ _; omega
theorem Rel.write {f : Fs} {r : Rs} (h : Rel f r) (hwh : 0 ≤ f.f.wh) (L : List Bk) (i : Int) (d : ByteArray) : (wrS L f i d).1 = (rwS L r i d).1 ∧ (wrS L f i d).2.1 = (rwS L r i d).2.1 ∧ Rel (wrS L f i d).2.2 (rwS L r i d).2.2 := by
  unfold wrS rwS
  rw [← h.down]
  by_cases h0 : reachE L.length f.down i = 0
  · have A0 : ¬ (reachE L.length f.down i ≠ 0) := fun e => e h0
    rw [if_neg A0, if_neg A0]
    by_cases h1 : d.size = 32
    · have A1 : ¬ (d.size ≠ 32) := fun e => e h1
      rw [if_neg A1, if_neg A1]
      have hd := (reach_ok h0).1
      rcases h.fuse hd with ⟨e1, e2⟩ | ⟨e1, e2, e3⟩
      · rw [if_neg (show ¬ (tearB f.f = true) by unfold tearB; rw [e1]; simp), if_neg (show ¬ (r.wt = 0) by rw [e2]; decide)]
        refine ⟨rfl, rfl, ⟨rfl, by show f.wr + 1 = r.many + 1; rw [h.many], fun _ => .inl ⟨?_, ?_⟩, ?_⟩⟩
        · unfold tickF; rw [e1]; simp [e1]
        · show (if 0 < r.wt then r.wt - 1 else r.wt) = -1; rw [e2]; decide
        · show -1 ≤ (if 0 < r.wt then r.wt - 1 else r.wt) ∧ _; rw [e2, if_neg (by decide)]; exact ⟨show (-1 : Int) ≤ -1 by decide, show (-1 : Int) ≤ 9223372036854775807 by decide⟩
      · by_cases h2 : f.f.wh = 0
        · rw [if_pos (show tearB f.f = true by unfold tearB; rw [e1, h2]; rfl), if_pos (show r.wt = 0 by rw [e2]; exact h2), e3]
          exact ⟨rfl, rfl, ⟨rfl, h.many, fun e => (by cases e), ⟨show (-1 : Int) ≤ -1 by decide, show (-1 : Int) ≤ 9223372036854775807 by decide⟩⟩⟩
        · rw [if_neg (show ¬ (tearB f.f = true) by unfold tearB; rw [e1]; simpa using h2), if_neg (show ¬ (r.wt = 0) by rw [e2]; exact h2)]
          have ht : tickF f.f = ⟨f.f.is, f.f.wh - 1, f.f.pr⟩ := by unfold tickF; rw [if_pos e1, if_neg h2]
          rw [ht]
          have hw := h.wt
          refine ⟨rfl, rfl, ⟨rfl, by show f.wr + 1 = r.many + 1; rw [h.many], fun _ => .inr ⟨e1, ?_, e3⟩, ?_⟩⟩
          · show (if 0 < r.wt then r.wt - 1 else r.wt) = f.f.wh - 1; rw [if_pos (by omega), e2]
          · show -1 ≤ (if 0 < r.wt then r.wt - 1 else r.wt) ∧ (if 0 < r.wt then r.wt - 1 else r.wt) ≤ _; rw [if_pos (by omega)]; omega
    · rw [if_pos (show d.size ≠ 32 from h1), if_pos (show d.size ≠ 32 from h1)]; exact ⟨rfl, rfl, h⟩
  · rw [if_pos (show reachE L.length f.down i ≠ 0 from h0), if_pos (show reachE L.length f.down i ≠ 0 from h0)]; exact ⟨rfl, rfl, h⟩
end Go.Proofs.Ytcipgjelbnmdiaa.ST
