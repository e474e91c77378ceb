/-
  log.Scan, Join; the document's Same.
-/
import Derived.Test.YthbleofighjjgaaLgB
import Derived.Test.YthbleofighjjgaaBle
namespace Go.Proofs.Ythbleofighjjgaa.LG
open Go.RowKit Go.Shelf Go.Proofs.Ythbleofighjjgaa.B
attribute [local go_sem] Oper.semAt_some

theorem info_str : (Try.prog.info? 9).map (fun i => (i.zero, i.size, i.bytes)) = some (some (.string ⟨#[]⟩), 1, 16) := by kernel_rfl
/-- What Scan answers. -/
def ScanE (s : ByteArray) (w : World) (e : Ending) (w' : World) : Prop :=
  Below w.heap.size w w' ∧ ∃ (v : Value) (l : List ByteArray), e = .returned (.tuple #[v, .int .i64 ((cat (l.map by')).length : Nat)]) ∧ w'.ownsRow w.heap.size 9 1 v l.length (l.map Value.string) ∧ ScanP (by' s) (l.map by')
/-- What has been read so far. -/
structure SC (s : ByteArray) (l : List ByteArray) (n : Nat) : Prop where
  ok : ∀ r ∈ l, Ok (by' r)
  e : by' s = cat (l.map by') ++ (by' s).drop n
  n : n = (cat (l.map by')).length
theorem SC.scan {s : ByteArray} {l : List ByteArray} {n : Nat} (h : SC s l n) (hn : NoF ((by' s).drop n)) : ScanP (by' s) (l.map by') :=
  ⟨fun r hr => by obtain ⟨x, hx, rfl⟩ := List.mem_map.1 hr; exact h.ok x hx, _, h.e, hn⟩
theorem cat_snoc (l : List Bs) (r : Bs) : cat (l ++ [r]) = cat l ++ frL r := by unfold cat; rw [List.flatMap_append]; simp
theorem SC.more {s : ByteArray} {l : List ByteArray} {n : Nat} (h : SC s l n) {v : ByteArray} (hv : Ok (by' v)) {u : Bs} (hu : (by' s).drop n = frL (by' v) ++ u) : SC s (l ++ [v]) (n + (v.size + 8)) := by
  have hd : (by' s).drop (n + (v.size + 8)) = u := by
    rw [← List.drop_drop, hu, ← by_len, ← fr_len, List.drop_left]
  refine ⟨fun r hr => ?_, ?_, ?_⟩
  · rcases List.mem_append.1 hr with h1 | h1
    · exact h.ok r h1
    · rw [List.mem_singleton] at h1; rw [h1]; exact hv
  · rw [hd, List.map_append, List.map_cons, List.map_nil, cat_snoc, List.append_assoc, ← hu]; exact h.e
  · rw [List.map_append, List.map_cons, List.map_nil, cat_snoc, List.length_append, ← h.n, fr_len, by_len]
theorem SC.le {s : ByteArray} {l : List ByteArray} {n : Nat} (h : SC s l n) : n ≤ s.size := by
  have := congrArg List.length h.e
  rw [List.length_append, ← h.n, by_len] at this
  omega
theorem cat_ge : ∀ (l : List Bs), l.length ≤ (cat l).length
  | [] => Nat.zero_le _
  | r :: l => by
    show l.length + 1 ≤ (frL r ++ cat l).length
    have := cat_ge l
    rw [List.length_append, fr_len]; omega
theorem SC.few {s : ByteArray} {l : List ByteArray} {n : Nat} (h : SC s l n) : l.length ≤ n := by
  have := cat_ge (l.map by')
  rw [List.length_map, ← h.n] at this; exact this
set_option maxHeartbeats 4000000 in
set_option maxRecDepth 100000 in
theorem scan_any (w : World) (s : ByteArray) (hs : s.size ≤ 1000000) : Calls Try.prog 10 #[.string s] w (ScanE s w) := by
  obtain ⟨i0, hi0, hi1, hi2, hi3⟩ := info_parts info_str
  go_enter Try.func10, Try.ntmps10
  go_wp2_with fail
  go_loopw [4, 5] (fun v i wr => ∃ (l : List ByteArray) (n : Nat), i = .int .i64 (n : Int) ∧ Hid (SC s l n) ∧ Hid (wr.ownsRow w.heap.size 9 1 v l.length (l.map Value.string)) ∧ Hid (Below w.heap.size w wr)) (fun _ i _ => s.size - (intOf i).toNat)
  case atStart => exact ⟨[], 0, rfl, Lib.hid ⟨by simp, rfl, rfl⟩, Lib.hid (World.ownsRow_nil _ _ _ _), Lib.hid (Below.refl _ _)⟩
  case round =>
    obtain ⟨l, n, rfl, HS, HO, HB⟩ := hrel
    have hn := HS.out.le
    obtain ⟨x, hx⟩ : ∃ x, x = s.extract n s.size := ⟨_, rfl⟩
    have hxb : by' x = (by' s).drop n := by rw [hx, by_cut, List.take_of_length_le]; rw [List.length_drop, by_len]; exact Nat.le_refl _
    have hxz : x.size ≤ 1000000 := by rw [← by_len, hxb, List.length_drop, by_len]; omega
    have CF := fun W => Lib.hid (first_any W x hxz)
    obtain ⟨va, vc, rfl⟩ := own_slice HO.out
    have HXB := Lib.hid hxb
    have hle : (n : Int) ≤ (s.size : Int) := by omega
    clear hxb hn
    go_wp2_with fail
    rw [← hx]
    refine (CF _).out.mono ?_
    rintro e w2 ⟨hb2, v, ok, rfl, ht, hf⟩
    have HB2 := Lib.hid hb2
    have HO2 := Lib.hid (own_below HO.out hb2)
    clear hb2 hx
    cases ok with
    | false =>
      have HE := Lib.hid (HS.out.scan (by rw [← HXB.out]; exact hf rfl))
      have HN := Lib.hid HS.out.n
      clear ht hf
      go_wp2_with fail
      go_ret2
      exact ⟨HB.out.trans (HB2.out.mono HB.out.size), _, l, by rw [← HN.out]; rfl, HO2.out, HE.out⟩
    | true =>
      obtain ⟨hv, u, hu⟩ := ht rfl
      have HM := Lib.hid (HS.out.more hv (HXB.out ▸ hu))
      have hm := HM.out.le
      have hfew := HS.out.few
      clear hf ht hu
      have HBX : Hid (Below w.heap.size w w2) := Lib.hid (HB.out.trans (HB2.out.mono HB.out.size))
      go_wp2_with (at_builtin; refine wpList_append_own _ rfl (.tmp 19) (.tmp 21) 26 rfl w.heap.size 9 i0 _ 1 16 Try.underlying26 hi0 hi1 hi2 hi3 rfl (by omega) _ _ _ rfl (HO2.out.alloc _) ⟨w2.heap.size, 0, none⟩ 1 1 [.string v] rfl rfl ?c1 ?c2 ?c3 ?c4 ?c5 ?_)
      case c1 =>
        intro j u hj
        match j, hj with
        | 0, hj => simp at hj; subst hj; simp [Addr.add]
      case c2 => intro u hu; simp at hu; subst hu; rfl
      case c3 => unfold maxLen; omega
      case c4 => omega
      case c5 => rw [World.size_alloc]; have := HBX.out.size; omega
      intro v' w4 hown' hgrow _
      have HB4 : Hid (Below w.heap.size w w4) := Lib.hid ((HBX.out.alloc HBX.out.size _).grown hgrow (by rw [World.size_alloc]; have := HBX.out.size; omega) (fun j hj => (HO2.out.lt j hj).1))
      have HV4 : Hid (w4.ownsRow w.heap.size 9 1 v' (l ++ [v]).length ((l ++ [v]).map Value.string)) := Lib.hid (by
        rw [List.map_append, List.length_append]; exact hown')
      clear hown' hgrow
      have hvz : 1 ≤ v.size ∧ v.size ≤ 400 := (ok_size v).1 hv
      go_wp2_with fail
      go_roundw
      case rel => exact ⟨l ++ [v], n + (v.size + 8), by go_num, HM, HV4, HB4⟩
      case measure => simp [intOf]; omega
/-- What Join tells. -/
def joE (l : List ByteArray) : ByteArray × Int := if ∀ r ∈ l, 1 ≤ r.size ∧ r.size ≤ 400 then (⟨(cat (l.map by')).toArray⟩, 0) else (⟨#[]⟩, 3)
theorem bld_below {B b : Nat} {bs : List Value} {w w1 : World} (h : Lib.IsBuilderF 49 5 B b bs w) (hb : Below w.heap.size w w1) : Lib.IsBuilderF 49 5 B b bs w1 := by
  have one : ∀ {p : Value}, Lib.BuilderAtF 49 5 B b p bs w → Lib.BuilderAtF 49 5 B b p bs w1 := by
    rintro p ⟨hB, v, h1, hown, hne⟩
    exact ⟨hB, v, (hb.block _ (blk_lt h1)).trans h1, hown.kept (row := none) ⟨hb.os, hb.tape, hb.output, hb.size, fun k hk _ => hb.block k hk⟩ (by cases v.ownBlock <;> simp), hne⟩
  exact h.elim (fun x => .inl (one x)) (fun x => .inr (one x))
theorem cells_by (s : ByteArray) : Lib.strCells s = Lib.byteCells (by' s) := rfl
theorem row_at {w : World} {A : Option Addr} {l : List ByteArray} (h : Row w A (l.flatMap stC)) {k : Nat} (hk : k < l.length) : ∃ b off, A = some ⟨b, off, none⟩ ∧ b < w.heap.size ∧ w.cell? ⟨b, off + k, none⟩ = some (.string l[k]!) := by
  obtain ⟨b, off, h1, h2, h3⟩ := h.at_ (k := 1) (fun _ => rfl) (by omega) hk
  refine ⟨b, off, h1, h2, ?_⟩
  have := h3 0 _ rfl
  rw [Nat.mul_one, Nat.add_zero] at this; exact this
theorem map_st (l : List ByteArray) : l.map Value.string = l.flatMap stC := by
  induction l with
  | nil => rfl
  | cons a r ih => rw [List.map_cons, List.flatMap_cons, ih]; rfl
theorem cat_small (l : List ByteArray) (h : ∀ r ∈ l, 1 ≤ r.size ∧ r.size ≤ 400) : (cat (l.map by')).length ≤ l.length * 408 := by
  induction l with
  | nil => exact Nat.le_refl _
  | cons r l ih =>
    show (frL (by' r) ++ cat (l.map by')).length ≤ _
    have h1 := h r (by simp)
    have h2 := ih (fun x hx => h x (by simp [hx]))
    rw [List.length_append, fr_len, by_len, List.length_cons]; omega
set_option maxHeartbeats 4000000 in
set_option maxRecDepth 100000 in
theorem join_any (w : World) (A : Option Addr) (c : Nat) (l : List ByteArray) (hr : Row w A (l.flatMap stC)) (hl : ∀ r ∈ l, r.size ≤ 1000000) (hn : l.length ≤ 100000) :
    Calls Try.prog 15 #[.slice A l.length c] w fun e w' => e = .returned (.tuple #[.string (joE l).1, .int .i64 (joE l).2]) ∧ Below w.heap.size w w' := by
  have HR := Lib.hid hr
  have HL := Lib.hid hl
  clear hr hl
  obtain ⟨g, hg⟩ : ∃ g, g = w.heap.size := ⟨_, rfl⟩
  have HB0 : Hid (Below g w (w.alloc (.cells #[.pointer none, .slice none 0 0] 49))) := Lib.hid (by rw [hg]; exact (Below.refl _ _).alloc (Nat.le_refl _) _)
  have HT0 : Hid (Lib.IsBuilderF 49 5 g g (Lib.byteCells []) (w.alloc (.cells #[.pointer none, .slice none 0 0] 49))) := Lib.hid (.inl ⟨Nat.le_refl _, _, by rw [hg]; exact heap_new _ _, World.ownsRowF_nil _ _ _ _, by intro h; cases h⟩)
  have hgz : g ≤ w.heap.size := by omega
  have HG := Lib.hid hg
  go_enter Try.func15, Try.ntmps15
  go_wp2_with fail
  rw [← hg]
  clear hg
  go_loopw [11] (fun i wr => ∃ k : Nat, k ≤ l.length ∧ i = .int .i64 (k : Int) ∧ Hid (∀ r ∈ l.take k, 1 ≤ r.size ∧ r.size ≤ 400) ∧ Hid (Lib.IsBuilderF 49 5 g g (Lib.byteCells (cat ((l.take k).map by'))) wr) ∧ Hid (Below g w wr)) (fun i _ => l.length - (intOf i).toNat)
  case atStart => exact ⟨0, Nat.zero_le _, rfl, Lib.hid (by simp), HT0, HB0⟩
  case round =>
    obtain ⟨k, hk, rfl, HK, HT, HB⟩ := hrel
    have hbz := HB.out.size
    by_cases hlt : k < l.length
    · obtain ⟨b, off, rfl, hb, hc⟩ := row_at HR.out hlt
      have hc1 := (HB.out.cell (p := ⟨b, off + k, none⟩) (by rw [HG.out]; exact hb)).trans hc
      have hk0 : (0 : Int) ≤ (k : Int) := Int.natCast_nonneg _
      have hk1 : (k : Int) < (l.length : Int) := by omega
      have HMEM : Hid (l[k]! ∈ l) := Lib.hid (mem_at hlt)
      have HNX : Hid (l.take (k + 1) = l.take k ++ [l[k]!]) := Lib.hid (take_next hlt)
      clear hc
      obtain ⟨x, hx⟩ : ∃ x, x = l[k]! := ⟨_, rfl⟩
      rw [← hx] at HMEM HNX hc1
      clear hx
      have CF := fun W => Lib.hid (frame_any W x (HL.out x HMEM.out))
      by_cases hxo : 1 ≤ x.size ∧ x.size ≤ 400
      · have HE : Hid (frE x = (frA x, 0)) := Lib.hid (if_pos hxo)
        rw [HE.out] at CF
        go_wp2_with fail
        refine (CF _).out.mono ?_
        rintro e w2 ⟨rfl, hb2⟩
        have HT2 := Lib.hid (bld_below HT.out hb2)
        have HB2 : Hid (Below g w w2) := Lib.hid (HB.out.trans (hb2.mono (by omega)))
        have hbz2 := HB2.out.size
        clear hb2 CF
        have HLB : (Lib.byteCells (cat ((l.take k).map by'))).length + (frA x).size ≤ 140737488355328 := by
          have h1 := cat_small _ HK.out
          rw [Lib.byteCells_length, fr_size]
          rw [List.length_take] at h1
          omega
        have CB := Lib.hid (bld_string g g _ (frA x) w2 HT2.out HLB (by omega))
        clear HLB
        go_wp2_with fail
        refine CB.out.mono ?_
        rintro e w3 ⟨rfl, ht3, hb3, -⟩
        have HT3 : Hid (Lib.IsBuilderF 49 5 g g (Lib.byteCells (cat ((l.take (k + 1)).map by'))) w3) := Lib.hid (.inr (by
          rw [HNX.out, List.map_append, List.map_cons, List.map_nil, cat_snoc]
          rw [cells_by, by_fr] at ht3
          unfold Lib.byteCells at ht3 ⊢
          rw [List.map_append]; exact ht3))
        have HB3 := Lib.hid (HB2.out.trans hb3)
        clear ht3 hb3 CB
        go_wp2_with fail
        go_roundw
        case rel => exact ⟨k + 1, hlt, by go_num, Lib.hid (by
          rw [HNX.out]
          intro r hr
          rcases List.mem_append.1 hr with h1 | h1
          · exact HK.out r h1
          · rw [List.mem_singleton] at h1; rw [h1]; exact hxo), HT3, HB3⟩
        case measure => simp [intOf]; omega
      · have HE : Hid (frE x = (⟨#[]⟩, 3)) := Lib.hid (if_neg hxo)
        have HJ : Hid (joE l = (⟨#[]⟩, 3)) := Lib.hid (if_neg (fun h => hxo (h x HMEM.out)))
        rw [HE.out] at CF
        go_wp2_with fail
        refine (CF _).out.mono ?_
        rintro e w2 ⟨rfl, hb2⟩
        have HB2 : Hid (Below g w w2) := Lib.hid (HB.out.trans (hb2.mono (by omega)))
        clear hb2 CF
        go_wp2_with fail
        go_ret2
        rw [HJ.out]
        exact ⟨rfl, by rw [← HG.out]; exact HB2.out⟩
    · obtain rfl : k = l.length := by omega
      rw [List.take_length] at HK HT
      have HJ : Hid (joE l = (⟨(cat (l.map by')).toArray⟩, 0)) := Lib.hid (if_pos HK.out)
      have CT := Lib.hid (bld_told g g _ wr HT.out (by omega))
      go_wp2_with fail
      refine CT.out.mono ?_
      rintro e w3 ⟨rfl, -, hb3, -⟩
      have HB3 := Lib.hid (HB.out.trans hb3)
      clear hb3 CT
      go_wp2_with fail
      go_ret2
      rw [HJ.out]
      exact ⟨rfl, by rw [← HG.out]; exact HB3.out⟩
end Go.Proofs.Ythbleofighjjgaa.LG
