/-
  log.head, fits, Frame, first.
-/
import Derived.Test.YthbleofighjjgaaLgA
import Derived.Laws.IdiomStrings
namespace Go.Proofs.Ythbleofighjjgaa.LG
open Go.RowKit Go.Shelf Go.Proofs.Ythbleofighjjgaa.B
attribute [local go_sem] Oper.semAt_some

theorem str_eq {x y : ByteArray} : (x.toList == y.toList) = true ↔ x = y := by
  rw [beq_iff_eq, ByteArray.toList_eq, ByteArray.toList_eq]
  exact ⟨fun h => ByteArray.ext (Array.toList_inj.mp h), fun h => by rw [h]⟩
theorem str_ne {x y : ByteArray} (h : ¬ x = y) : (x.toList == y.toList) = false := by
  rw [← Bool.not_eq_true, str_eq]; exact h
/-- A string of bytes of one's own. -/
theorem run_conv {P : Program} {w : World} (src dst e : TypeId) (hs : P.underlying src = some (.slice e)) (he : P.underlying e = some (.int .u8)) (hd : P.underlying dst = some .string) (g n c : Nat) {cs : Array Value} {t : TypeId} (hg : w.heap[g]? = some (.cells cs t (0, 0)))
    (l : Bs) (hn : l.length = n) (hc : cs.toList = Lib.byteCells l) : (convert src dst (.slice (some ⟨g, 0, none⟩) n c)).run P w = .ok (.string ⟨l.toArray⟩) w := by
  subst hn
  exact run_convert_bytes_back w src dst e ⟨g, 0, none⟩ c l hs he hd (fun j hj => by
    rw [Addr.add_lit, Nat.zero_add]
    refine cell_blk hg ?_
    rw [← Array.getElem?_toList, hc]
    unfold Lib.byteCells
    rw [List.getElem?_map, List.getElem?_eq_getElem hj]; rfl)
/-- The head of a frame, and a frame. -/
def hdA (s : ByteArray) : ByteArray := ⟨(headL (by' s)).toArray⟩
def frA (s : ByteArray) : ByteArray := ⟨(frL (by' s)).toArray⟩
theorem by_hd (s : ByteArray) : by' (hdA s) = headL (by' s) := rfl
theorem by_fr (s : ByteArray) : by' (frA s) = frL (by' s) := rfl
theorem hd_size (s : ByteArray) : (hdA s).size = 7 := rfl
theorem fr_size (s : ByteArray) : (frA s).size = s.size + 8 := by rw [← by_len, by_fr, fr_len, by_len]
theorem fr_sum (s : ByteArray) : hdA s ++ s ++ ⟨#[1]⟩ = frA s := by
  apply by_inj
  rw [by_append, by_append, by_hd, by_fr]; rfl
theorem u8_wrap (n : Nat) : IntKind.u8.wrap (n : Int) = ((UInt8.ofNat n).toNat : Int) := by
  rw [UInt8.toNat_ofNat']; simp [IntKind.wrap, IntKind.bits, IntKind.signed]
theorem u8_div (n k : Nat) : IntKind.u8.wrap ((n : Int) / (k : Int)) = ((UInt8.ofNat (n / k)).toNat : Int) := by
  rw [← u8_wrap, Int.natCast_ediv]
set_option maxHeartbeats 1000000 in
theorem head_any (w : World) (s : ByteArray) (hs : s.size ≤ 1000000) : Calls Try.prog 17 #[.string s] w fun e w' => e = .returned (.string (hdA s)) ∧ Below w.heap.size w w' := by
  have CS := Lib.hid (sum_any w s hs)
  obtain ⟨K, hK⟩ : ∃ K : Nat, K = crc (by' s) := ⟨_, rfl⟩
  have HK : Hid (headL (by' s) = [1, UInt8.ofNat (s.size / 256), UInt8.ofNat s.size, UInt8.ofNat (K / 16777216), UInt8.ofNat (K / 65536), UInt8.ofNat (K / 256), UInt8.ofNat K]) := Lib.hid (by rw [hK]; unfold headL; rw [by_len])
  have hk : K < 4294967296 := by rw [hK]; exact crc_lt _
  rw [← hK] at CS
  clear hK
  go_enter Try.func17, Try.ntmps17
  go_wp2_with fail
  refine CS.out.mono ?_
  rintro e w1 ⟨rfl, hb⟩
  have HB := Lib.hid hb
  clear hb CS
  go_wp2_with fail
  rw [run_conv 34 9 5 Try.underlying34 Try.underlying5 Try.underlying9 w1.heap.size 7 7 (heap_new _ _) (headL (by' s)) rfl ?hc]
  case hc =>
    rw [HK.out]
    simp only [Lib.byteCells, List.map_cons, List.map_nil, UInt8.toNat_ofNat', Nat.reducePow]
    simp only [List.cons.injEq, Value.int.injEq, true_and, and_true]
    refine ⟨rfl, ?_, ?_, ?_, ?_, ?_, ?_⟩ <;> omega
  go_wp2_with fail
  go_ret
  exact ⟨rfl, HB.out.alloc HB.out.size _⟩
theorem fits_any (w : World) (n : Int) : Calls Try.prog 16 #[.int .i64 n] w fun e w' => e = .returned (.bool (decide (1 ≤ n ∧ n ≤ 400))) ∧ w' = w := by
  by_cases h1 : 1 ≤ n
  · by_cases h2 : n ≤ 400
    · have e : decide (1 ≤ n ∧ n ≤ 400) = true := decide_eq_true ⟨h1, h2⟩
      rw [e]
      go_enter Try.func16, Try.ntmps16
      go_wp2_with fail
      go_ret
      exact ⟨rfl, rfl⟩
    · have e : decide (1 ≤ n ∧ n ≤ 400) = false := decide_eq_false (fun h => h2 h.2)
      rw [e]
      go_enter Try.func16, Try.ntmps16
      go_wp2_with fail
      go_ret
      exact ⟨rfl, rfl⟩
  · have e : decide (1 ≤ n ∧ n ≤ 400) = false := decide_eq_false (fun h => h1 h.1)
    rw [e]
    go_enter Try.func16, Try.ntmps16
    go_wp2_with fail
    go_ret
    exact ⟨rfl, rfl⟩
/-- What Frame tells. -/
def frE (s : ByteArray) : ByteArray × Int := if 1 ≤ s.size ∧ s.size ≤ 400 then (frA s, 0) else (⟨#[]⟩, 3)
theorem ok_size (s : ByteArray) : Ok (by' s) ↔ 1 ≤ s.size ∧ s.size ≤ 400 := by unfold Ok; rw [by_len]
set_option maxHeartbeats 4000000 in
set_option maxRecDepth 100000 in
theorem frame_any (w : World) (s : ByteArray) (hs : s.size ≤ 1000000) : Calls Try.prog 8 #[.string s] w fun e w' => e = .returned (.tuple #[.string (frE s).1, .int .i64 (frE s).2]) ∧ Below w.heap.size w w' := by
  have CF := Lib.hid (fits_any w s.size)
  by_cases hok : 1 ≤ s.size ∧ s.size ≤ 400
  · have HE : Hid (frE s = (frA s, 0)) := Lib.hid (if_pos hok)
    have e1 : decide (1 ≤ (s.size : Int) ∧ (s.size : Int) ≤ 400) = true := decide_eq_true (by omega)
    have hz1 := hd_size s
    have HFS := Lib.hid (fr_sum s)
    have CH := fun W => Lib.hid (head_any W s hs)
    rw [e1] at CF
    clear e1
    have hlt := hok.2
    clear hok
    go_enter Try.func8, Try.ntmps8
    go_wp2_with fail
    refine CF.out.mono ?_
    rintro e w1 ⟨rfl, rfl⟩
    go_wp2_with fail
    refine wp_region_any (by kernel_rfl) ?_
    --«frame»
    refine wpAny_take (i := 0) (v := .string s) rfl (by kernel_rfl) (by kernel_rfl) (by kernel_rfl) (fun _ _ _ h => h) (Or.inl ⟨by rfl, fun W9 => by go_simp; try with_reducible rfl⟩) ?_
    try simp only [Act.put, List.setIfInBounds_toArray]
    try simp only [List.set_cons_zero, List.set_cons_succ]
    try simp only [List.getElem_toArray]
    repeat (first | simp only [List.getElem_cons_zero] | simp only [List.getElem_cons_succ])
    try simp only [List.set_cons_zero, List.set_cons_succ]
    refine wpAny_take (i := 2) (v := .string s) rfl (by kernel_rfl) (by kernel_rfl) (by kernel_rfl) (fun _ _ _ h => h) (Or.inl ⟨by rfl, fun W9 => by go_simp; try with_reducible rfl⟩) ?_
    try simp only [Act.put, List.setIfInBounds_toArray]
    try simp only [List.set_cons_zero, List.set_cons_succ]
    try simp only [List.getElem_toArray]
    repeat (first | simp only [List.getElem_cons_zero] | simp only [List.getElem_cons_succ])
    try simp only [List.set_cons_zero, List.set_cons_succ]
    refine wpAny_ready (rs := [1, 4]) (by kernel_rfl) (by simp) ?_
    refine AllReady.cons rfl (fun K hK => ?_) (AllReady.cons rfl (fun K hK => ?_) AllReady.nil)
    · go_simp
      refine (CH _).out.mono ?_
      rintro e w2 ⟨rfl, hb2⟩
      have HB2 := Lib.hid (hb2)
      clear hb2
      refine hK _ _ ?_
      clear hK K
      try simp only [Act.put, List.setIfInBounds_toArray]
      try simp only [List.set_cons_zero, List.set_cons_succ]
      try simp only [List.getElem_toArray]
      repeat (first | simp only [List.getElem_cons_zero] | simp only [List.getElem_cons_succ])
      try simp only [List.set_cons_zero, List.set_cons_succ]
      refine wpAny_take (i := 3) (v := .string (hdA s ++ s)) rfl (by kernel_rfl) (by kernel_rfl) (by kernel_rfl) (fun _ _ _ h => h) (Or.inl ⟨by rfl, fun W9 => by go_simp; omega⟩) ?_
      try simp only [Act.put, List.setIfInBounds_toArray]
      try simp only [List.set_cons_zero, List.set_cons_succ]
      try simp only [List.getElem_toArray]
      repeat (first | simp only [List.getElem_cons_zero] | simp only [List.getElem_cons_succ])
      try simp only [List.set_cons_zero, List.set_cons_succ]
      refine wpAny_ready (rs := [4]) (by kernel_rfl) (by simp) ?_
      refine AllReady.cons rfl (fun K hK => ?_) AllReady.nil
      go_simp
      refine hK _ _ ?_
      clear hK K
      have hcv := run_conv 34 9 5 Try.underlying34 Try.underlying5 Try.underlying9 w2.heap.size 1 1 (heap_new w2 (.cells #[.int .u8 1] 5)) [1] rfl rfl
      refine wpAny_ready (rs := [5]) (by kernel_rfl) (by simp) ?_
      refine AllReady.cons rfl (fun K hK => ?_) AllReady.nil
      go_simp
      refine hK _ _ ?_
      clear hK K
      clear hcv
      try simp only [Act.put, List.setIfInBounds_toArray]
      try simp only [List.set_cons_zero, List.set_cons_succ]
      try simp only [List.getElem_toArray]
      repeat (first | simp only [List.getElem_cons_zero] | simp only [List.getElem_cons_succ])
      try simp only [List.set_cons_zero, List.set_cons_succ]
      refine wpAny_ready (rs := [6]) (by kernel_rfl) (by simp) ?_
      refine AllReady.cons rfl (fun K hK => ?_) AllReady.nil
      go_simp
      rw [if_neg (by omega)]
      go_simp
      rw [HFS.out]
      refine hK _ _ ?_
      clear hK K
      refine wpAny_ready (rs := [7]) (by kernel_rfl) (by simp) ?_
      refine AllReady.cons rfl (fun K hK => ?_) AllReady.nil
      go_simp
      refine hK _ _ ?_
      clear hK K
      refine wpAny_ready (rs := [8]) (by kernel_rfl) (by simp) ?_
      refine AllReady.cons rfl (fun K hK => ?_) AllReady.nil
      go_simp
      refine hK _ _ ?_
      clear hK K
      refine wpAny_done (by kernel_rfl) ?_ _
      go_wp2_with fail
      go_ret2
      rw [HE.out]
      exact ⟨rfl, (below_draws (Below.refl _ _) 1).trans (HB2.out.alloc HB2.out.size _)⟩

    · go_simp
      obtain ⟨W3, hW3⟩ : ∃ W3 : World, W3 = World.drew (w1.alloc (.cells #[.int .u8 1] 5)) := ⟨_, rfl⟩
      have HN3 : Hid (W3.heap[w1.heap.size]? = some (.cells #[.int .u8 1] 5 (0, 0))) := Lib.hid (by rw [hW3]; exact heap_new w1 _)
      have HB3 : Hid (Below w1.heap.size w1 W3) := Lib.hid (by rw [hW3]; exact below_draws ((Below.refl _ _).alloc (Nat.le_refl _) _) 1)
      refine hK _ _ ?_
      clear hK K
      rw [← hW3]
      clear hW3
      try simp only [Act.put, List.setIfInBounds_toArray]
      try simp only [List.set_cons_zero, List.set_cons_succ]
      try simp only [List.getElem_toArray]
      repeat (first | simp only [List.getElem_cons_zero] | simp only [List.getElem_cons_succ])
      try simp only [List.set_cons_zero, List.set_cons_succ]
      refine wpAny_ready (rs := [1, 5]) (by kernel_rfl) (by simp) ?_
      refine AllReady.cons rfl (fun K hK => ?_) (AllReady.cons rfl (fun K hK => ?_) AllReady.nil)
      · go_simp
        refine (CH _).out.mono ?_
        rintro e w2 ⟨rfl, hb2⟩
        have HB2 := Lib.hid hb2
        clear hb2
        refine hK _ _ ?_
        clear hK K
        try simp only [Act.put, List.setIfInBounds_toArray]
        try simp only [List.set_cons_zero, List.set_cons_succ]
        try simp only [List.getElem_toArray]
        repeat (first | simp only [List.getElem_cons_zero] | simp only [List.getElem_cons_succ])
        try simp only [List.set_cons_zero, List.set_cons_succ]
        refine wpAny_take (i := 3) (v := .string (hdA s ++ s)) rfl (by kernel_rfl) (by kernel_rfl) (by kernel_rfl) (fun _ _ _ h => h) (Or.inl ⟨by rfl, fun W9 => by go_simp; omega⟩) ?_
        try simp only [Act.put, List.setIfInBounds_toArray]
        try simp only [List.set_cons_zero, List.set_cons_succ]
        try simp only [List.getElem_toArray]
        repeat (first | simp only [List.getElem_cons_zero] | simp only [List.getElem_cons_succ])
        try simp only [List.set_cons_zero, List.set_cons_succ]
        have hcv := run_conv 34 9 5 Try.underlying34 Try.underlying5 Try.underlying9 w1.heap.size 1 1 ((HB2.out.block w1.heap.size (blk_lt HN3.out)).trans HN3.out) [1] rfl rfl
        refine wpAny_ready (rs := [5]) (by kernel_rfl) (by simp) ?_
        refine AllReady.cons rfl (fun K hK => ?_) AllReady.nil
        go_simp
        refine hK _ _ ?_
        clear hK K
        clear hcv
        try simp only [Act.put, List.setIfInBounds_toArray]
        try simp only [List.set_cons_zero, List.set_cons_succ]
        try simp only [List.getElem_toArray]
        repeat (first | simp only [List.getElem_cons_zero] | simp only [List.getElem_cons_succ])
        try simp only [List.set_cons_zero, List.set_cons_succ]
        refine wpAny_ready (rs := [6]) (by kernel_rfl) (by simp) ?_
        refine AllReady.cons rfl (fun K hK => ?_) AllReady.nil
        go_simp
        rw [if_neg (by omega)]
        go_simp
        rw [HFS.out]
        refine hK _ _ ?_
        clear hK K
        refine wpAny_ready (rs := [7]) (by kernel_rfl) (by simp) ?_
        refine AllReady.cons rfl (fun K hK => ?_) AllReady.nil
        go_simp
        refine hK _ _ ?_
        clear hK K
        refine wpAny_ready (rs := [8]) (by kernel_rfl) (by simp) ?_
        refine AllReady.cons rfl (fun K hK => ?_) AllReady.nil
        go_simp
        refine hK _ _ ?_
        clear hK K
        refine wpAny_done (by kernel_rfl) ?_ _
        go_wp2_with fail
        go_ret2
        rw [HE.out]
        exact ⟨rfl, HB3.out.trans (HB2.out.mono HB3.out.size)⟩

      · have hcv := run_conv 34 9 5 Try.underlying34 Try.underlying5 Try.underlying9 w1.heap.size 1 1 HN3.out [1] rfl rfl
        go_simp
        clear hcv
        refine hK _ _ ?_
        clear hK K
        try simp only [Act.put, List.setIfInBounds_toArray]
        try simp only [List.set_cons_zero, List.set_cons_succ]
        try simp only [List.getElem_toArray]
        repeat (first | simp only [List.getElem_cons_zero] | simp only [List.getElem_cons_succ])
        try simp only [List.set_cons_zero, List.set_cons_succ]
        refine wpAny_ready (rs := [1]) (by kernel_rfl) (by simp) ?_
        refine AllReady.cons rfl (fun K hK => ?_) AllReady.nil
        go_simp
        refine (CH _).out.mono ?_
        rintro e w2 ⟨rfl, hb2⟩
        have HB2 := Lib.hid hb2
        clear hb2
        refine hK _ _ ?_
        clear hK K
        try simp only [Act.put, List.setIfInBounds_toArray]
        try simp only [List.set_cons_zero, List.set_cons_succ]
        try simp only [List.getElem_toArray]
        repeat (first | simp only [List.getElem_cons_zero] | simp only [List.getElem_cons_succ])
        try simp only [List.set_cons_zero, List.set_cons_succ]
        refine wpAny_take (i := 3) (v := .string (hdA s ++ s)) rfl (by kernel_rfl) (by kernel_rfl) (by kernel_rfl) (fun _ _ _ h => h) (Or.inl ⟨by rfl, fun W9 => by go_simp; omega⟩) ?_
        try simp only [Act.put, List.setIfInBounds_toArray]
        try simp only [List.set_cons_zero, List.set_cons_succ]
        try simp only [List.getElem_toArray]
        repeat (first | simp only [List.getElem_cons_zero] | simp only [List.getElem_cons_succ])
        try simp only [List.set_cons_zero, List.set_cons_succ]
        try simp only [Act.put, List.setIfInBounds_toArray]
        try simp only [List.set_cons_zero, List.set_cons_succ]
        try simp only [List.getElem_toArray]
        repeat (first | simp only [List.getElem_cons_zero] | simp only [List.getElem_cons_succ])
        try simp only [List.set_cons_zero, List.set_cons_succ]
        refine wpAny_ready (rs := [6]) (by kernel_rfl) (by simp) ?_
        refine AllReady.cons rfl (fun K hK => ?_) AllReady.nil
        go_simp
        rw [if_neg (by omega)]
        go_simp
        rw [HFS.out]
        refine hK _ _ ?_
        clear hK K
        refine wpAny_ready (rs := [7]) (by kernel_rfl) (by simp) ?_
        refine AllReady.cons rfl (fun K hK => ?_) AllReady.nil
        go_simp
        refine hK _ _ ?_
        clear hK K
        refine wpAny_ready (rs := [8]) (by kernel_rfl) (by simp) ?_
        refine AllReady.cons rfl (fun K hK => ?_) AllReady.nil
        go_simp
        refine hK _ _ ?_
        clear hK K
        refine wpAny_done (by kernel_rfl) ?_ _
        go_wp2_with fail
        go_ret2
        rw [HE.out]
        exact ⟨rfl, HB3.out.trans (HB2.out.mono HB3.out.size)⟩
    --«frame end»
  · have HE : Hid (frE s = (⟨#[]⟩, 3)) := Lib.hid (if_neg hok)
    have e1 : decide (1 ≤ (s.size : Int) ∧ (s.size : Int) ≤ 400) = false := decide_eq_false (by omega)
    rw [e1] at CF
    clear e1 hok
    go_enter Try.func8, Try.ntmps8
    go_wp2_with fail
    refine CF.out.mono ?_
    rintro e w1 ⟨rfl, rfl⟩
    go_wp2_with fail
    go_ret2
    rw [HE.out]
    exact ⟨rfl, Below.refl _ _⟩
/-- What first tells: the record of the frame that s begins with, or that there is none. -/
def FirstP (s : ByteArray) (w : World) (e : Ending) (w' : World) : Prop :=
  Below w.heap.size w w' ∧ ∃ (v : ByteArray) (ok : Bool), e = .returned (.tuple #[.string v, .bool ok]) ∧ (ok = true → Ok (by' v) ∧ ∃ u, by' s = frL (by' v) ++ u) ∧ (ok = false → NoF (by' s))
theorem i64_or (a b : Nat) (ha : a < 4611686018427387904) (hb : b < 4611686018427387904) : bits .or .i64 (a : Int) (b : Int) = ((a ||| b : Nat) : Int) := by
  have hx : a ||| b < 2 ^ 62 := Nat.or_lt_two_pow (by omega) (by omega)
  show IntKind.i64.wrap ((BitVec.ofInt 64 (a : Int) ||| BitVec.ofInt 64 (b : Int)).toNat : Int) = _
  rw [BitVec.toNat_or, ofInt_u64 a (by omega), ofInt_u64 b (by omega)]
  simp [IntKind.wrap, IntKind.bits, IntKind.signed]
  omega
theorem or_many (a b : UInt8) : bits .or .i64 ((a.toNat : Int) * 256) (b.toNat : Int) = ((256 * a.toNat + b.toNat : Nat) : Int) := by
  have ha := a.toNat_lt
  have hb := b.toNat_lt
  have e : ((a.toNat : Int) * 256) = ((a.toNat * 256 : Nat) : Int) := by omega
  rw [e, i64_or _ _ (by omega) (by omega), Nat.or_comm, nat_join8' (a.toNat * 256) b.toNat (by omega) (by omega)]
  omega
set_option maxHeartbeats 4000000 in
set_option maxRecDepth 100000 in
theorem first_any (w : World) (s : ByteArray) (hs : s.size ≤ 1000000) : Calls Try.prog 18 #[.string s] w (FirstP s w) := by
  by_cases h8 : s.size < 8
  · have HN : Hid (NoF (by' s)) := Lib.hid (nof_short (by rw [by_len]; omega))
    go_enter Try.func18, Try.ntmps18
    go_wp2_with fail
    go_ret2
    exact ⟨Below.refl _ _, _, _, rfl, fun h => absurd h (by decide), fun _ => HN.out⟩
  · have h8' : 8 ≤ s.size := by omega
    have hb1 := or_many s[1] s[2]
    obtain ⟨n, hn⟩ : ∃ n : Nat, n = 256 * (s[1]).toNat + (s[2]).toNat := ⟨_, rfl⟩
    rw [← hn] at hb1
    have hn2 : n < 65536 := by have h1 := (s[1]).toNat_lt; have h2 := (s[2]).toNat_lt; omega
    have HFR : Hid (∀ r u, Ok r → by' s = frL r ++ u → r.length = n) := Lib.hid (fun r u hr e => by
      have h := (fr_tells hr e).2.1
      rw [← by_get (by omega), ← by_get (by omega)] at h
      omega)
    have CF := fun W => Lib.hid (fits_any W n)
    clear hn
    have g1 : (1 : Int) < (s.size : Int) := by omega
    have g2 : (2 : Int) < (s.size : Int) := by omega
    have q1 : ((s[1]).toNat : Int) < 256 := by have := (s[1]).toNat_lt; omega
    have q2 : ((s[2]).toNat : Int) < 256 := by have := (s[2]).toNat_lt; omega
    have g8 : decide ((s.size : Int) < 8) = false := decide_eq_false (by omega)
    go_enter Try.func18, Try.ntmps18
    go_wp2_with fail
    go_quiet (fail)
    obtain ⟨wd, hwd⟩ : ∃ wd, wd = w.drewN nq := ⟨_, rfl⟩
    have HBD : Hid (Below w.heap.size w wd) := Lib.hid (by rw [hwd]; exact below_draws (Below.refl _ _) nq)
    rw [← hwd]
    clear hwd q1 q2 hb1
    by_cases hok : 1 ≤ n ∧ n ≤ 400
    · have e1 : decide (1 ≤ (n : Int) ∧ (n : Int) ≤ 400) = true := decide_eq_true (by omega)
      rw [e1] at CF
      clear e1
      by_cases hl : s.size < n + 8
      · have HN : Hid (NoF (by' s)) := Lib.hid (fun r u hr e => by
          have h1 := HFR.out r u hr e
          have h2 := (fr_tells hr e).1
          rw [by_len] at h2
          omega)
        have e2 : decide ((s.size : Int) < (n : Int) + 8) = true := decide_eq_true (by omega)
        clear HFR
        go_wp2_with fail
        refine (CF _).out.mono ?_
        rintro e w1 ⟨rfl, rfl⟩
        go_wp2_with fail
        go_ret2
        exact ⟨HBD.out, _, _, rfl, fun h => absurd h (by decide), fun _ => HN.out⟩
      · have e2 : decide ((s.size : Int) < (n : Int) + 8) = false := decide_eq_false (by omega)
        have g7 : (7 : Int) + (n : Int) < (s.size : Int) := by omega
        go_wp2_with fail
        refine (CF _).out.mono ?_
        rintro e w1 ⟨rfl, rfl⟩
        go_wp2_with fail
        obtain ⟨v, hv⟩ : ∃ v, v = s.extract 7 (7 + n) := ⟨_, rfl⟩
        have hvb : by' v = ((by' s).drop 7).take n := by rw [hv, by_cut]; congr 1; omega
        have hvl : (by' v).length = n := by rw [hvb, List.length_take, List.length_drop, by_len]; omega
        have hvz : v.size ≤ 1000000 := by rw [← by_len, hvl]; omega
        have HVB := Lib.hid hvb
        have HVL := Lib.hid hvl
        rw [← hv]
        clear hv hvb hvl
        have g7' : 7 + n < s.size := by omega
        have hw7 : IntKind.i64.wrap (7 + (n : Int)) = 7 + n := by simp [IntKind.wrap, IntKind.bits, IntKind.signed]; omega
        have q0 : (0 : Int) ≤ 7 + n := by omega
        have ht7 : (7 + (n : Int)).toNat = 7 + n := by omega
        have q8 : ¬ ((s.size : Int) < 7) := by omega
        by_cases hc : s[7 + n] = 1
        · have CH := fun W => Lib.hid (head_any W v hvz)
          have e3 : ((s[7 + n]).toNat : Int) = 1 := by rw [hc]; rfl
          by_cases hq : s.extract 0 7 = hdA v
          · --«first»
            refine wp_region_any (by kernel_rfl) ?_
            refine wpAny_take (i := 0) (v := .string v) rfl (by kernel_rfl) (by kernel_rfl) (by kernel_rfl) (fun _ _ _ h => h) (Or.inl ⟨by rfl, fun W9 => by go_simp; try with_reducible rfl⟩) ?_
            try simp only [Act.put, List.setIfInBounds_toArray]
            try simp only [List.set_cons_zero, List.set_cons_succ]
            try simp only [List.getElem_toArray]
            repeat (first | simp only [List.getElem_cons_zero] | simp only [List.getElem_cons_succ])
            try simp only [List.set_cons_zero, List.set_cons_succ]
            refine wpAny_take (i := 1) (v := .string s) rfl (by kernel_rfl) (by kernel_rfl) (by kernel_rfl) (fun _ _ _ h => h) (Or.inl ⟨by rfl, fun W9 => by go_simp; try with_reducible rfl⟩) ?_
            try simp only [Act.put, List.setIfInBounds_toArray]
            try simp only [List.set_cons_zero, List.set_cons_succ]
            try simp only [List.getElem_toArray]
            repeat (first | simp only [List.getElem_cons_zero] | simp only [List.getElem_cons_succ])
            try simp only [List.set_cons_zero, List.set_cons_succ]
            refine wpAny_take (i := 2) (v := .int .i64 n) rfl (by kernel_rfl) (by kernel_rfl) (by kernel_rfl) (fun _ _ _ h => h) (Or.inl ⟨by rfl, fun W9 => by go_simp; try with_reducible rfl⟩) ?_
            try simp only [Act.put, List.setIfInBounds_toArray]
            try simp only [List.set_cons_zero, List.set_cons_succ]
            try simp only [List.getElem_toArray]
            repeat (first | simp only [List.getElem_cons_zero] | simp only [List.getElem_cons_succ])
            try simp only [List.set_cons_zero, List.set_cons_succ]
            refine wpAny_take (i := 3) (v := .int .i64 (7 + n)) rfl (by kernel_rfl) (by kernel_rfl) (by kernel_rfl) (fun _ _ _ h => h) (Or.inl ⟨by rfl, fun W9 => by go_simp; try with_reducible rfl⟩) ?_
            try simp only [Act.put, List.setIfInBounds_toArray]
            try simp only [List.set_cons_zero, List.set_cons_succ]
            try simp only [List.getElem_toArray]
            repeat (first | simp only [List.getElem_cons_zero] | simp only [List.getElem_cons_succ])
            try simp only [List.set_cons_zero, List.set_cons_succ]
            refine wpAny_take (i := 4) (v := .int .u8 (s[7 + n]).toNat) rfl (by kernel_rfl) (by kernel_rfl) (by kernel_rfl) (fun _ _ _ h => h) (Or.inl ⟨by rfl, fun W9 => by go_simp; try with_reducible rfl⟩) ?_
            try simp only [Act.put, List.setIfInBounds_toArray]
            try simp only [List.set_cons_zero, List.set_cons_succ]
            try simp only [List.getElem_toArray]
            repeat (first | simp only [List.getElem_cons_zero] | simp only [List.getElem_cons_succ])
            try simp only [List.set_cons_zero, List.set_cons_succ]
            refine wpAny_take (i := 5) (v := .bool true) rfl (by kernel_rfl) (by kernel_rfl) (by kernel_rfl) (fun _ _ _ h => h) (Or.inl ⟨by rfl, fun W9 => by go_simp; try with_reducible rfl⟩) ?_
            try simp only [Act.put, List.setIfInBounds_toArray]
            try simp only [List.set_cons_zero, List.set_cons_succ]
            try simp only [List.getElem_toArray]
            repeat (first | simp only [List.getElem_cons_zero] | simp only [List.getElem_cons_succ])
            try simp only [List.set_cons_zero, List.set_cons_succ]
            refine wpAny_take (i := 6) (v := .bool true) rfl (by kernel_rfl) (by kernel_rfl) (by kernel_rfl) (fun _ _ _ h => h) (Or.inl ⟨by rfl, fun W9 => by go_simp; try with_reducible rfl⟩) ?_
            try simp only [Act.put, List.setIfInBounds_toArray]
            try simp only [List.set_cons_zero, List.set_cons_succ]
            try simp only [List.getElem_toArray]
            repeat (first | simp only [List.getElem_cons_zero] | simp only [List.getElem_cons_succ])
            try simp only [List.set_cons_zero, List.set_cons_succ]
            refine wpAny_take (i := 7) (v := .string s) rfl (by kernel_rfl) (by kernel_rfl) (by kernel_rfl) (fun _ _ _ h => h) (Or.inl ⟨by rfl, fun W9 => by go_simp; try with_reducible rfl⟩) ?_
            try simp only [Act.put, List.setIfInBounds_toArray]
            try simp only [List.set_cons_zero, List.set_cons_succ]
            try simp only [List.getElem_toArray]
            repeat (first | simp only [List.getElem_cons_zero] | simp only [List.getElem_cons_succ])
            try simp only [List.set_cons_zero, List.set_cons_succ]
            refine wpAny_take (i := 8) (v := .string (s.extract 0 7)) rfl (by kernel_rfl) (by kernel_rfl) (by kernel_rfl) (fun _ _ _ h => h) (Or.inl ⟨by rfl, fun W9 => by go_simp; try with_reducible rfl⟩) ?_
            try simp only [Act.put, List.setIfInBounds_toArray]
            try simp only [List.set_cons_zero, List.set_cons_succ]
            try simp only [List.getElem_toArray]
            repeat (first | simp only [List.getElem_cons_zero] | simp only [List.getElem_cons_succ])
            try simp only [List.set_cons_zero, List.set_cons_succ]
            refine wpAny_take (i := 9) (v := .string v) rfl (by kernel_rfl) (by kernel_rfl) (by kernel_rfl) (fun _ _ _ h => h) (Or.inl ⟨by rfl, fun W9 => by go_simp; try with_reducible rfl⟩) ?_
            try simp only [Act.put, List.setIfInBounds_toArray]
            try simp only [List.set_cons_zero, List.set_cons_succ]
            try simp only [List.getElem_toArray]
            repeat (first | simp only [List.getElem_cons_zero] | simp only [List.getElem_cons_succ])
            try simp only [List.set_cons_zero, List.set_cons_succ]
            refine wpAny_ready (rs := [10]) (by kernel_rfl) (by simp) ?_
            refine AllReady.cons rfl (fun K hK => ?_) AllReady.nil
            go_simp
            refine (CH _).out.mono ?_
            rintro e w2 ⟨rfl, hb2⟩
            have HB2 := Lib.hid (HBD.out.trans ((below_draws (Below.refl _ _) 1).trans (hb2.mono HBD.out.size)))
            clear hb2
            refine hK _ _ ?_
            clear hK K
            try simp only [Act.put, List.setIfInBounds_toArray]
            try simp only [List.set_cons_zero, List.set_cons_succ]
            try simp only [List.getElem_toArray]
            repeat (first | simp only [List.getElem_cons_zero] | simp only [List.getElem_cons_succ])
            try simp only [List.set_cons_zero, List.set_cons_succ]
            refine wpAny_take (i := 13) (v := .string v) rfl (by kernel_rfl) (by kernel_rfl) (by kernel_rfl) (fun _ _ _ h => h) (Or.inl ⟨by rfl, fun W9 => by go_simp; try with_reducible rfl⟩) ?_
            try simp only [Act.put, List.setIfInBounds_toArray]
            try simp only [List.set_cons_zero, List.set_cons_succ]
            try simp only [List.getElem_toArray]
            repeat (first | simp only [List.getElem_cons_zero] | simp only [List.getElem_cons_succ])
            try simp only [List.set_cons_zero, List.set_cons_succ]
            refine wpAny_ready (rs := [11]) (by kernel_rfl) (by simp) ?_
            refine AllReady.cons rfl (fun K hK => ?_) AllReady.nil
            go_simp
            refine hK _ _ ?_
            clear hK K
            refine wpAny_ready (rs := [12]) (by kernel_rfl) (by simp) ?_
            refine AllReady.cons rfl (fun K hK => ?_) AllReady.nil
            go_simp
            refine hK _ _ ?_
            clear hK K
            refine wpAny_ready (rs := [14]) (by kernel_rfl) (by simp) ?_
            refine AllReady.cons rfl (fun K hK => ?_) AllReady.nil
            go_simp
            refine hK _ _ ?_
            clear hK K
            refine wpAny_done (by kernel_rfl) ?_ _
            go_wp2_with fail
            go_ret2
            refine ⟨HB2.out, _, _, rfl, fun _ => ⟨?_, (by' s).drop (n + 8), ?_⟩, fun h => absurd h (by decide)⟩
            · exact (ok_size v).2 (by rw [← by_len, HVL.out]; exact hok)
            · refine fr_of (by rw [by_len]; omega) HVB.out.symm (by rw [← by_get g7']; exact hc) ?_
              rw [← by_hd, ← hq, by_cut]; rfl
            --«first end»
          · have HN : Hid (NoF (by' s)) := Lib.hid (fun r u hr e => hq (by
              have h1 := HFR.out r u hr e
              have h2 := fr_tells hr e
              apply by_inj
              rw [by_cut, by_hd, HVB.out, ← h1, h2.2.2.1]
              exact h2.2.2.2.2.1))
            have hqb : ((s.extract 0 7).toList == (hdA v).toList) = false := str_ne hq
            --«first2»
            refine wp_region_any (by kernel_rfl) ?_
            refine wpAny_take (i := 0) (v := .string v) rfl (by kernel_rfl) (by kernel_rfl) (by kernel_rfl) (fun _ _ _ h => h) (Or.inl ⟨by rfl, fun W9 => by go_simp; try with_reducible rfl⟩) ?_
            try simp only [Act.put, List.setIfInBounds_toArray]
            try simp only [List.set_cons_zero, List.set_cons_succ]
            try simp only [List.getElem_toArray]
            repeat (first | simp only [List.getElem_cons_zero] | simp only [List.getElem_cons_succ])
            try simp only [List.set_cons_zero, List.set_cons_succ]
            refine wpAny_take (i := 1) (v := .string s) rfl (by kernel_rfl) (by kernel_rfl) (by kernel_rfl) (fun _ _ _ h => h) (Or.inl ⟨by rfl, fun W9 => by go_simp; try with_reducible rfl⟩) ?_
            try simp only [Act.put, List.setIfInBounds_toArray]
            try simp only [List.set_cons_zero, List.set_cons_succ]
            try simp only [List.getElem_toArray]
            repeat (first | simp only [List.getElem_cons_zero] | simp only [List.getElem_cons_succ])
            try simp only [List.set_cons_zero, List.set_cons_succ]
            refine wpAny_take (i := 2) (v := .int .i64 n) rfl (by kernel_rfl) (by kernel_rfl) (by kernel_rfl) (fun _ _ _ h => h) (Or.inl ⟨by rfl, fun W9 => by go_simp; try with_reducible rfl⟩) ?_
            try simp only [Act.put, List.setIfInBounds_toArray]
            try simp only [List.set_cons_zero, List.set_cons_succ]
            try simp only [List.getElem_toArray]
            repeat (first | simp only [List.getElem_cons_zero] | simp only [List.getElem_cons_succ])
            try simp only [List.set_cons_zero, List.set_cons_succ]
            refine wpAny_take (i := 3) (v := .int .i64 (7 + n)) rfl (by kernel_rfl) (by kernel_rfl) (by kernel_rfl) (fun _ _ _ h => h) (Or.inl ⟨by rfl, fun W9 => by go_simp; try with_reducible rfl⟩) ?_
            try simp only [Act.put, List.setIfInBounds_toArray]
            try simp only [List.set_cons_zero, List.set_cons_succ]
            try simp only [List.getElem_toArray]
            repeat (first | simp only [List.getElem_cons_zero] | simp only [List.getElem_cons_succ])
            try simp only [List.set_cons_zero, List.set_cons_succ]
            refine wpAny_take (i := 4) (v := .int .u8 (s[7 + n]).toNat) rfl (by kernel_rfl) (by kernel_rfl) (by kernel_rfl) (fun _ _ _ h => h) (Or.inl ⟨by rfl, fun W9 => by go_simp; try with_reducible rfl⟩) ?_
            try simp only [Act.put, List.setIfInBounds_toArray]
            try simp only [List.set_cons_zero, List.set_cons_succ]
            try simp only [List.getElem_toArray]
            repeat (first | simp only [List.getElem_cons_zero] | simp only [List.getElem_cons_succ])
            try simp only [List.set_cons_zero, List.set_cons_succ]
            refine wpAny_take (i := 5) (v := .bool true) rfl (by kernel_rfl) (by kernel_rfl) (by kernel_rfl) (fun _ _ _ h => h) (Or.inl ⟨by rfl, fun W9 => by go_simp; try with_reducible rfl⟩) ?_
            try simp only [Act.put, List.setIfInBounds_toArray]
            try simp only [List.set_cons_zero, List.set_cons_succ]
            try simp only [List.getElem_toArray]
            repeat (first | simp only [List.getElem_cons_zero] | simp only [List.getElem_cons_succ])
            try simp only [List.set_cons_zero, List.set_cons_succ]
            refine wpAny_take (i := 6) (v := .bool true) rfl (by kernel_rfl) (by kernel_rfl) (by kernel_rfl) (fun _ _ _ h => h) (Or.inl ⟨by rfl, fun W9 => by go_simp; try with_reducible rfl⟩) ?_
            try simp only [Act.put, List.setIfInBounds_toArray]
            try simp only [List.set_cons_zero, List.set_cons_succ]
            try simp only [List.getElem_toArray]
            repeat (first | simp only [List.getElem_cons_zero] | simp only [List.getElem_cons_succ])
            try simp only [List.set_cons_zero, List.set_cons_succ]
            refine wpAny_take (i := 7) (v := .string s) rfl (by kernel_rfl) (by kernel_rfl) (by kernel_rfl) (fun _ _ _ h => h) (Or.inl ⟨by rfl, fun W9 => by go_simp; try with_reducible rfl⟩) ?_
            try simp only [Act.put, List.setIfInBounds_toArray]
            try simp only [List.set_cons_zero, List.set_cons_succ]
            try simp only [List.getElem_toArray]
            repeat (first | simp only [List.getElem_cons_zero] | simp only [List.getElem_cons_succ])
            try simp only [List.set_cons_zero, List.set_cons_succ]
            refine wpAny_take (i := 8) (v := .string (s.extract 0 7)) rfl (by kernel_rfl) (by kernel_rfl) (by kernel_rfl) (fun _ _ _ h => h) (Or.inl ⟨by rfl, fun W9 => by go_simp; try with_reducible rfl⟩) ?_
            try simp only [Act.put, List.setIfInBounds_toArray]
            try simp only [List.set_cons_zero, List.set_cons_succ]
            try simp only [List.getElem_toArray]
            repeat (first | simp only [List.getElem_cons_zero] | simp only [List.getElem_cons_succ])
            try simp only [List.set_cons_zero, List.set_cons_succ]
            refine wpAny_take (i := 9) (v := .string v) rfl (by kernel_rfl) (by kernel_rfl) (by kernel_rfl) (fun _ _ _ h => h) (Or.inl ⟨by rfl, fun W9 => by go_simp; try with_reducible rfl⟩) ?_
            try simp only [Act.put, List.setIfInBounds_toArray]
            try simp only [List.set_cons_zero, List.set_cons_succ]
            try simp only [List.getElem_toArray]
            repeat (first | simp only [List.getElem_cons_zero] | simp only [List.getElem_cons_succ])
            try simp only [List.set_cons_zero, List.set_cons_succ]
            refine wpAny_ready (rs := [10]) (by kernel_rfl) (by simp) ?_
            refine AllReady.cons rfl (fun K hK => ?_) AllReady.nil
            go_simp
            refine (CH _).out.mono ?_
            rintro e w2 ⟨rfl, hb2⟩
            have HB2 := Lib.hid (HBD.out.trans ((below_draws (Below.refl _ _) 1).trans (hb2.mono HBD.out.size)))
            clear hb2
            refine hK _ _ ?_
            clear hK K
            try simp only [Act.put, List.setIfInBounds_toArray]
            try simp only [List.set_cons_zero, List.set_cons_succ]
            try simp only [List.getElem_toArray]
            repeat (first | simp only [List.getElem_cons_zero] | simp only [List.getElem_cons_succ])
            try simp only [List.set_cons_zero, List.set_cons_succ]
            refine wpAny_take (i := 13) (v := .string v) rfl (by kernel_rfl) (by kernel_rfl) (by kernel_rfl) (fun _ _ _ h => h) (Or.inl ⟨by rfl, fun W9 => by go_simp; try with_reducible rfl⟩) ?_
            try simp only [Act.put, List.setIfInBounds_toArray]
            try simp only [List.set_cons_zero, List.set_cons_succ]
            try simp only [List.getElem_toArray]
            repeat (first | simp only [List.getElem_cons_zero] | simp only [List.getElem_cons_succ])
            try simp only [List.set_cons_zero, List.set_cons_succ]
            refine wpAny_ready (rs := [11]) (by kernel_rfl) (by simp) ?_
            refine AllReady.cons rfl (fun K hK => ?_) AllReady.nil
            go_simp
            refine hK _ _ ?_
            clear hK K
            refine wpAny_ready (rs := [12]) (by kernel_rfl) (by simp) ?_
            refine AllReady.cons rfl (fun K hK => ?_) AllReady.nil
            go_simp
            refine hK _ _ ?_
            clear hK K
            refine wpAny_ready (rs := [14]) (by kernel_rfl) (by simp) ?_
            refine AllReady.cons rfl (fun K hK => ?_) AllReady.nil
            go_simp
            refine hK _ _ ?_
            clear hK K
            refine wpAny_done (by kernel_rfl) ?_ _
            go_wp2_with fail
            go_ret2
            exact ⟨HB2.out, _, _, rfl, fun h => absurd h (by decide), fun _ => HN.out⟩
            --«first2 end»
        · have HN : Hid (NoF (by' s)) := Lib.hid (fun r u hr e => hc (by
            have h1 := HFR.out r u hr e
            have h2 := (fr_tells hr e).2.2.2.1
            rw [h1, ← by_get g7'] at h2
            exact h2))
          have e3 : (((s[7 + n]).toNat : Int) == 1) = false := by
            rw [beq_eq_false_iff_ne]
            intro h
            exact hc (UInt8.toNat_inj.1 (by rw [show (1 : UInt8).toNat = 1 from rfl]; omega))
          go_quiet (fail)
          go_wp2_with fail
          go_ret2
          exact ⟨HBD.out.trans (below_draws (Below.refl _ _) nq), _, _, rfl, fun h => absurd h (by decide), fun _ => HN.out⟩
    · have HN : Hid (NoF (by' s)) := Lib.hid (fun r u hr e => hok (by rw [← HFR.out r u hr e]; exact hr))
      have e1 : decide (1 ≤ (n : Int) ∧ (n : Int) ≤ 400) = false := decide_eq_false (by omega)
      rw [e1] at CF
      clear e1 HFR hok
      go_wp2_with fail
      refine (CF _).out.mono ?_
      rintro e w1 ⟨rfl, rfl⟩
      go_wp2_with fail
      go_ret2
      exact ⟨HBD.out, _, _, rfl, fun h => absurd h (by decide), fun _ => HN.out⟩
end Go.Proofs.Ythbleofighjjgaa.LG
