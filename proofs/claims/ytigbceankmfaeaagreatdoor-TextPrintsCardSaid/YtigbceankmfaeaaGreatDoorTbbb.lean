/-
  Contracts of Print's words: option, groupWords, and of a line's tokens. The library's contract of strconv.Itoa, laid at this program's numbers.
-/
import Derived.Test.YtigbceankmfaeaaGreatDoorTbba
import Derived.Shelf.Strconv.Itoa3
import Derived.Shelf.LaysM
import Derived.Test.YtigbceankmfaeaaGreatDoorProg
namespace Go.Proofs.YtigbceankmfaeaaGreatDoor.P3.C
open Go.RowKit Go.Shelf Go.Proofs.YtigbceankmfaeaaGreatDoor.B Go.Proofs.YtigbceankmfaeaaGreatDoor.Lx Go.Proofs.YtigbceankmfaeaaGreatDoor.P3
theorem own_new (w : World) {B e z n : Nat} {xs : List Value} (hB : B ≤ w.heap.size) (hx : xs.length = n * z) (hn : n ≤ maxLen) : (w.alloc (.cells xs.toArray e)).ownsRow B e z (.slice (some ⟨w.heap.size, 0, none⟩) n n) n xs :=
  ⟨hx, .inr ⟨w.heap.size, n, xs.toArray, rfl, hB, heap_new _ _, Nat.le_refl _, hn, by simpa using hx, by simp [← hx]⟩⟩
/-- Words of the call's own. -/
def WdP (w : World) (ws : List (List UInt8)) (e : Ending) (w' : World) : Prop :=
  ∃ v, e = .returned v ∧ w'.ownsRow w.heap.size 9 1 v ws.length (ws.map sb) ∧ Below w.heap.size w w'
theorem sb_of (s : ByteArray) : sb s.toList = .string s := by
  show Value.string (bytes s.toList) = _
  rw [bytes_of]
set_option maxRecDepth 100000 in
set_option maxHeartbeats 2000000 in
theorem opt_words (B : Nat) (W : World) (v : Value) (l : List (List UInt8)) (k nm : List UInt8) (h : W.ownsRow B 9 1 v l.length (l.map sb)) (hB : B ≤ W.heap.size) (hl : l.length ≤ 1000000000) :
    Calls Tryz.prog 47 #[v, sb k, sb nm] W fun e w' => ∃ v', e = .returned v' ∧ w'.ownsRow B 9 1 v' (optB l k nm).length ((optB l k nm).map sb) ∧ W.grownBy w' v.ownBlock := by
  obtain ⟨i0, hi0, hi1, hi2, hi3⟩ := info_parts info_str
  obtain ⟨a, c, rfl⟩ := Go.Proofs.YtigbceankmfaeaaGreatDoor.B.own_slice h
  have HO := Lib.hid h
  by_cases hn : nm = []
  · subst hn
    have HP : Hid (optB l k [] = l) := Lib.hid (by unfold optB; rw [if_pos rfl])
    rw [HP.out]
    clear h
    go_enter Tryz.func47, Tryz.ntmps47
    go_wp2_with fail
    go_ret
    exact ⟨_, rfl, HO.out, ⟨rfl, rfl, rfl, Nat.le_refl _, fun _ _ _ => rfl⟩⟩
  · have HP : Hid (optB l k nm = l ++ [k, nm]) := Lib.hid (by unfold optB; rw [if_neg hn])
    rw [HP.out]
    obtain ⟨ks, hks⟩ : ∃ ks : ByteArray, ks = ⟨k.toArray⟩ := ⟨_, rfl⟩
    obtain ⟨na, hna⟩ : ∃ na : ByteArray, na = ⟨nm.toArray⟩ := ⟨_, rfl⟩
    have hq : na.toList.isEmpty = false := by
      rw [hna]
      show (bytes nm).toList.isEmpty = false
      rw [bytes_list]
      cases nm with
      | nil => exact absurd rfl hn
      | cons x r => rfl
    have HN := Lib.hid hna
    have HKS := Lib.hid hks
    rw [show sb k = .string ks by rw [hks], show sb nm = .string na by rw [hna]]
    have C1 := Lib.hid (show ∀ j u, [Value.string ks, Value.string na][j]? = some u → (W.alloc (.cells #[.string ks, .string na] 9)).cell? ((⟨W.heap.size, 0, none⟩ : Addr).add j) = some u from by
      intro j u hj
      have hnw := heap_new W (.cells #[.string ks, .string na] 9)
      rw [Addr.add_lit, Nat.zero_add]
      exact cell_blk hnw (by simpa using hj))
    have C2 := Lib.hid (show ∀ u ∈ [Value.string ks, Value.string na], u.oneCell' = true from by
      intro u hu
      simp at hu
      rcases hu with rfl | rfl <;> rfl)
    clear h hks hn hna
    go_enter Tryz.func47, Tryz.ntmps47
    go_wp2_with (at_builtin; refine wpList_append_own_at _ rfl (.tmp 10) (.tmp 13) 49 rfl B 9 i0 _ 1 16 Tryz.underlying49 hi0 hi1 hi2 hi3 rfl (by omega) _ _ _ rfl (HO.out.alloc _) ⟨W.heap.size, 0, none⟩ 2 2 [.string ks, .string na] rfl rfl C1.out C2.out (by unfold maxLen; omega) (by omega) (by rw [World.size_alloc]; omega) ?_)
    intro v1 w4 hown' hgrow _ hat
    obtain ⟨pa, pc, rfl⟩ := Go.Proofs.YtigbceankmfaeaaGreatDoor.B.own_slice hown'
    have HW := Lib.hid hown'
    have HG := Lib.hid hgrow
    clear hown' hgrow hat
    go_wp2_with fail
    go_ret
    refine ⟨_, rfl, ?_, ?_⟩
    · rw [List.length_append, List.map_append, List.map_cons, List.map_cons, List.map_nil, show sb k = .string ks by rw [HKS.out], show sb nm = .string na by rw [HN.out]]
      exact HW.out
    · exact (grown_below ((Below.refl _ _).alloc (Nat.le_refl _) _) _).trans HG.out
set_option maxRecDepth 100000 in
set_option maxHeartbeats 2000000 in
theorem group_words (w : World) (p : Gp) : Calls Tryz.prog 20 #[.agg #[.string p.name, .string p.parent]] w (WdP w (gpW p)) := by
  obtain ⟨W, hW⟩ : ∃ W, W = (w.alloc (.cells #[.string p.name, .string p.parent] 43)).alloc (.cells #[sb [103, 114, 111, 117, 112], .string p.name] 9) := ⟨_, rfl⟩
  have hal := (Below.refl w.heap.size w).alloc (Nat.le_refl _) (.cells #[.string p.name, .string p.parent] 43)
  have hb : Below w.heap.size w W := by rw [hW]; exact hal.alloc hal.size _
  have ho : W.ownsRow w.heap.size 9 1 (.slice (some ⟨w.heap.size + 1, 0, none⟩) 2 2) [([103, 114, 111, 117, 112] : List UInt8), p.name.toList].length ([([103, 114, 111, 117, 112] : List UInt8), p.name.toList].map sb) := by
    rw [hW]
    have := own_new (w.alloc (.cells #[.string p.name, .string p.parent] 43)) (B := w.heap.size) (e := 9) (z := 1) (n := 2) (xs := [sb [103, 114, 111, 117, 112], .string p.name]) hal.size rfl (by unfold maxLen; omega)
    rw [World.size_alloc] at this
    rw [List.map_cons, List.map_cons, List.map_nil, sb_of]
    exact this
  have HC := Lib.hid (opt_words w.heap.size W _ [[103, 114, 111, 117, 112], p.name.toList] [105, 110] p.parent.toList ho hb.size (by simp))
  rw [sb_of] at HC
  have HB := Lib.hid hb
  have hWs : W.heap.size = w.heap.size + 1 + 1 := by rw [hW, World.size_alloc, World.size_alloc]
  have HD : Hid (∀ e w', (∃ v', e = .returned v' ∧ w'.ownsRow w.heap.size 9 1 v' (optB [[103, 114, 111, 117, 112], p.name.toList] [105, 110] p.parent.toList).length ((optB [[103, 114, 111, 117, 112], p.name.toList] [105, 110] p.parent.toList).map sb) ∧ W.grownBy w' (some (w.heap.size + 1))) → WdP w (gpW p) e w') := Lib.hid (by
    rintro e w' ⟨v', rfl, h1, h2⟩
    exact ⟨v', rfl, h1, HB.out.grown h2 HB.out.size (fun j hj => by cases hj; omega)⟩)
  generalize WdP w (gpW p) = PO at *
  clear ho hb hal
  go_enter Tryz.func20, Tryz.ntmps20
  go_wp2_with fail
  rw [← hW]
  clear hW
  refine HC.out.mono ?_
  rintro e w' ⟨v', rfl, h1, h2⟩
  obtain ⟨pa, pc, rfl⟩ := Go.Proofs.YtigbceankmfaeaaGreatDoor.B.own_slice h1
  have HF := Lib.hid (HD.out _ _ ⟨_, rfl, h1, h2⟩)
  clear HD HC h1 h2
  go_wp2_with fail
  exact HF.out
theorem row_app' (a b : List Tok) : rowC (a ++ b) = rowC a ++ rowC b := by simp [rowC, List.flatMap_append]
/-- A line's tokens of the call's own. -/
def LnP (w : World) (ws : List (List UInt8)) (e : Ending) (w' : World) : Prop :=
  ∃ v, e = .returned v ∧ w'.ownsRow w.heap.size 73 4 v (lineT ws).length (rowC (lineT ws)) ∧ Below w.heap.size w w'
abbrev tk (x : List UInt8) : Tok := ⟨0, x, 0, 0⟩
theorem line_of (ws : List (List UInt8)) : lineT ws = ws.map tk ++ [tk [59]] := rfl
theorem tok_cells (x : List UInt8) : rowC [tk x] = [.int .i64 0, sb x, .int .i64 0, .int .i64 0] := by simp [rowC, tokC]
set_option maxRecDepth 100000 in
set_option maxHeartbeats 4000000 in
theorem line_any (w : World) (A : Option Addr) (c : Nat) (ws : List (List UInt8)) (hR : Row w A (ws.map sb)) (hl : ws.length ≤ 1000000) : Calls Tryz.prog 19 #[.slice A ws.length c] w (LnP w ws) := by
  obtain ⟨i0, hi, hz0, hz1, hz2⟩ := info_parts infoTok
  have HI := Lib.hid hi
  have HZ0 := Lib.hid hz0
  have HZ1 := Lib.hid hz1
  have HZ2 := Lib.hid hz2
  have HR := Lib.hid hR
  clear hi hz0 hz1 hz2 hR
  go_enter Tryz.func19, Tryz.ntmps19
  go_wp2_with fail
  go_loopw [3, 8] (fun v i wr => ∃ k : Nat, k ≤ ws.length ∧ i = .int .i64 k ∧ Hid (wr.ownsRow w.heap.size 73 4 v k (rowC ((ws.take k).map tk))) ∧ Hid (Below w.heap.size w wr)) (fun _ i _ => ws.length - (intOf i).toNat)
  case atStart => exact ⟨0, Nat.zero_le _, rfl, Lib.hid (World.ownsRow_nil _ _ _ _), Lib.hid (Below.refl _ _)⟩
  case round =>
    obtain ⟨k, hk, rfl, HO, HB⟩ := hrel
    obtain ⟨wo, rfl⟩ : ∃ wo, wo = wr := ⟨wr, rfl⟩
    obtain ⟨va, vc, rfl⟩ := Go.Proofs.YtigbceankmfaeaaGreatDoor.B.own_slice HO.out
    have hwo := HB.out.size
    by_cases hkl : k < ws.length
    · obtain ⟨b, off, rfl, hb, hc⟩ := HR.out (fun e => by rw [List.map_eq_nil_iff] at e; rw [e] at hkl; simp at hkl)
      have hx := (HB.out.cell (p := ⟨b, off + k, none⟩) hb).trans (hc k (sb ws[k]) (by rw [List.getElem?_map, List.getElem?_eq_getElem hkl]; rfl))
      have HX : Hid (ws.take (k + 1) = ws.take k ++ [ws[k]]) := Lib.hid (by rw [List.take_add_one, List.getElem?_eq_getElem hkl]; rfl)
      have hb' : b < wo.heap.size := by omega
      generalize ws[k] = x at *
      have C1 := Lib.hid (show ∀ j u, ([.int .i64 0, sb x, .int .i64 0, .int .i64 0] : List Value)[j]? = some u → (wo.alloc (.cells #[.int .i64 0, sb x, .int .i64 0, .int .i64 0] 73)).cell? ((⟨wo.heap.size, 0, none⟩ : Addr).add j) = some u from by
        intro j u hj
        have hnw := heap_new wo (.cells #[.int .i64 0, sb x, .int .i64 0, .int .i64 0] 73)
        rw [Addr.add_lit, Nat.zero_add]
        exact cell_blk hnw (by simpa using hj))
      have C2 := Lib.hid (show ∀ u ∈ ([.int .i64 0, sb x, .int .i64 0, .int .i64 0] : List Value), u.oneCell' = true from by
        intro u hu
        simp at hu
        rcases hu with rfl | rfl | rfl | rfl <;> rfl)
      clear hc hb
      go_wp2_with (at_builtin; refine wpList_append_own_at _ rfl (.tmp 12) (.tmp 15) 37 rfl w.heap.size 73 i0 _ 4 40 Tryz.underlying37 HI.out HZ0.out HZ1.out HZ2.out rfl (by omega) _ _ _ rfl (HO.out.alloc _) ⟨wo.heap.size, 0, none⟩ 1 1 [.int .i64 0, sb x, .int .i64 0, .int .i64 0] rfl rfl C1.out C2.out (by unfold maxLen; omega) (by omega) (by rw [World.size_alloc]; omega) ?_)
      intro v1 w4 hown' hgrow _ hat
      have HO2 : Hid (w4.ownsRow w.heap.size 73 4 v1 (k + 1) (rowC ((ws.take (k + 1)).map tk))) := Lib.hid (by rw [HX.out, List.map_append, row_app', List.map_cons, List.map_nil, tok_cells, List.map_take]; exact hown')
      have HB2 : Hid (Below w.heap.size w w4) := Lib.hid ((HB.out.alloc hwo _).grown hgrow (by rw [World.size_alloc]; omega) (fun q hq => (HO.out.lt q hq).1))
      obtain ⟨pa, pc, rfl⟩ := Go.Proofs.YtigbceankmfaeaaGreatDoor.B.own_slice hown'
      clear hown' hgrow hat
      go_wp2_with fail
      go_roundw
      case rel => exact ⟨k + 1, hkl, by go_num, HO2, HB2⟩
      case measure => simp [intOf]; omega
    · obtain rfl : k = ws.length := by omega
      have C1 := Lib.hid (show ∀ j u, ([.int .i64 0, sb [59], .int .i64 0, .int .i64 0] : List Value)[j]? = some u → (wo.alloc (.cells #[.int .i64 0, sb [59], .int .i64 0, .int .i64 0] 73)).cell? ((⟨wo.heap.size, 0, none⟩ : Addr).add j) = some u from by
        intro j u hj
        have hnw := heap_new wo (.cells #[.int .i64 0, sb [59], .int .i64 0, .int .i64 0] 73)
        rw [Addr.add_lit, Nat.zero_add]
        exact cell_blk hnw (by simpa using hj))
      have C2 := Lib.hid (show ∀ u ∈ ([.int .i64 0, sb [59], .int .i64 0, .int .i64 0] : List Value), u.oneCell' = true from by
        intro u hu
        simp at hu
        rcases hu with rfl | rfl | rfl | rfl <;> rfl)
      go_wp2_with (at_builtin; refine wpList_append_own_at _ rfl (.tmp 18) (.tmp 20) 37 rfl w.heap.size 73 i0 _ 4 40 Tryz.underlying37 HI.out HZ0.out HZ1.out HZ2.out rfl (by omega) _ _ _ rfl (HO.out.alloc _) ⟨wo.heap.size, 0, none⟩ 1 1 [.int .i64 0, sb [59], .int .i64 0, .int .i64 0] rfl rfl C1.out C2.out (by unfold maxLen; omega) (by omega) (by rw [World.size_alloc]; omega) ?_)
      intro v1 w4 hown' hgrow _ hat
      have HO2 : Hid (w4.ownsRow w.heap.size 73 4 v1 (lineT ws).length (rowC (lineT ws))) := Lib.hid (by
        rw [line_of, List.length_append, List.length_map, row_app', tok_cells]
        exact hown')
      have HB2 : Hid (Below w.heap.size w w4) := Lib.hid ((HB.out.alloc hwo _).grown hgrow (by rw [World.size_alloc]; omega) (fun q hq => (HO.out.lt q hq).1))
      obtain ⟨pa, pc, rfl⟩ := Go.Proofs.YtigbceankmfaeaaGreatDoor.B.own_slice HO2.out
      clear hown' hgrow hat
      go_wp2_with fail
      go_ret
      exact ⟨_, rfl, HO2.out, HB2.out⟩
end Go.Proofs.YtigbceankmfaeaaGreatDoor.P3.C

namespace Go.Proofs.YtigbceankmfaeaaGreatDoor.P3.S
open Go.Shelf
def laysM171_ren : Go.Shelf.Ren := ⟨fun | 171 => 48 | 243 => 93 | 246 => 124 | 283 => 135 | 284 => 136 | 285 => 137 | 286 => 138 | 129 => 141 | 317 => 140 | 318 => 142 | 319 => 143 | 320 => 144 | 337 => 145 | 338 => 146 | n => n, fun | 3 => 3 | 9 => 9 | 2 => 2 | 4 => 4 | 171 => 177 | 0 => 0 | 53 => 178 | 37 => 90 | 5 => 5 | 173 => 181 | 212 => 184 | 51 => 185 | 20 => 20 | 213 => 186 | 46 => 187 | 232 => 190 | 233 => 191 | n => n, fun | 17 => 0 | 18 => 1 | 19 => 2 | n => n⟩
theorem laysM171 : Go.Proofs.LaysM.n171 Tryz.prog laysM171_ren := {
  mixed := by kernel_rfl
  f129 := Tryz.func141.trans (congrArg some (by kernel_rfl))
  f171 := Tryz.func48.trans (congrArg some (by kernel_rfl))
  f243 := Tryz.func93.trans (congrArg some (by kernel_rfl))
  f246 := Tryz.func124.trans (congrArg some (by kernel_rfl))
  f283 := Tryz.func135.trans (congrArg some (by kernel_rfl))
  f284 := Tryz.func136.trans (congrArg some (by kernel_rfl))
  f285 := Tryz.func137.trans (congrArg some (by kernel_rfl))
  f286 := Tryz.func138.trans (congrArg some (by kernel_rfl))
  f317 := Tryz.func140.trans (congrArg some (by kernel_rfl))
  f318 := Tryz.func142.trans (congrArg some (by kernel_rfl))
  f319 := Tryz.func143.trans (congrArg some (by kernel_rfl))
  f320 := Tryz.func144.trans (congrArg some (by kernel_rfl))
  f337 := Tryz.func145.trans (congrArg some (by kernel_rfl))
  f338 := Tryz.func146.trans (congrArg some (by kernel_rfl))
  t0 := Tryz.underlying0
  a0 := Tryz.isAgg0
  z0 := Tryz.sizeOf0
  v0 := Tryz.zeroValue0
  t2 := Tryz.underlying2
  a2 := Tryz.isAgg2
  z2 := Tryz.sizeOf2
  v2 := Tryz.zeroValue2
  t3 := Tryz.underlying3
  a3 := Tryz.isAgg3
  z3 := Tryz.sizeOf3
  v3 := Tryz.zeroValue3
  t4 := Tryz.underlying4
  a4 := Tryz.isAgg4
  z4 := Tryz.sizeOf4
  v4 := Tryz.zeroValue4
  t5 := Tryz.underlying5
  a5 := Tryz.isAgg5
  z5 := Tryz.sizeOf5
  v5 := Tryz.zeroValue5
  t9 := Tryz.underlying9
  a9 := Tryz.isAgg9
  z9 := Tryz.sizeOf9
  v9 := Tryz.zeroValue9
  t20 := Tryz.underlying20
  a20 := Tryz.isAgg20
  z20 := Tryz.sizeOf20
  v20 := Tryz.zeroValue20
  t37 := Tryz.underlying90
  a37 := Tryz.isAgg90
  z37 := Tryz.sizeOf90
  v37 := Tryz.zeroValue90
  t46 := Tryz.underlying187
  a46 := Tryz.isAgg187
  z46 := Tryz.sizeOf187
  v46 := Tryz.zeroValue187
  t51 := Tryz.underlying185
  a51 := Tryz.isAgg185
  z51 := Tryz.sizeOf185
  v51 := Tryz.zeroValue185
  t53 := Tryz.underlying178
  a53 := Tryz.isAgg178
  z53 := Tryz.sizeOf178
  v53 := Tryz.zeroValue178
  t171 := Tryz.underlying177
  a171 := Tryz.isAgg177
  z171 := Tryz.sizeOf177
  v171 := Tryz.zeroValue177
  t173 := Tryz.underlying181
  a173 := Tryz.isAgg181
  z173 := Tryz.sizeOf181
  v173 := Tryz.zeroValue181
  t212 := Tryz.underlying184
  a212 := Tryz.isAgg184
  z212 := Tryz.sizeOf184
  v212 := Tryz.zeroValue184
  t213 := Tryz.underlying186
  a213 := Tryz.isAgg186
  z213 := Tryz.sizeOf186
  t232 := Tryz.underlying190
  a232 := Tryz.isAgg190
  z232 := Tryz.sizeOf190
  v232 := Tryz.zeroValue190
  t233 := Tryz.underlying191
  a233 := Tryz.isAgg191
  z233 := Tryz.sizeOf191
  v233 := Tryz.zeroValue191
  g17 := by kernel_rfl
  g18 := by kernel_rfl
  g19 := by kernel_rfl
  i0 := by kernel_rfl
  i2 := by kernel_rfl
  i3 := by kernel_rfl
  i4 := by kernel_rfl
  i5 := by kernel_rfl
  i9 := by kernel_rfl
  i20 := by kernel_rfl
  i37 := by kernel_rfl
  i46 := by kernel_rfl
  i51 := by kernel_rfl
  i53 := by kernel_rfl
  i171 := by kernel_rfl
  i173 := by kernel_rfl
  i212 := by kernel_rfl
  i232 := by kernel_rfl
  i233 := by kernel_rfl
  m17 := by kernel_rfl
  m18 := by kernel_rfl
  m19 := by kernel_rfl }
open Go.RowKit Go.Sort Go.Lib in
theorem strconv_Itoa (n : Int) (h0 : -9223372036854775808 ≤ n) (h1 : n ≤ 9223372036854775807) (w : World) (htab : Lib.TabIs Tryz.prog w "internal/strconv.uint64pow10" .u64 Lib.pow10Tab) :
    Calls Tryz.prog 48 #[.int .i64 n] w fun e w' => e = .returned (.string ⟨(Lib.itoa n).toArray⟩) ∧ ∃ k os, w' = grow (w.drewN k) os := Any.strconv_Itoa laysM171 n h0 h1 w htab
end Go.Proofs.YtigbceankmfaeaaGreatDoor.P3.S
