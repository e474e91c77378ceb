/-
  Contracts of strconv.Itoa in these words, of userWords and relationWords. What the rows list of the package-level variables, as the walks read it. Contracts of lex.isLetter, isDigit, isInner, run, Name, over any byte and any string. A map from keys to places, as the walks use it; which place a key has first.
-/
import Derived.Test.YtjgcjnkeeiaafaaGreatDoorTcah
import Derived.Test.YtjgcjnkeeiaafaaGreatDoorTcaj
import Derived.Test.YtjgcjnkeeiaafaaGreatDoorTcad
import Derived.Lib.AppendIntMem
import Derived.Test.YtjgcjnkeeiaafaaGreatDoorRows
import Derived.ProofKit
import Derived.OpenShut
import Derived.Carry
import Derived.LaidMore
import Derived.LaidSub
import Derived.LaidOnce
import Derived.Lib.LaidTab
import Derived.Stop.Joined
import Derived.Test.YtjgcjnkeeiaafaaGreatDoorTcaa
import Derived.Test.YtjgcjnkeeiaafaaGreatDoorProg
import Derived.WalkKit
import Derived.WalkSpells
import Derived.WalkLawsBesides
import Derived.Lib.Hide
import Derived.Lib.Strings
import Derived.Maps.OwnIn
import Derived.Maps.OwnSet
import Derived.Maps.Views
import Derived.DeepKeys4
import Derived.MapViews
namespace Go.Proofs.YtjgcjnkeeiaafaaGreatDoor.P3.C
open Go.RowKit Go.Shelf Go.Proofs.YtjgcjnkeeiaafaaGreatDoor.B Go.Proofs.YtjgcjnkeeiaafaaGreatDoor.Lx Go.Proofs.YtjgcjnkeeiaafaaGreatDoor.P3
/-- The table that strconv.Itoa reads, whatever is done from block B on. -/
abbrev Tab (B : Nat) (w : World) : Prop := Lib.TabBelow Tryz.prog B w "internal/strconv.uint64pow10" .u64 Lib.pow10Tab
theorem dig_lib (n : Nat) : Lib.decDigits n = digL n := by
  induction n using Nat.strongRecOn with
  | ind n ih =>
    rw [Lib.decDigits, digL]
    by_cases h : n < 10
    · rw [dif_pos h, dif_pos h]
    · rw [dif_neg h, dif_neg h, ih (n / 10) (by omega)]
theorem below_grow {B : Nat} {a w : World} (h : Below B a w) (hB : B ≤ w.heap.size) (os : Array Obj) : Below B a (Go.Sort.grow w os) :=
  ⟨h.os, h.tape, h.output, Nat.le_trans h.size (by simp [Go.Sort.grow]), fun k hk => by
    show (w.heap ++ os)[k]? = a.heap[k]?
    rw [Array.getElem?_append_left (by omega)]
    exact h.block k hk⟩
theorem itoa_any (B : Nat) (i : Int) (h0 : 0 ≤ i) (h1 : i ≤ 1048576) (w : World) (ht : Tab B w) :
    Calls Tryz.prog 49 #[.int .i64 i] w fun e w' => e = .returned (sb (digL i.toNat)) ∧ Below w.heap.size w w' := by
  refine (P3.S.strconv_Itoa i (by omega) (by omega) w ht.here).mono ?_
  rintro e w' ⟨rfl, k, os, rfl⟩
  refine ⟨?_, below_grow (below_draws (Below.refl _ _) k) (Nat.le_refl _) os⟩
  rw [Lib.itoa, if_neg (by omega), dig_lib]
theorem cells_new (W : World) (T : TypeId) (xs : List Value) : ∀ j u, xs[j]? = some u → (W.alloc (.cells xs.toArray T)).cell? ((⟨W.heap.size, 0, none⟩ : Addr).add j) = some u := by
  intro j u hj
  have hnw := heap_new W (.cells xs.toArray T)
  rw [Addr.add_lit, Nat.zero_add]
  exact cell_blk hnw (by simpa using hj)
theorem wpList_append_any {P : Program} {w : World} {ops : Array Oper} {rest : List Oper} {o : Oper} {a : Act} {Q : Exit → Act → World → Prop} (hgd : o.guard = none) (s x : Operand) (t : TypeId)
    (ho : o.op = .call { callee := .builtin .append, args := #[s, x], argTypes := #[t, t] })
    (base : Nat) (e : TypeId) (i : TypeInfo) (z : Value) (size bytes : Nat) (ht : P.underlying t = some (.slice e)) (hi : P.info? e = some i) (hz : i.zero = some z)
    (hsize : i.size = size) (hby : i.bytes = bytes) (hzs : z.cells.size = size) (hsz : 0 < size)
    (v : Value) (n : Nat) (xs : List Value) (hs : a.eval s = v) (hown : w.ownsRow base e size v n xs)
    (A : Option Addr) (m c : Nat) (news : List Value) (hx : a.eval x = .slice A m c) (hA : A = none → m = 0 ∧ c = 0) (hl : news.length = m * size) (hnews : Row w A news) (h1 : ∀ u ∈ news, u.oneCell' = true)
    (h63 : n + m ≤ maxLen) (hbytes : (n + m) * bytes ≤ 140737488355328) (hbase : base ≤ w.heap.size)
    (h : ∀ v' w', w'.ownsRow base e size v' (n + m) (xs ++ news) → w.grownBy w' v.ownBlock → wpList P ops Q rest (a.put o.dst v') w') : wpList P ops Q (o :: rest) a w := by
  refine wpList_plain hgd fun K hK => ?_
  exact wp_append_any s x t ho base e i z size bytes ht hi hz hsize hby hzs hsz v n xs hs hown A m c news hx hA hl hnews h1 h63 hbytes hbase (fun v' w' g1 g2 => hK _ _ (h v' w' g1 g2))
set_option maxRecDepth 100000 in
set_option maxHeartbeats 2000000 in
theorem user_words (w : World) (u : Us) (hR : Row w u.ra (u.roles.map Value.string)) (hn : u.roles.length ≤ 1000000) (h0 : u.ra = none → u.roles.length = 0 ∧ u.rc = 0) :
    Calls Tryz.prog 24 #[.agg #[.string u.name, .slice u.ra u.roles.length u.rc, .string u.sub]] w (WdP w (usW u)) := by
  obtain ⟨i0, hi0, hi1, hi2, hi3⟩ := info_parts info_str
  obtain ⟨W, hW⟩ : ∃ W, W = (w.alloc (.cells #[.string u.name, .slice u.ra u.roles.length u.rc, .string u.sub] 74)).alloc (.cells #[sb [117, 115, 101, 114], .string u.name, sb [114, 111, 108, 101, 115]] 9) := ⟨_, rfl⟩
  have hal := (Below.refl w.heap.size w).alloc (Nat.le_refl _) (.cells #[.string u.name, .slice u.ra u.roles.length u.rc, .string u.sub] 74)
  have hb : Below w.heap.size w W := by rw [hW]; exact hal.alloc hal.size _
  have ho : W.ownsRow w.heap.size 9 1 (.slice (some ⟨w.heap.size + 1, 0, none⟩) 3 3) 3 [sb [117, 115, 101, 114], .string u.name, sb [114, 111, 108, 101, 115]] := by
    rw [hW]
    have := own_new (w.alloc (.cells #[.string u.name, .slice u.ra u.roles.length u.rc, .string u.sub] 74)) (B := w.heap.size) (e := 9) (z := 1) (n := 3) (xs := [sb [117, 115, 101, 114], .string u.name, sb [114, 111, 108, 101, 115]]) hal.size rfl (by unfold maxLen; omega)
    rw [World.size_alloc] at this
    exact this
  have hx : W.heap[w.heap.size]? = some (.cells #[.string u.name, .slice u.ra u.roles.length u.rc, .string u.sub] 74 (0, 0)) := by rw [hW]; exact heap_old (by rw [World.size_alloc]; omega) (heap_new _ _)
  have HR := Lib.hid (hR.below (Nat.le_refl _) hb)
  have HO := Lib.hid ho
  have HB := Lib.hid hb
  have HX := Lib.hid hx
  have H0 := Lib.hid h0
  have hWs : W.heap.size = w.heap.size + 1 + 1 := by rw [hW, World.size_alloc, World.size_alloc]
  have C2 := Lib.hid (show ∀ v ∈ u.roles.map Value.string, v.oneCell' = true from by
    intro v hv
    obtain ⟨x, _, rfl⟩ := List.mem_map.1 hv
    rfl)
  have HL : Hid ((u.roles.map Value.string).length = u.roles.length * 1) := Lib.hid (by simp)
  have HU : Hid (usW u = optB ([[117, 115, 101, 114], u.name.toList, [114, 111, 108, 101, 115]] ++ u.roles.map ByteArray.toList) [115, 117, 98] u.sub.toList) := Lib.hid rfl
  have HV : Hid (([[117, 115, 101, 114], u.name.toList, [114, 111, 108, 101, 115]] ++ u.roles.map ByteArray.toList).map sb = [sb [117, 115, 101, 114], .string u.name, sb [114, 111, 108, 101, 115]] ++ u.roles.map Value.string) := Lib.hid (by
    rw [List.map_append, List.map_map]
    have e : (sb ∘ ByteArray.toList) = Value.string := funext sb_of
    rw [e]
    simp [sb_of])
  have HLN : Hid (([[117, 115, 101, 114], u.name.toList, [114, 111, 108, 101, 115]] ++ u.roles.map ByteArray.toList).length = 3 + u.roles.length) := Lib.hid (by simp; omega)
  have HSB := Lib.hid (sb_of u.sub)
  obtain ⟨WL, hWL⟩ : ∃ WL, WL = [[117, 115, 101, 114], u.name.toList, [114, 111, 108, 101, 115]] ++ u.roles.map ByteArray.toList := ⟨_, rfl⟩
  rw [← hWL] at HU HV HLN
  obtain ⟨rv, hrv⟩ : ∃ rv, rv = u.roles.map Value.string := ⟨_, rfl⟩
  rw [← hrv] at HR C2 HL HV
  generalize usW u = uw at *
  obtain ⟨nm, ra, rc, rs, su⟩ := u
  simp only at *
  generalize rs.length = rn at *
  clear hWL hrv hR h0 hb ho hx hal
  go_enter Tryz.func24, Tryz.ntmps24
  go_wp2_with (at_builtin; rw [← hW]; refine wpList_append_any rfl (.tmp 6) (.tmp 8) 72 rfl w.heap.size 9 i0 _ 1 16 Tryz.underlying72 hi0 hi1 hi2 hi3 rfl (by omega) _ _ _ rfl HO.out ra rn rc rv rfl H0.out HL.out HR.out C2.out (by unfold maxLen; omega) (by omega) (by omega) ?_; intro v1 w4 hown' hgrow; refine Hid.out ?_)
  refine Lib.hid ?_
  clear hW
  obtain ⟨pa, pc, rfl⟩ := Go.Proofs.YtjgcjnkeeiaafaaGreatDoor.B.own_slice hown'
  have hx4 := (hgrow.block _ (blk_lt HX.out) (fun e => own_far HO.out HX.out (by decide) e.symm)).trans HX.out
  have HB4 := Lib.hid (HB.out.grown hgrow HB.out.size (fun q hq => (HO.out.lt q hq).1))
  have ho4 : w4.ownsRow w.heap.size 9 1 (.slice pa (3 + rn) pc) WL.length (WL.map sb) := by rw [HLN.out, HV.out]; exact hown'
  have HC := opt_words w.heap.size w4 _ WL [115, 117, 98] su.toList ho4 HB4.out.size (by rw [HLN.out]; omega)
  rw [HSB.out] at HC
  have HCC := Lib.hid HC
  have x0 := cell_blk (i := 2) hx4 rfl
  have hlx := blk_lt hx4
  have HO4 := Lib.hid ho4
  clear hown' hgrow HC ho4 hx4 HO HX HR
  go_wp2_with fail
  refine HCC.out.mono ?_
  rintro e w5 ⟨v5, rfl, h5, g5⟩
  obtain ⟨qa, qc, rfl⟩ := Go.Proofs.YtjgcjnkeeiaafaaGreatDoor.B.own_slice h5
  have HF : Hid (WdP w uw (.returned (.slice qa (optB WL [115, 117, 98] su.toList).length qc)) w5) := Lib.hid ⟨_, rfl, by rw [HU.out]; exact h5, HB4.out.grown g5 HB4.out.size (fun q hq => (HO4.out.lt q hq).1)⟩
  clear HCC h5 g5
  go_wp2_with fail
  go_ret
  exact HF.out
set_option maxRecDepth 100000 in
set_option maxHeartbeats 4000000 in
theorem relation_words (w : World) (r : Rl) (ht : Tab w.heap.size w) (h0 : r.time ≠ untB r.kind → 0 ≤ r.time ∧ r.time ≤ 1048576) :
    Calls Tryz.prog 23 #[.agg #[.int .i64 r.kind, .string r.src, .string r.dst, .int .i64 r.time]] w (WdP w (rlW r)) := by
  obtain ⟨i0, hi0, hi1, hi2, hi3⟩ := info_parts info_str
  obtain ⟨kd, sr, ds, ti⟩ := r
  simp only at h0
  have hal := (Below.refl w.heap.size w).alloc (Nat.le_refl _) (.cells #[.int .i64 kd, .string sr, .string ds, .int .i64 ti] 42)
  have hx := heap_new w (.cells #[.int .i64 kd, .string sr, .string ds, .int .i64 ti] 42)
  obtain ⟨W, hW⟩ : ∃ W, W = w.alloc (.cells #[.int .i64 kd, .string sr, .string ds, .int .i64 ti] 42) := ⟨_, rfl⟩
  obtain ⟨y, hy⟩ : ∃ y, y = w.heap.size := ⟨_, rfl⟩
  rw [← hW] at hal hx
  rw [← hy] at hx
  have hWs : W.heap.size = y + 1 := by rw [hW, World.size_alloc, hy]
  have x0 := cell_blk (i := 0) hx rfl
  have x1 := cell_blk (i := 1) hx rfl
  have x2 := cell_blk (i := 2) hx rfl
  have x3 := cell_blk (i := 3) hx rfl
  have hlx := blk_lt hx
  have HX := Lib.hid hx
  have HB := Lib.hid hal
  have HT := Lib.hid ht
  have HRW : Hid (rlW ⟨kd, sr, ds, ti⟩ = [kwB kd, sr.toList, ds.toList] ++ (if ti = untB kd then [] else [digL ti.toNat])) := Lib.hid rfl
  obtain ⟨kw, hkwd⟩ : ∃ kw : ByteArray, kw = ⟨(kwB kd).toArray⟩ := ⟨_, rfl⟩
  have HK := Lib.hid (kindWord_any kd W.drew)
  rw [← hkwd] at HK
  have HKW := Lib.hid hkwd
  obtain ⟨W2, hW2⟩ : ∃ W2, W2 = (W.alloc (.cells #[.string kw, .string sr, .string ds] 9)).drew := ⟨_, rfl⟩
  have hb2 : Below w.heap.size w W2 := by rw [hW2]; exact below_draws (hal.alloc hal.size _) 1
  have ho2 : W2.ownsRow w.heap.size 9 1 (.slice (some ⟨y + 1, 0, none⟩) 3 3) 3 [.string kw, .string sr, .string ds] := by
    rw [hW2, ← hWs]
    exact own_new W (B := w.heap.size) (e := 9) (z := 1) (n := 3) (xs := [.string kw, .string sr, .string ds]) hal.size rfl (by unfold maxLen; omega)
  have HU := Lib.hid (untold_any kd W2.drew)
  have hx2 : W2.heap[y]? = some (.cells #[.int .i64 kd, .string sr, .string ds, .int .i64 ti] 42 (0, 0)) := by rw [hW2]; exact (heap_old hlx hx : (W.alloc (.cells #[.string kw, .string sr, .string ds] 9)).heap[y]? = _)
  have hlx2 := blk_lt hx2
  have HX2 := Lib.hid hx2
  have HB2 := Lib.hid hb2
  have HO2 := Lib.hid ho2
  have HPO : Hid (∀ v w', w'.ownsRow w.heap.size 9 1 v (rlW ⟨kd, sr, ds, ti⟩).length ((rlW ⟨kd, sr, ds, ti⟩).map sb) → Below w.heap.size w w' → WdP w (rlW ⟨kd, sr, ds, ti⟩) (.returned v) w') := Lib.hid (fun v w' h1 h2 => ⟨v, rfl, h1, h2⟩)
  rw [HRW.out] at HPO
  rw [HRW.out]
  have HM : Hid (([kwB kd, sr.toList, ds.toList] : List (List UInt8)).map sb = [.string kw, .string sr, .string ds]) := Lib.hid (by rw [hkwd]; simp [sb_of])
  have HS : Hid (W2.heap.size = W.heap.size + 1) := Lib.hid (by rw [hW2]; exact World.size_alloc ..)
  by_cases htq : ti = untB kd
  · rw [if_pos htq, List.append_nil] at HPO ⊢
    have hq : (ti == untB kd) = true := by rw [beq_iff_eq]; exact htq
    have HF : Hid (WdP w [kwB kd, sr.toList, ds.toList] (.returned (.slice (some ⟨y + 1, 0, none⟩) 3 3)) W2.drew) := Lib.hid (HPO.out _ _ (by rw [HM.out]; exact ho2) (below_draws hb2 1))
    generalize WdP w [kwB kd, sr.toList, ds.toList] = PO at *
    generalize untB kd = ut at *
    clear hkwd hx hal ht hx2 hb2 ho2 htq h0 HRW HPO
    have x0' := cell_blk (i := 0) HX2.out rfl
    have x3' := cell_blk (i := 3) HX2.out rfl
    go_enter Tryz.func23, Tryz.ntmps23
    go_wp2_with fail
    rw [← hW, ← hy]
    clear hW hy
    refine wp_region_still_tail 7 (by kernel_rfl) (by kernel_rfl) ?_
    simp only [List.take_succ_cons, List.take_zero, List.drop_succ_cons, List.drop_zero]
    iterate 2 still_step
    still_call HK.out
    iterate 4 still_step
    refine wpStill_nil ?_
    go_wp2_with fail
    rw [← hW2]
    clear hW2 x0 x1 x2 x3
    refine wp_region_still_tail 5 (by kernel_rfl) (by kernel_rfl) ?_
    simp only [List.take_succ_cons, List.take_zero, List.drop_succ_cons, List.drop_zero]
    iterate 4 still_step
    still_call HU.out
    refine wpStill_nil ?_
    go_wp2_with fail
    exact HF.out
  · rw [if_neg htq] at HPO ⊢
    have hq : (ti == untB kd) = false := by rw [beq_eq_false_iff_ne]; exact htq
    obtain ⟨t0, t1⟩ := h0 htq
    have HI := Lib.hid (itoa_any w.heap.size ti t0 t1 W2.drew (Lib.TabBelow.on ht (below_draws hb2 1)))
    obtain ⟨da, hda⟩ : ∃ da : ByteArray, da = ⟨(digL ti.toNat).toArray⟩ := ⟨_, rfl⟩
    rw [show sb (digL ti.toNat) = .string da by rw [hda]] at HI
    have HM2 : Hid (([kwB kd, sr.toList, ds.toList] ++ [digL ti.toNat] : List (List UInt8)).map sb = [.string kw, .string sr, .string ds] ++ [.string da]) := Lib.hid (by rw [List.map_append, HM.out, hda]; rfl)
    have HF : Hid (∀ v w', w'.ownsRow w.heap.size 9 1 v (3 + 1) ([.string kw, .string sr, .string ds] ++ [.string da]) → Below w.heap.size w w' → WdP w ([kwB kd, sr.toList, ds.toList] ++ [digL ti.toNat]) (.returned v) w') := Lib.hid (fun v w' h1 h2 => HPO.out v w' (by rw [HM2.out]; exact h1) h2)
    generalize WdP w ([kwB kd, sr.toList, ds.toList] ++ [digL ti.toNat]) = PO at *
    generalize untB kd = ut at *
    clear hkwd hx hal ht hx2 hb2 ho2 htq h0 HRW HPO hda HM HM2 t0 t1
    have x0' := cell_blk (i := 0) HX2.out rfl
    have x3' := cell_blk (i := 3) HX2.out rfl
    go_enter Tryz.func23, Tryz.ntmps23
    go_wp2_with fail
    rw [← hW, ← hy]
    clear hW hy
    refine wp_region_still_tail 7 (by kernel_rfl) (by kernel_rfl) ?_
    simp only [List.take_succ_cons, List.take_zero, List.drop_succ_cons, List.drop_zero]
    iterate 2 still_step
    still_call HK.out
    iterate 4 still_step
    refine wpStill_nil ?_
    go_wp2_with fail
    rw [← hW2]
    clear hW2 x0 x1 x2 x3
    refine wp_region_still_tail 5 (by kernel_rfl) (by kernel_rfl) ?_
    simp only [List.take_succ_cons, List.take_zero, List.drop_succ_cons, List.drop_zero]
    iterate 4 still_step
    still_call HU.out
    refine wpStill_nil ?_
    go_wp2_with fail
    refine HI.out.mono ?_
    rintro e w4 ⟨rfl, hb4⟩
    have HB4 := Lib.hid ((below_draws HB2.out 1).trans (hb4.mono HB2.out.size))
    have HO4 := Lib.hid (Go.Proofs.YtjgcjnkeeiaafaaGreatDoor.B.own_below (w := W2.drew) HO2.out hb4)
    have hB4 := HB4.out.size
    have C1 := Lib.hid (cells_new w4 9 [.string da])
    have C2 := Lib.hid (show ∀ u ∈ ([.string da] : List Value), u.oneCell' = true from by intro u hu; simp at hu; subst hu; rfl)
    clear HI hb4 HB2 HO2 HX2 x0' x3' hlx2 HS HK HU HX hlx HKW
    go_wp2_with (at_builtin; refine wpList_append_own_at _ rfl (.tmp 19) (.tmp 23) 72 rfl w.heap.size 9 i0 _ 1 16 Tryz.underlying72 hi0 hi1 hi2 hi3 rfl (by omega) _ _ _ rfl (HO4.out.alloc _) ⟨w4.heap.size, 0, none⟩ 1 1 [.string da] rfl rfl C1.out C2.out (by unfold maxLen; omega) (by omega) (by rw [World.size_alloc]; omega) ?_)
    intro v5 w5 hown' hgrow _ _
    have HG5 := Lib.hid (HF.out v5 w5 hown' ((HB4.out.alloc hB4 _).grown hgrow (by rw [World.size_alloc]; omega) (fun q hq => (HO4.out.lt q hq).1)))
    obtain ⟨pa, pc, rfl⟩ := Go.Proofs.YtjgcjnkeeiaafaaGreatDoor.B.own_slice hown'
    clear hown' hgrow
    go_wp2_with fail
    exact HG5.out
end Go.Proofs.YtjgcjnkeeiaafaaGreatDoor.P3.C

namespace Go.Proofs.YtjgcjnkeeiaafaaGreatDoor.P3.L
open Go.ChangeShapes Go.WideShapes Go.ChangeAt Go.RowKit
theorem own : ownKnob Tryz.prog.godebug = none := by kernel_rfl
def lay3 : List (String × DataW Unit) := [("math/bits.deBruijn32tab", Rows.laid_math_bits_deBruijn32tab), ("math/bits.deBruijn64tab", Rows.laid_math_bits_deBruijn64tab), ("internal/strconv.uint64pow10", Rows.laid_internal_strconv_uint64pow10)]
def keep1 (x : String × DataW Unit) : Bool := x.1 == "internal/strconv.uint64pow10"
theorem lay1 : lay3.filter keep1 = [("internal/strconv.uint64pow10", Lib.tabData .u64 Lib.pow10Tab)] := by kernel_rfl
theorem gT : Tryz.prog.globalNamed "internal/strconv.uint64pow10" = some 0 := by kernel_rfl
theorem gTType : (Tryz.prog.globals[(0 : Nat)]?).map (·.type) = some 182 := by kernel_rfl
theorem tab_of {W : World} (h : laidMetH Tryz.prog lay3 W) : C.Tab W.heap.size W := by
  have h1 := laidMetH.filter keep1 h
  rw [lay1, MakeChecks.laidMetH_plain _ _ _ (by kernel_rfl)] at h1
  exact Lib.tabBelow_of_tabIs (Lib.tabIs_of_head gT gTType Tryz.underlying182 Tryz.underlying176 (by kernel_rfl) (by kernel_rfl) h1)
theorem door_met (os : Os) (args : Array Value) : laidMetH Tryz.prog lay3 ((World.doorLaid Tryz.prog 24 os).forCall (fun _ _ => 0) ⟨#[], args, []⟩).memory :=
  laidMetH_of_parts3 (fuel := 8) (laidMet_of_run' 8 (by kernel_rfl) (by kernel_rfl)) (by kernel_rfl) (by kernel_rfl)
end Go.Proofs.YtjgcjnkeeiaafaaGreatDoor.P3.L

namespace Go.Proofs.YtjgcjnkeeiaafaaGreatDoor
open Go.RowKit
theorem ret_bool {a b : Bool} (h : a = b) : Ending.returned (.bool a) = .returned (.bool b) := by rw [h]
set_option maxHeartbeats 400000 in
theorem isLetter_any (c : UInt8) (w : World) : Calls Tryz.prog 105 #[.int .u8 c.toNat] w fun e w' => e = .returned (.bool (letB c)) ∧ w = w' := by
  go_enter Tryz.func105, Tryz.ntmps105
  go_wp2
  all_goals go_ret
  all_goals exact ⟨ret_bool (by rw [Bool.eq_iff_iff]; simp [letB]; omega), rfl⟩
set_option maxHeartbeats 400000 in
theorem isDigit_any (c : UInt8) (w : World) : Calls Tryz.prog 106 #[.int .u8 c.toNat] w fun e w' => e = .returned (.bool (digB c)) ∧ w = w' := by
  go_enter Tryz.func106, Tryz.ntmps106
  go_wp2
  all_goals go_ret
  all_goals exact ⟨ret_bool (by rw [Bool.eq_iff_iff]; simp [digB]; omega), rfl⟩
set_option maxHeartbeats 400000 in
theorem isInner_any (c : UInt8) (w : World) : Calls Tryz.prog 104 #[.int .u8 c.toNat] w fun e w' => e = .returned (.bool (innB c)) ∧ w = w' := by
  go_enter Tryz.func104, Tryz.ntmps104
  go_wp2_with (first
    | (go_at_call 105; refine (isLetter_any _ _).mono ?_; rintro e w' ⟨rfl, rfl⟩)
    | (go_at_call 106; refine (isDigit_any _ _).mono ?_; rintro e w' ⟨rfl, rfl⟩))
  all_goals go_ret
  all_goals exact ⟨ret_bool (by rw [Bool.eq_iff_iff]; simp [innB, *]; try omega), rfl⟩
/-- run: all that a word could take. -/
def RunOf (s : ByteArray) (w : World) (e : Ending) (w' : World) : Prop := ∃ t : ByteArray, e = .returned (.string t) ∧ t.data.toList = runL s.data.toList ∧ w = w'
theorem bytes_len (s : ByteArray) : s.data.toList.length = s.size := by simp
theorem bytes_pre (s : ByteArray) (k : Nat) : (s.extract 0 k).data.toList = s.data.toList.take k := by simp
theorem run_ends {s : ByteArray} {k : Nat} {w : World} (hr : k ≤ (runL s.data.toList).length) (hs : ∀ hk : k < s.size, innB s[k] = false) : RunOf s w (.returned (.string (s.extract 0 k))) w :=
  ⟨_, rfl, by rw [bytes_pre]; exact (run_stop _ _ hr fun hk => hs (by simpa using hk)).symm, rfl⟩
set_option maxHeartbeats 400000 in
theorem run_any (s : ByteArray) (w : World) (hs : s.size ≤ 140737488355328) : Calls Tryz.prog 62 #[.string s] w (RunOf s w) := by
  go_enter Tryz.func62, Tryz.ntmps62
  go_wp2
  go_loop [3] (fun i => ∃ k : Nat, k ≤ s.size ∧ i = .int .i64 k ∧ k ≤ (runL s.data.toList).length) (fun i => s.size - (intOf i).toNat)
  case atStart => exact ⟨0, Nat.zero_le _, rfl, Nat.zero_le _⟩
  case round =>
    obtain ⟨k, hk, rfl, hr⟩ := hrel
    by_cases hlt : k < s.size
    · cases hin : innB s[k] with
      | true =>
        have hr' : k + 1 ≤ (runL s.data.toList).length := run_step _ k (by simpa using hlt) hin hr
        go_wp2_with (first
          | (go_at_call 104; refine (isInner_any _ _).mono ?_; rintro e w' ⟨rfl, rfl⟩))
        go_round
        case rel => exact ⟨k + 1, hlt, by go_num, hr'⟩
        case measure => simp [intOf]; omega
      | false =>
        have HF : RunOf s w (.returned (.string (s.extract 0 k))) w := run_ends hr fun _ => hin
        go_wp2_with (first
          | (go_at_call 104; refine (isInner_any _ _).mono ?_; rintro e w' ⟨rfl, rfl⟩))
        go_ret
        exact HF
    · have HF : RunOf s w (.returned (.string (s.extract 0 k))) w := run_ends hr fun h => absurd h hlt
      go_wp2_with fail
      go_ret
      exact HF
theorem full_facts {s : ByteArray} (h : 0 < s.size) : ¬ s.toList = [] ∧ s.toList.isEmpty = false := by
  rw [Lib.size_eq, ← Lib.toList_data] at h
  cases hl : s.toList with
  | nil => rw [hl] at h; simp at h
  | cons c r => simp
theorem empty_facts {s : ByteArray} (h : ¬ 0 < s.size) : s.toList = [] ∧ s.toList.isEmpty = true := by
  rw [Lib.size_eq, ← Lib.toList_data] at h
  cases hl : s.toList with
  | nil => simp
  | cons c r => rw [hl] at h; simp at h
theorem bytes_cons {s : ByteArray} (h : 0 < s.size) : s.data.toList = s[0] :: s.data.toList.tail := by
  have h' : 0 < s.data.toList.length := by simpa using h
  have := List.drop_eq_getElem_cons h'
  rw [List.drop_zero] at this
  rw [this]; rfl
theorem name_none {s : ByteArray} (h : ¬ 0 < s.size) : nameL s.data.toList = false := by
  rw [← Lib.toList_data, (empty_facts h).1]; rfl
theorem name_long {s : ByteArray} (h : ¬ s.size ≤ 20) : nameL s.data.toList = false := by
  have h0 : 0 < s.size := by omega
  have hl := bytes_len s
  rw [bytes_cons h0] at hl ⊢
  simp only [List.length_cons] at hl
  have : ¬ s.data.toList.tail.length < 20 := by omega
  rw [nameL, decide_eq_false this, Bool.false_and, Bool.false_and]
theorem name_first {s : ByteArray} (h0 : 0 < s.size) (h : letB s[0] = false) : nameL s.data.toList = false := by
  rw [bytes_cons h0]; simp [nameL, h]
theorem runL_full (l : List UInt8) : (runL l).length = l.length ↔ l.all innB = true := by
  induction l with
  | nil => simp [runL]
  | cons c r ih =>
    by_cases hc : innB c = true
    · rw [runL_cons c r hc]; simp [hc, ih]
    · rw [runL_none c r (by simpa using hc)]; simp [hc]
theorem name_all {s t : ByteArray} (h0 : 0 < s.size) (h1 : s.size ≤ 20) (h : letB s[0] = true) (ht : t.data.toList = runL s.data.toList) : ((t.size : Int) == (s.size : Int)) = nameL s.data.toList := by
  have hl := bytes_len s
  have hf := runL_full s.data.toList
  have hi : innB s[0] = true := by simp [innB, h]
  rw [Lib.size_eq t, ht, ← hl]
  rw [bytes_cons h0] at hf hl ⊢
  simp only [List.length_cons] at hl
  have : s.data.toList.tail.length < 20 := by omega
  simp only [List.all_cons, hi, Bool.true_and] at hf
  simp only [nameL, h, Bool.and_true]
  rw [decide_eq_true this, Bool.true_and]
  rw [Bool.eq_iff_iff, beq_iff_eq, ← hf]
  omega
set_option maxHeartbeats 400000 in
theorem name_any (s : ByteArray) (w : World) (hs : s.size ≤ 140737488355328) : Calls Tryz.prog 63 #[.string s] w fun e w' => e = .returned (.bool (nameL s.data.toList)) ∧ w = w' := by
  by_cases h0 : 0 < s.size
  · obtain ⟨f1, f2⟩ := full_facts h0
    by_cases h1 : s.size ≤ 20
    · cases hin : letB s[0] with
      | true =>
        go_enter Tryz.func63, Tryz.ntmps63
        go_wp2_with (first
          | (go_at_call 105; refine (isLetter_any _ _).mono ?_; rintro e w' ⟨rfl, rfl⟩)
          | (go_at_call 62; refine (run_any _ _ hs).mono ?_; rintro e w' ⟨t, rfl, ht, rfl⟩; have HT := Lib.hid ht; clear ht))
        go_ret
        exact ⟨ret_bool (name_all h0 h1 hin HT.out), rfl⟩
      | false =>
        have HN := Lib.hid (name_first h0 hin)
        go_enter Tryz.func63, Tryz.ntmps63
        go_wp2_with (first
          | (go_at_call 105; refine (isLetter_any _ _).mono ?_; rintro e w' ⟨rfl, rfl⟩))
        go_ret
        exact ⟨ret_bool HN.out.symm, rfl⟩
    · have HN := Lib.hid (name_long h1)
      go_enter Tryz.func63, Tryz.ntmps63
      go_wp2_with fail
      go_ret
      exact ⟨ret_bool HN.out.symm, rfl⟩
  · obtain ⟨f1, f2⟩ := empty_facts h0
    have HN := Lib.hid (name_none h0)
    go_enter Tryz.func63, Tryz.ntmps63
    go_wp2_with fail
    go_ret
    exact ⟨ret_bool HN.out.symm, rfl⟩
end Go.Proofs.YtjgcjnkeeiaafaaGreatDoor

namespace Go.Proofs.YtjgcjnkeeiaafaaGreatDoor
open Go.RowKit
noncomputable instance litDec : DecidableEq Lit := fun _ _ => Classical.propDecidable _
/-- Block b is a map of ints that holds, at each key, what f says. -/
def MapFn (w : World) (P : Program) (k e : TypeId) (b n : Nat) (f : Lit → Option Nat) : Prop :=
  ∃ D : DataW Unit, w.ownsMap P k (plainElem P e) b n D ∧ ∀ l, WideAt.IsKeyLit l → Maps.has D l = (f l).isSome ∧ D.atKey l (.lit (.int .i64 0)) = .lit (.int .i64 (((f l).getD 0 : Nat) : Int))
theorem MapFn.lt {w : World} {P : Program} {k e : TypeId} {b n : Nat} {f : Lit → Option Nat} (h : MapFn w P k e b n f) : b < w.heap.size := by obtain ⟨D, h, _⟩ := h; exact h.lt
theorem MapFn.made (w : World) (P : Program) (k e : TypeId) : MapFn (w.alloc (.map #[] 0)) P k e w.heap.size 0 (fun _ => none) :=
  ⟨.map [], World.ownsMap_made w P k _, fun _ _ => ⟨rfl, rfl⟩⟩
theorem MapFn.of_own {w : World} {P : Program} {k e : TypeId} {b n : Nat} {f : Lit → Option Nat} {D : DataW Unit} {kl : Lit} {i : Nat} (hf : ∀ l, WideAt.IsKeyLit l → Maps.has D l = (f l).isSome ∧ D.atKey l (.lit (.int .i64 0)) = .lit (.int .i64 (((f l).getD 0 : Nat) : Int)))
    (hD : Maps.IsMap D) (hk : WideAt.IsKeyLit kl) (h : w.ownsMap P k (plainElem P e) b n (D.put kl (.lit (.int .i64 (i : Int))))) : MapFn w P k e b n (fun l => if l = kl then some i else f l) := by
  refine ⟨_, h, fun l hl => ?_⟩
  by_cases e : l = kl
  · subst e
    simp only [if_true]
    exact ⟨by rw [Maps.has_put_same hD hk]; rfl, by rw [Maps.atKey_put_same hD hk]; rfl⟩
  · simp only [if_neg e]
    exact ⟨by rw [Maps.has_put_other e]; exact (hf l hl).1, by rw [Maps.atKey_put_other e]; exact (hf l hl).2⟩
theorem MapFn.block {w w' : World} {P : Program} {k e : TypeId} {b n : Nat} {f : Lit → Option Nat} (h : MapFn w P k e b n f) (hb : w'.heap[b]? = w.heap[b]?) : MapFn w' P k e b n f := by
  obtain ⟨D, ⟨es, clock, h1, h2⟩, h3⟩ := h
  exact ⟨D, ⟨es, clock, hb.trans h1, h2⟩, h3⟩
theorem MapFn.below {w w' : World} {P : Program} {k e : TypeId} {b n : Nat} {f : Lit → Option Nat} (h : MapFn w P k e b n f) {B : Nat} (hB : w.heap.size ≤ B) (hb : Below B w w') : MapFn w' P k e b n f :=
  h.block (hb.block b (by have := h.lt; omega))
theorem MapFn.look {w : World} {P : Program} {k e t : TypeId} {b n : Nat} {f : Lit → Option Nat} (h : MapFn w P k e b n f) (K : Maps.Keyed P k) (ht : P.underlying t = some (.map k e)) (he : P.underlying e = some (.int .i64)) (hz : (zeroValue e).run P w = .ok (.int .i64 0) w)
    {key : Value} {kl : Lit} (hkey : keyOf P k key = some kl) : (Instr.lookup t (.map (some b)) key false).run P w = .ok (.int .i64 (((f kl).getD 0 : Nat) : Int)) w := by
  obtain ⟨D, h, hf⟩ := h
  obtain ⟨c, h1, h2, _⟩ := h.lookup_int K ht he hz hkey
  rw [(hf kl (K.key hkey)).2] at h2
  cases h2
  exact h1
theorem MapFn.look_ok {w : World} {P : Program} {k e t : TypeId} {b n : Nat} {f : Lit → Option Nat} (h : MapFn w P k e b n f) (K : Maps.Keyed P k) (ht : P.underlying t = some (.map k e)) (he : P.underlying e = some (.int .i64)) (hz : (zeroValue e).run P w = .ok (.int .i64 0) w)
    {key : Value} {kl : Lit} (hkey : keyOf P k key = some kl) : (Instr.lookup t (.map (some b)) key true).run P w = .ok (.tuple #[.int .i64 (((f kl).getD 0 : Nat) : Int), .bool (f kl).isSome]) w := by
  obtain ⟨D, h, hf⟩ := h
  obtain ⟨v, ps, h1, h2⟩ := h.look_ok K ht hz (plainElem_int he (by decide)) hkey
  obtain ⟨c, rfl, h3, _⟩ := plainElem_int_inv he h2
  rw [(hf kl (K.key hkey)).1] at h1
  have h4 := congrArg Prod.fst h3
  simp only at h4
  rw [(hf kl (K.key hkey)).2] at h4
  cases h4
  exact h1
noncomputable def firstOf (ls : List Lit) (l : Lit) : Option Nat := ls.findIdx? (fun x => decide (x = l))
theorem firstOf_map {α : Type} [BEq α] [LawfulBEq α] (h : α → Lit) (k : α) : ∀ (ks : List α) (_ : ∀ x ∈ ks, h x = h k → x = k), firstOf (ks.map h) (h k) = if ks.contains k then some (ks.idxOf k) else none
  | [], _ => rfl
  | x :: r, hk => by
    have ih := firstOf_map h k r (fun y hy => hk y (by simp [hy]))
    unfold firstOf at ih ⊢
    rw [List.map_cons, List.findIdx?_cons, ih]
    by_cases e : x = k
    · subst e; simp
    · have e' : h x ≠ h k := fun e' => e (hk x (by simp) e')
      have e2 : (x == k) = false := by simpa using e
      have e3 : (k == x) = false := by simpa using (fun e' => e e'.symm : ¬ k = x)
      simp only [e', decide_false, Bool.false_eq_true, if_false, List.contains_cons, e3, Bool.false_or, List.idxOf_cons, e2, cond_false]
      cases r.contains k <;> simp
/-- The last of some places, as they came, that has a key. -/
noncomputable def lastF {n : Nat} (f : Fin n → Lit) (pre : List (Fin n)) (l : Lit) : Option Nat := pre.foldl (fun o i => if f i = l then some i.val else o) none
theorem lastF_snoc {n : Nat} (f : Fin n → Lit) (pre : List (Fin n)) (i : Fin n) : lastF f (pre ++ [i]) = fun l => if l = f i then some i.val else lastF f pre l := by
  funext l
  unfold lastF
  rw [List.foldl_append]
  by_cases e : f i = l
  · subst e; simp
  · have e' : ¬ l = f i := fun h => e h.symm
    simp only [List.foldl_cons, List.foldl_nil, if_neg e]
    rw [if_neg e']
theorem foldr_succ {α : Type} (p : α → Prop) [DecidablePred p] (h : α → Nat) : ∀ L : List α, L.foldr (fun i o => if p i then some (h i + 1) else o) none = (L.foldr (fun i o => if p i then some (h i) else o) none).map (· + 1)
  | [] => rfl
  | x :: r => by
    rw [List.foldr_cons, List.foldr_cons, foldr_succ p h r]
    by_cases e : p x
    · simp [e]
    · simp [e]
theorem foldr_first (l : Lit) : ∀ (n : Nat) (f : Fin n → Lit), (List.finRange n).foldr (fun i o => if f i = l then some i.val else o) none = firstOf (List.ofFn f) l
  | 0, _ => rfl
  | n + 1, f => by
    have ih := foldr_first l n (fun i => f i.succ)
    rw [List.finRange_succ, List.foldr_cons, List.foldr_map, List.ofFn_succ]
    have e1 : (List.foldr (fun (i : Fin n) (o : Option Nat) => if f i.succ = l then some i.succ.val else o) none (List.finRange n)) = (firstOf (List.ofFn fun i => f i.succ) l).map (· + 1) := by
      rw [← ih, ← foldr_succ (fun i : Fin n => f i.succ = l) (fun i => i.val)]
      rfl
    rw [e1]
    unfold firstOf
    rw [List.findIdx?_cons]
    by_cases e : f 0 = l
    · simp [e]
    · simp [e]
theorem lastF_all {α : Type} (key : α → Lit) (l : List α) : lastF (fun i : Fin l.length => key l[i]) (List.finRange l.length).reverse = firstOf (l.map key) := by
  funext k
  unfold lastF
  rw [List.foldl_reverse, foldr_first k l.length (fun i => key l[i])]
  have e : List.ofFn (fun i : Fin l.length => l[i]) = l := List.ofFn_getElem
  have e2 : List.ofFn (fun i : Fin l.length => key l[i]) = l.map key := by
    conv => rhs; rw [← e, List.map_ofFn]
    rfl
  rw [e2]
theorem down_step {n m : Nat} (h : m < n) : ((List.finRange n).drop m).reverse = ((List.finRange n).drop (m + 1)).reverse ++ [⟨m, h⟩] := by
  rw [List.drop_eq_getElem_cons (by simpa using h), List.reverse_cons]
  simp
end Go.Proofs.YtjgcjnkeeiaafaaGreatDoor
