/-
  Contracts of strconv.Itoa in these words, of userWords and relationWords. What the rows list of the package-level variables, as the walks read it. Where a statement begins: the place that Check tells lies within the part's beginnings; contract of begin. strings.Builder over this program: the library's contracts laid at this program's numbers by hand.
-/
import Derived.Test.YtigbceankmfaeaaGreatDoorTaba
import Derived.Test.YtigbceankmfaeaaGreatDoorTabb
import Derived.Test.YtigbceankmfaeaaGreatDoorTabd
import Derived.Test.YtigbceankmfaeaaGreatDoorTaaf
import Derived.Lib.AppendIntMem
import Derived.Test.YtigbceankmfaeaaGreatDoorRows
import Derived.ProofKit
import Derived.OpenShut
import Derived.Carry
import Derived.LaidMore
import Derived.LaidSub
import Derived.LaidOnce
import Derived.Lib.LaidTab
import Derived.Stop.Joined
import Derived.Shelf.Strings.BuilderK
import Derived.Test.YtigbceankmfaeaaGreatDoorProg
namespace Go.Proofs.YtigbceankmfaeaaGreatDoor.P3.C
open Go.RowKit Go.Shelf Go.Proofs.YtigbceankmfaeaaGreatDoor.B Go.Proofs.YtigbceankmfaeaaGreatDoor.Lx Go.Proofs.YtigbceankmfaeaaGreatDoor.P3
/-- The table that strconv.Itoa reads, whatever is done from block B on. -/
abbrev Tab (B : Nat) (w : World) : Prop := Lib.TabBelow Tryz.prog B w "internal/strconv.uint64pow10" .u64 Lib.pow10Tab
theorem dig_lib (n : Nat) : Lib.decDigits n = digL n := by
  induction n using Nat.strongRecOn with
  | ind n ih =>
    rw [Lib.decDigits, digL]
    by_cases h : n < 10
    · rw [dif_pos h, dif_pos h]
    · rw [dif_neg h, dif_neg h, ih (n / 10) (by omega)]
theorem below_grow {B : Nat} {a w : World} (h : Below B a w) (hB : B ≤ w.heap.size) (os : Array Obj) : Below B a (Go.Sort.grow w os) :=
  ⟨h.os, h.tape, h.output, Nat.le_trans h.size (by simp [Go.Sort.grow]), fun k hk => by
    show (w.heap ++ os)[k]? = a.heap[k]?
    rw [Array.getElem?_append_left (by omega)]
    exact h.block k hk⟩
theorem itoa_any (B : Nat) (i : Int) (h0 : 0 ≤ i) (h1 : i ≤ 1048576) (w : World) (ht : Tab B w) :
    Calls Tryz.prog 48 #[.int .i64 i] w fun e w' => e = .returned (sb (digL i.toNat)) ∧ Below w.heap.size w w' := by
  refine (P3.S.strconv_Itoa i (by omega) (by omega) w ht.here).mono ?_
  rintro e w' ⟨rfl, k, os, rfl⟩
  refine ⟨?_, below_grow (below_draws (Below.refl _ _) k) (Nat.le_refl _) os⟩
  rw [Lib.itoa, if_neg (by omega), dig_lib]
theorem cells_new (W : World) (T : TypeId) (xs : List Value) : ∀ j u, xs[j]? = some u → (W.alloc (.cells xs.toArray T)).cell? ((⟨W.heap.size, 0, none⟩ : Addr).add j) = some u := by
  intro j u hj
  have hnw := heap_new W (.cells xs.toArray T)
  rw [Addr.add_lit, Nat.zero_add]
  exact cell_blk hnw (by simpa using hj)
theorem wpList_append_any {P : Program} {w : World} {ops : Array Oper} {rest : List Oper} {o : Oper} {a : Act} {Q : Exit → Act → World → Prop} (hgd : o.guard = none) (s x : Operand) (t : TypeId)
    (ho : o.op = .call { callee := .builtin .append, args := #[s, x], argTypes := #[t, t] })
    (base : Nat) (e : TypeId) (i : TypeInfo) (z : Value) (size bytes : Nat) (ht : P.underlying t = some (.slice e)) (hi : P.info? e = some i) (hz : i.zero = some z)
    (hsize : i.size = size) (hby : i.bytes = bytes) (hzs : z.cells.size = size) (hsz : 0 < size)
    (v : Value) (n : Nat) (xs : List Value) (hs : a.eval s = v) (hown : w.ownsRow base e size v n xs)
    (A : Option Addr) (m c : Nat) (news : List Value) (hx : a.eval x = .slice A m c) (hA : A = none → m = 0 ∧ c = 0) (hl : news.length = m * size) (hnews : Row w A news) (h1 : ∀ u ∈ news, u.oneCell' = true)
    (h63 : n + m ≤ maxLen) (hbytes : (n + m) * bytes ≤ 140737488355328) (hbase : base ≤ w.heap.size)
    (h : ∀ v' w', w'.ownsRow base e size v' (n + m) (xs ++ news) → w.grownBy w' v.ownBlock → wpList P ops Q rest (a.put o.dst v') w') : wpList P ops Q (o :: rest) a w := by
  refine wpList_plain hgd fun K hK => ?_
  exact wp_append_any s x t ho base e i z size bytes ht hi hz hsize hby hzs hsz v n xs hs hown A m c news hx hA hl hnews h1 h63 hbytes hbase (fun v' w' g1 g2 => hK _ _ (h v' w' g1 g2))
set_option maxRecDepth 100000 in
set_option maxHeartbeats 2000000 in
theorem user_words (w : World) (u : Us) (hR : Row w u.ra (u.roles.map Value.string)) (hn : u.roles.length ≤ 1000000) (h0 : u.ra = none → u.roles.length = 0 ∧ u.rc = 0) :
    Calls Tryz.prog 23 #[.agg #[.string u.name, .slice u.ra u.roles.length u.rc, .string u.sub]] w (WdP w (usW u)) := by
  obtain ⟨i0, hi0, hi1, hi2, hi3⟩ := info_parts info_str
  obtain ⟨W, hW⟩ : ∃ W, W = (w.alloc (.cells #[.string u.name, .slice u.ra u.roles.length u.rc, .string u.sub] 51)).alloc (.cells #[sb [117, 115, 101, 114], .string u.name, sb [114, 111, 108, 101, 115]] 9) := ⟨_, rfl⟩
  have hal := (Below.refl w.heap.size w).alloc (Nat.le_refl _) (.cells #[.string u.name, .slice u.ra u.roles.length u.rc, .string u.sub] 51)
  have hb : Below w.heap.size w W := by rw [hW]; exact hal.alloc hal.size _
  have ho : W.ownsRow w.heap.size 9 1 (.slice (some ⟨w.heap.size + 1, 0, none⟩) 3 3) 3 [sb [117, 115, 101, 114], .string u.name, sb [114, 111, 108, 101, 115]] := by
    rw [hW]
    have := own_new (w.alloc (.cells #[.string u.name, .slice u.ra u.roles.length u.rc, .string u.sub] 51)) (B := w.heap.size) (e := 9) (z := 1) (n := 3) (xs := [sb [117, 115, 101, 114], .string u.name, sb [114, 111, 108, 101, 115]]) hal.size rfl (by unfold maxLen; omega)
    rw [World.size_alloc] at this
    exact this
  have hx : W.heap[w.heap.size]? = some (.cells #[.string u.name, .slice u.ra u.roles.length u.rc, .string u.sub] 51 (0, 0)) := by rw [hW]; exact heap_old (by rw [World.size_alloc]; omega) (heap_new _ _)
  have HR := Lib.hid (hR.below (Nat.le_refl _) hb)
  have HO := Lib.hid ho
  have HB := Lib.hid hb
  have HX := Lib.hid hx
  have H0 := Lib.hid h0
  have hWs : W.heap.size = w.heap.size + 1 + 1 := by rw [hW, World.size_alloc, World.size_alloc]
  have C2 := Lib.hid (show ∀ v ∈ u.roles.map Value.string, v.oneCell' = true from by
    intro v hv
    obtain ⟨x, _, rfl⟩ := List.mem_map.1 hv
    rfl)
  have HL : Hid ((u.roles.map Value.string).length = u.roles.length * 1) := Lib.hid (by simp)
  have HU : Hid (usW u = optB ([[117, 115, 101, 114], u.name.toList, [114, 111, 108, 101, 115]] ++ u.roles.map ByteArray.toList) [115, 117, 98] u.sub.toList) := Lib.hid rfl
  have HV : Hid (([[117, 115, 101, 114], u.name.toList, [114, 111, 108, 101, 115]] ++ u.roles.map ByteArray.toList).map sb = [sb [117, 115, 101, 114], .string u.name, sb [114, 111, 108, 101, 115]] ++ u.roles.map Value.string) := Lib.hid (by
    rw [List.map_append, List.map_map]
    have e : (sb ∘ ByteArray.toList) = Value.string := funext sb_of
    rw [e]
    simp [sb_of])
  have HLN : Hid (([[117, 115, 101, 114], u.name.toList, [114, 111, 108, 101, 115]] ++ u.roles.map ByteArray.toList).length = 3 + u.roles.length) := Lib.hid (by simp; omega)
  have HSB := Lib.hid (sb_of u.sub)
  obtain ⟨WL, hWL⟩ : ∃ WL, WL = [[117, 115, 101, 114], u.name.toList, [114, 111, 108, 101, 115]] ++ u.roles.map ByteArray.toList := ⟨_, rfl⟩
  rw [← hWL] at HU HV HLN
  obtain ⟨rv, hrv⟩ : ∃ rv, rv = u.roles.map Value.string := ⟨_, rfl⟩
  rw [← hrv] at HR C2 HL HV
  generalize usW u = uw at *
  obtain ⟨nm, ra, rc, rs, su⟩ := u
  simp only at *
  generalize rs.length = rn at *
  clear hWL hrv hR h0 hb ho hx hal
  go_enter Tryz.func23, Tryz.ntmps23
  go_wp2_with (at_builtin; rw [← hW]; refine wpList_append_any rfl (.tmp 6) (.tmp 8) 49 rfl w.heap.size 9 i0 _ 1 16 Tryz.underlying49 hi0 hi1 hi2 hi3 rfl (by omega) _ _ _ rfl HO.out ra rn rc rv rfl H0.out HL.out HR.out C2.out (by unfold maxLen; omega) (by omega) (by omega) ?_; intro v1 w4 hown' hgrow; refine Hid.out ?_)
  refine Lib.hid ?_
  clear hW
  obtain ⟨pa, pc, rfl⟩ := Go.Proofs.YtigbceankmfaeaaGreatDoor.B.own_slice hown'
  have hx4 := (hgrow.block _ (blk_lt HX.out) (fun e => own_far HO.out HX.out (by decide) e.symm)).trans HX.out
  have HB4 := Lib.hid (HB.out.grown hgrow HB.out.size (fun q hq => (HO.out.lt q hq).1))
  have ho4 : w4.ownsRow w.heap.size 9 1 (.slice pa (3 + rn) pc) WL.length (WL.map sb) := by rw [HLN.out, HV.out]; exact hown'
  have HC := opt_words w.heap.size w4 _ WL [115, 117, 98] su.toList ho4 HB4.out.size (by rw [HLN.out]; omega)
  rw [HSB.out] at HC
  have HCC := Lib.hid HC
  have x0 := cell_blk (i := 2) hx4 rfl
  have hlx := blk_lt hx4
  have HO4 := Lib.hid ho4
  clear hown' hgrow HC ho4 hx4 HO HX HR
  go_wp2_with fail
  refine HCC.out.mono ?_
  rintro e w5 ⟨v5, rfl, h5, g5⟩
  obtain ⟨qa, qc, rfl⟩ := Go.Proofs.YtigbceankmfaeaaGreatDoor.B.own_slice h5
  have HF : Hid (WdP w uw (.returned (.slice qa (optB WL [115, 117, 98] su.toList).length qc)) w5) := Lib.hid ⟨_, rfl, by rw [HU.out]; exact h5, HB4.out.grown g5 HB4.out.size (fun q hq => (HO4.out.lt q hq).1)⟩
  clear HCC h5 g5
  go_wp2_with fail
  go_ret
  exact HF.out
set_option maxRecDepth 100000 in
set_option maxHeartbeats 4000000 in
theorem relation_words (w : World) (r : Rl) (ht : Tab w.heap.size w) (h0 : r.time ≠ untB r.kind → 0 ≤ r.time ∧ r.time ≤ 1048576) :
    Calls Tryz.prog 22 #[.agg #[.int .i64 r.kind, .string r.src, .string r.dst, .int .i64 r.time]] w (WdP w (rlW r)) := by
  obtain ⟨i0, hi0, hi1, hi2, hi3⟩ := info_parts info_str
  obtain ⟨kd, sr, ds, ti⟩ := r
  simp only at h0
  have hal := (Below.refl w.heap.size w).alloc (Nat.le_refl _) (.cells #[.int .i64 kd, .string sr, .string ds, .int .i64 ti] 48)
  have hx := heap_new w (.cells #[.int .i64 kd, .string sr, .string ds, .int .i64 ti] 48)
  obtain ⟨W, hW⟩ : ∃ W, W = w.alloc (.cells #[.int .i64 kd, .string sr, .string ds, .int .i64 ti] 48) := ⟨_, rfl⟩
  obtain ⟨y, hy⟩ : ∃ y, y = w.heap.size := ⟨_, rfl⟩
  rw [← hW] at hal hx
  rw [← hy] at hx
  have hWs : W.heap.size = y + 1 := by rw [hW, World.size_alloc, hy]
  have x0 := cell_blk (i := 0) hx rfl
  have x1 := cell_blk (i := 1) hx rfl
  have x2 := cell_blk (i := 2) hx rfl
  have x3 := cell_blk (i := 3) hx rfl
  have hlx := blk_lt hx
  have HX := Lib.hid hx
  have HB := Lib.hid hal
  have HT := Lib.hid ht
  have HRW : Hid (rlW ⟨kd, sr, ds, ti⟩ = [kwB kd, sr.toList, ds.toList] ++ (if ti = untB kd then [] else [digL ti.toNat])) := Lib.hid rfl
  obtain ⟨kw, hkwd⟩ : ∃ kw : ByteArray, kw = ⟨(kwB kd).toArray⟩ := ⟨_, rfl⟩
  have HK := Lib.hid (kindWord_any kd W.drew)
  rw [← hkwd] at HK
  have HKW := Lib.hid hkwd
  obtain ⟨W2, hW2⟩ : ∃ W2, W2 = (W.alloc (.cells #[.string kw, .string sr, .string ds] 9)).drew := ⟨_, rfl⟩
  have hb2 : Below w.heap.size w W2 := by rw [hW2]; exact below_draws (hal.alloc hal.size _) 1
  have ho2 : W2.ownsRow w.heap.size 9 1 (.slice (some ⟨y + 1, 0, none⟩) 3 3) 3 [.string kw, .string sr, .string ds] := by
    rw [hW2, ← hWs]
    exact own_new W (B := w.heap.size) (e := 9) (z := 1) (n := 3) (xs := [.string kw, .string sr, .string ds]) hal.size rfl (by unfold maxLen; omega)
  have HU := Lib.hid (untold_any kd W2.drew)
  have hx2 : W2.heap[y]? = some (.cells #[.int .i64 kd, .string sr, .string ds, .int .i64 ti] 48 (0, 0)) := by rw [hW2]; exact (heap_old hlx hx : (W.alloc (.cells #[.string kw, .string sr, .string ds] 9)).heap[y]? = _)
  have hlx2 := blk_lt hx2
  have HX2 := Lib.hid hx2
  have HB2 := Lib.hid hb2
  have HO2 := Lib.hid ho2
  have HPO : Hid (∀ v w', w'.ownsRow w.heap.size 9 1 v (rlW ⟨kd, sr, ds, ti⟩).length ((rlW ⟨kd, sr, ds, ti⟩).map sb) → Below w.heap.size w w' → WdP w (rlW ⟨kd, sr, ds, ti⟩) (.returned v) w') := Lib.hid (fun v w' h1 h2 => ⟨v, rfl, h1, h2⟩)
  rw [HRW.out] at HPO
  rw [HRW.out]
  have HM : Hid (([kwB kd, sr.toList, ds.toList] : List (List UInt8)).map sb = [.string kw, .string sr, .string ds]) := Lib.hid (by rw [hkwd]; simp [sb_of])
  have HS : Hid (W2.heap.size = W.heap.size + 1) := Lib.hid (by rw [hW2]; exact World.size_alloc ..)
  by_cases htq : ti = untB kd
  · rw [if_pos htq, List.append_nil] at HPO ⊢
    have hq : (ti == untB kd) = true := by rw [beq_iff_eq]; exact htq
    have HF : Hid (WdP w [kwB kd, sr.toList, ds.toList] (.returned (.slice (some ⟨y + 1, 0, none⟩) 3 3)) W2.drew) := Lib.hid (HPO.out _ _ (by rw [HM.out]; exact ho2) (below_draws hb2 1))
    generalize WdP w [kwB kd, sr.toList, ds.toList] = PO at *
    generalize untB kd = ut at *
    clear hkwd hx hal ht hx2 hb2 ho2 htq h0 HRW HPO
    have x0' := cell_blk (i := 0) HX2.out rfl
    have x3' := cell_blk (i := 3) HX2.out rfl
    go_enter Tryz.func22, Tryz.ntmps22
    go_wp2_with fail
    rw [← hW, ← hy]
    clear hW hy
    refine wp_region_still_tail 7 (by kernel_rfl) (by kernel_rfl) ?_
    simp only [List.take_succ_cons, List.take_zero, List.drop_succ_cons, List.drop_zero]
    iterate 2 still_step
    still_call HK.out
    iterate 4 still_step
    refine wpStill_nil ?_
    go_wp2_with fail
    rw [← hW2]
    clear hW2 x0 x1 x2 x3
    refine wp_region_still_tail 5 (by kernel_rfl) (by kernel_rfl) ?_
    simp only [List.take_succ_cons, List.take_zero, List.drop_succ_cons, List.drop_zero]
    iterate 4 still_step
    still_call HU.out
    refine wpStill_nil ?_
    go_wp2_with fail
    exact HF.out
  · rw [if_neg htq] at HPO ⊢
    have hq : (ti == untB kd) = false := by rw [beq_eq_false_iff_ne]; exact htq
    obtain ⟨t0, t1⟩ := h0 htq
    have HI := Lib.hid (itoa_any w.heap.size ti t0 t1 W2.drew (Lib.TabBelow.on ht (below_draws hb2 1)))
    obtain ⟨da, hda⟩ : ∃ da : ByteArray, da = ⟨(digL ti.toNat).toArray⟩ := ⟨_, rfl⟩
    rw [show sb (digL ti.toNat) = .string da by rw [hda]] at HI
    have HM2 : Hid (([kwB kd, sr.toList, ds.toList] ++ [digL ti.toNat] : List (List UInt8)).map sb = [.string kw, .string sr, .string ds] ++ [.string da]) := Lib.hid (by rw [List.map_append, HM.out, hda]; rfl)
    have HF : Hid (∀ v w', w'.ownsRow w.heap.size 9 1 v (3 + 1) ([.string kw, .string sr, .string ds] ++ [.string da]) → Below w.heap.size w w' → WdP w ([kwB kd, sr.toList, ds.toList] ++ [digL ti.toNat]) (.returned v) w') := Lib.hid (fun v w' h1 h2 => HPO.out v w' (by rw [HM2.out]; exact h1) h2)
    generalize WdP w ([kwB kd, sr.toList, ds.toList] ++ [digL ti.toNat]) = PO at *
    generalize untB kd = ut at *
    clear hkwd hx hal ht hx2 hb2 ho2 htq h0 HRW HPO hda HM HM2 t0 t1
    have x0' := cell_blk (i := 0) HX2.out rfl
    have x3' := cell_blk (i := 3) HX2.out rfl
    go_enter Tryz.func22, Tryz.ntmps22
    go_wp2_with fail
    rw [← hW, ← hy]
    clear hW hy
    refine wp_region_still_tail 7 (by kernel_rfl) (by kernel_rfl) ?_
    simp only [List.take_succ_cons, List.take_zero, List.drop_succ_cons, List.drop_zero]
    iterate 2 still_step
    still_call HK.out
    iterate 4 still_step
    refine wpStill_nil ?_
    go_wp2_with fail
    rw [← hW2]
    clear hW2 x0 x1 x2 x3
    refine wp_region_still_tail 5 (by kernel_rfl) (by kernel_rfl) ?_
    simp only [List.take_succ_cons, List.take_zero, List.drop_succ_cons, List.drop_zero]
    iterate 4 still_step
    still_call HU.out
    refine wpStill_nil ?_
    go_wp2_with fail
    refine HI.out.mono ?_
    rintro e w4 ⟨rfl, hb4⟩
    have HB4 := Lib.hid ((below_draws HB2.out 1).trans (hb4.mono HB2.out.size))
    have HO4 := Lib.hid (Go.Proofs.YtigbceankmfaeaaGreatDoor.B.own_below (w := W2.drew) HO2.out hb4)
    have hB4 := HB4.out.size
    have C1 := Lib.hid (cells_new w4 9 [.string da])
    have C2 := Lib.hid (show ∀ u ∈ ([.string da] : List Value), u.oneCell' = true from by intro u hu; simp at hu; subst hu; rfl)
    clear HI hb4 HB2 HO2 HX2 x0' x3' hlx2 HS HK HU HX hlx HKW
    go_wp2_with (at_builtin; refine wpList_append_own_at _ rfl (.tmp 19) (.tmp 23) 49 rfl w.heap.size 9 i0 _ 1 16 Tryz.underlying49 hi0 hi1 hi2 hi3 rfl (by omega) _ _ _ rfl (HO4.out.alloc _) ⟨w4.heap.size, 0, none⟩ 1 1 [.string da] rfl rfl C1.out C2.out (by unfold maxLen; omega) (by omega) (by rw [World.size_alloc]; omega) ?_)
    intro v5 w5 hown' hgrow _ _
    have HG5 := Lib.hid (HF.out v5 w5 hown' ((HB4.out.alloc hB4 _).grown hgrow (by rw [World.size_alloc]; omega) (fun q hq => (HO4.out.lt q hq).1)))
    obtain ⟨pa, pc, rfl⟩ := Go.Proofs.YtigbceankmfaeaaGreatDoor.B.own_slice hown'
    clear hown' hgrow
    go_wp2_with fail
    exact HG5.out
end Go.Proofs.YtigbceankmfaeaaGreatDoor.P3.C

namespace Go.Proofs.YtigbceankmfaeaaGreatDoor.P3.L
open Go.ChangeShapes Go.WideShapes Go.ChangeAt Go.RowKit
theorem own : ownKnob Tryz.prog.godebug = none := by kernel_rfl
def lay3 : List (String × DataW Unit) := [("math/bits.deBruijn32tab", Rows.laid_math_bits_deBruijn32tab), ("math/bits.deBruijn64tab", Rows.laid_math_bits_deBruijn64tab), ("internal/strconv.uint64pow10", Rows.laid_internal_strconv_uint64pow10)]
def keep1 (x : String × DataW Unit) : Bool := x.1 == "internal/strconv.uint64pow10"
theorem lay1 : lay3.filter keep1 = [("internal/strconv.uint64pow10", Lib.tabData .u64 Lib.pow10Tab)] := by kernel_rfl
theorem gT : Tryz.prog.globalNamed "internal/strconv.uint64pow10" = some 0 := by kernel_rfl
theorem gTType : (Tryz.prog.globals[(0 : Nat)]?).map (·.type) = some 184 := by kernel_rfl
theorem tab_of {W : World} (h : laidMetH Tryz.prog lay3 W) : C.Tab W.heap.size W := by
  have h1 := laidMetH.filter keep1 h
  rw [lay1, MakeChecks.laidMetH_plain _ _ _ (by kernel_rfl)] at h1
  exact Lib.tabBelow_of_tabIs (Lib.tabIs_of_head gT gTType Tryz.underlying184 Tryz.underlying178 (by kernel_rfl) (by kernel_rfl) h1)
theorem door_met (os : Os) (args : Array Value) : laidMetH Tryz.prog lay3 ((World.doorLaid Tryz.prog 24 os).forCall (fun _ _ => 0) ⟨#[], args, []⟩).memory :=
  laidMetH_of_parts3 (fuel := 8) (laidMet_of_run' 8 (by kernel_rfl) (by kernel_rfl)) (by kernel_rfl) (by kernel_rfl)
end Go.Proofs.YtigbceankmfaeaaGreatDoor.P3.L

namespace Go.Proofs.YtigbceankmfaeaaGreatDoor.P3.C
open Go.RowKit Go.Shelf Go.Proofs.YtigbceankmfaeaaGreatDoor.B Go.Proofs.YtigbceankmfaeaaGreatDoor.Lx Go.Proofs.YtigbceankmfaeaaGreatDoor.P3
theorem tellL_lt {f : Nat → Nat} : ∀ {n i e : Nat}, tellL f n = some (i, e) → i < n
  | 0, i, e, h => by simp [tellL] at h
  | n + 1, i, e, h => by
    rw [tellL] at h
    cases hq : tellL f n with
    | some x =>
      rw [hq] at h
      simp only [Option.some.injEq] at h
      have := tellL_lt (f := f) (n := n) (i := i) (e := e) (by rw [hq, h])
      omega
    | none =>
      rw [hq] at h
      by_cases h0 : f n = 0
      · simp [h0] at h
      · simp [h0] at h; omega
/-- A place tells a part, and what is of that part. -/
def PlOk (c : St) (n1 n2 n3 n4 : Nat) : Prop := c.2.2 = 0 ∨ c.1 = 0 ∨ (c.1 = 1 ∧ c.2.1 < n1) ∨ (c.1 = 2 ∧ c.2.1 < n2) ∨ (c.1 = 3 ∧ c.2.1 < n3) ∨ (c.1 = 4 ∧ c.2.1 < n4)
theorem tellS_cases (s : St) (p : Nat) (f : Nat → Nat) (n : Nat) : tellS s p f n = s ∨ ((tellS s p f n).1 = p ∧ (tellS s p f n).2.1 < n) := by
  unfold tellS
  by_cases h : s.2.2 = 0
  · rw [if_pos h]
    cases hq : tellL f n with
    | none => exact .inl rfl
    | some x => exact .inr ⟨rfl, tellL_lt (i := x.1) (e := x.2) hq⟩
  · rw [if_neg h]; exact .inl rfl
theorem check_place (g : Gr) : PlOk (checkL g) g.gs.length g.es.length g.rs.length g.us.length := by
  unfold checkL
  rcases tellS_cases (tellS (tellS (tellS (tellS (0, 0, 0) 0 (fun _ => limitE g) 1) 1 (groupE g) g.gs.length) 2 (eventE g) g.es.length) 3 (relE g) g.rs.length) 4 (userE g) g.us.length with h | h
  · rw [h]
    rcases tellS_cases (tellS (tellS (tellS (0, 0, 0) 0 (fun _ => limitE g) 1) 1 (groupE g) g.gs.length) 2 (eventE g) g.es.length) 3 (relE g) g.rs.length with h | h
    · rw [h]
      rcases tellS_cases (tellS (tellS (0, 0, 0) 0 (fun _ => limitE g) 1) 1 (groupE g) g.gs.length) 2 (eventE g) g.es.length with h | h
      · rw [h]
        rcases tellS_cases (tellS (0, 0, 0) 0 (fun _ => limitE g) 1) 1 (groupE g) g.gs.length with h | h
        · rw [h]
          rcases tellS_cases (0, 0, 0) 0 (fun _ => limitE g) 1 with h | h
          · rw [h]; exact .inl rfl
          · exact .inr (.inl h.1)
        · exact .inr (.inr (.inl h))
      · exact .inr (.inr (.inr (.inl h)))
    · exact .inr (.inr (.inr (.inr (.inl h))))
  · exact .inr (.inr (.inr (.inr (.inr h))))
set_option maxRecDepth 100000 in
set_option maxHeartbeats 2000000 in
theorem begin_any (wB W : World) (bw : Nat) (v0 v1 v2 v3 : Value) (G : List Gp) (E : List Ev) (R : List Rl) (U : List Us) (s : Nat → Value) (bl : Nat → List Int) (h : WH wB bw v0 v1 v2 v3 G E R U s bl W) (p i : Nat) (hp : p < 5) (hi : p ≠ 0 → i < (bl p).length) :
    Calls Tryz.prog 29 #[.pointer (some ⟨bw, 0, none⟩), .agg #[.int .i64 (p : Int), .int .i64 (i : Int)]] W fun e w' => e = .returned (.int .i64 (if p = 0 then 0 else (bl p)[i]!)) ∧ Below W.heap.size W w' := by
  have hal : Below W.heap.size W (W.alloc (.cells #[.int .i64 (p : Int), .int .i64 (i : Int)] 53)) := (Below.refl _ _).alloc (Nat.le_refl _) _
  by_cases h0 : p = 0
  · subst h0
    clear hi h
    go_enter Tryz.func29, Tryz.ntmps29
    go_wp2_with fail
    go_ret
    exact ⟨rfl, hal⟩
  · have hi' := hi h0
    have HR := Lib.hid (show (if p = 0 then (0 : Int) else (bl p)[i]!) = (bl p)[i]! from if_neg h0)
    have h1 := h.call hal
    obtain ⟨sa, sc, hs⟩ := Go.Proofs.YtigbceankmfaeaaGreatDoor.B.own_slice (h1.st p hp)
    have hsc := h1.sc hp
    have hrow := h1.st p hp
    rw [hs] at hsc hrow
    have hr := Row.of_own hrow
    obtain ⟨bq, off, rfl, hbq, hcell⟩ := hr (fun e => by rw [List.map_eq_nil_iff] at e; rw [e] at hi'; simp at hi')
    have hc := hcell i (.int .i64 (bl p)[i]!) (by rw [List.getElem?_map, List.getElem?_eq_getElem hi', getElem!_pos (bl p) i hi']; rfl)
    have hlw := h1.lt
    have hn := heap_new W (.cells #[.int .i64 (p : Int), .int .i64 (i : Int)] 53)
    have hp0 : (0 : Int) ≤ (p : Int) := Int.natCast_nonneg _
    have hp1 : (p : Int) < 5 := by omega
    have hpz : ((p : Int) == 0) = false := by rw [beq_eq_false_iff_ne]; omega
    have hi0 : (0 : Int) ≤ (i : Int) := Int.natCast_nonneg _
    have hi1 : (i : Int) < ((bl p).length : Int) := by omega
    have HA := Lib.hid hal
    obtain ⟨W1, hW1⟩ : ∃ W1, W1 = W.alloc (.cells #[.int .i64 (p : Int), .int .i64 (i : Int)] 53) := ⟨_, rfl⟩
    obtain ⟨x, hx⟩ : ∃ x, x = W.heap.size := ⟨_, rfl⟩
    rw [← hW1] at hsc hc hlw hbq HA hn
    rw [← hx] at hn
    have n0 := cell_blk (i := 0) hn rfl
    have n1 := cell_blk (i := 1) hn rfl
    have hxl := blk_lt hn
    clear hi h h1 hs hrow hr hcell hal hn
    generalize (bl p)[i]! = z at *
    generalize (bl p).length = ln at *
    go_enter Tryz.func29, Tryz.ntmps29
    go_wp2_with fail
    rw [← hW1, ← hx]
    clear hW1 hx
    go_quiet (fail)
    go_wp2_with fail
    go_ret
    exact ⟨ret_i64 rfl, below_draws HA.out _⟩
end Go.Proofs.YtigbceankmfaeaaGreatDoor.P3.C

namespace Go.Proofs.YtigbceankmfaeaaGreatDoor
open Go.Shelf Go.RowKit
def bldRen : Go.Shelf.Ren := ⟨fun | 240 => 67 | 276 => 106 | 166 => 37 | 167 => 36 | 169 => 38 | n => n,
  fun | 0 => 0 | 3 => 3 | 4 => 4 | 5 => 5 | 9 => 9 | 20 => 20 | 37 => 90 | 70 => 89 | 72 => 92 | 75 => 94 | 80 => 98 | 127 => 123 | 164 => 145 | n => n, fun | n => n⟩
theorem lays166 : Lays.n166 Tryz.prog bldRen := {
  mixed := by kernel_rfl
  f166 := Tryz.func37.trans (congrArg some (by kernel_rfl))
  f240 := Tryz.func67.trans (congrArg some (by kernel_rfl))
  f276 := Tryz.func106.trans (congrArg some (by kernel_rfl))
  t0 := Tryz.underlying0
  a0 := Tryz.isAgg0
  z0 := Tryz.sizeOf0
  v0 := Tryz.zeroValue0
  t3 := Tryz.underlying3
  a3 := Tryz.isAgg3
  z3 := Tryz.sizeOf3
  v3 := Tryz.zeroValue3
  t4 := Tryz.underlying4
  a4 := Tryz.isAgg4
  z4 := Tryz.sizeOf4
  v4 := Tryz.zeroValue4
  t9 := Tryz.underlying9
  a9 := Tryz.isAgg9
  z9 := Tryz.sizeOf9
  v9 := Tryz.zeroValue9
  t20 := Tryz.underlying20
  a20 := Tryz.isAgg20
  z20 := Tryz.sizeOf20
  v20 := Tryz.zeroValue20
  t37 := Tryz.underlying90
  a37 := Tryz.isAgg90
  z37 := Tryz.sizeOf90
  v37 := Tryz.zeroValue90
  t70 := Tryz.underlying89
  a70 := Tryz.isAgg89
  z70 := Tryz.sizeOf89
  v70 := Tryz.zeroValue89
  t72 := Tryz.underlying92
  a72 := Tryz.isAgg92
  z72 := Tryz.sizeOf92
  v72 := Tryz.zeroValue92
  t75 := Tryz.underlying94
  a75 := Tryz.isAgg94
  z75 := Tryz.sizeOf94
  v75 := Tryz.zeroValue94
  t164 := Tryz.underlying145
  a164 := Tryz.isAgg145
  z164 := Tryz.sizeOf145
  v164 := Tryz.zeroValue145 }
theorem lays167 : Lays.n167 Tryz.prog bldRen := {
  mixed := by kernel_rfl
  f167 := Tryz.func36.trans (congrArg some (by kernel_rfl))
  f240 := Tryz.func67.trans (congrArg some (by kernel_rfl))
  f276 := Tryz.func106.trans (congrArg some (by kernel_rfl))
  t0 := Tryz.underlying0
  a0 := Tryz.isAgg0
  z0 := Tryz.sizeOf0
  v0 := Tryz.zeroValue0
  t4 := Tryz.underlying4
  a4 := Tryz.isAgg4
  z4 := Tryz.sizeOf4
  v4 := Tryz.zeroValue4
  t5 := Tryz.underlying5
  a5 := Tryz.isAgg5
  z5 := Tryz.sizeOf5
  v5 := Tryz.zeroValue5
  t9 := Tryz.underlying9
  a9 := Tryz.isAgg9
  z9 := Tryz.sizeOf9
  v9 := Tryz.zeroValue9
  t20 := Tryz.underlying20
  a20 := Tryz.isAgg20
  z20 := Tryz.sizeOf20
  v20 := Tryz.zeroValue20
  t37 := Tryz.underlying90
  a37 := Tryz.isAgg90
  z37 := Tryz.sizeOf90
  v37 := Tryz.zeroValue90
  t70 := Tryz.underlying89
  a70 := Tryz.isAgg89
  z70 := Tryz.sizeOf89
  v70 := Tryz.zeroValue89
  t72 := Tryz.underlying92
  a72 := Tryz.isAgg92
  z72 := Tryz.sizeOf92
  v72 := Tryz.zeroValue92
  t75 := Tryz.underlying94
  a75 := Tryz.isAgg94
  z75 := Tryz.sizeOf94
  v75 := Tryz.zeroValue94
  t164 := Tryz.underlying145
  a164 := Tryz.isAgg145
  z164 := Tryz.sizeOf145
  v164 := Tryz.zeroValue145 }
theorem lays169 : Lays.n169 Tryz.prog bldRen := {
  mixed := by kernel_rfl
  f169 := Tryz.func38.trans (congrArg some (by kernel_rfl))
  t0 := Tryz.underlying0
  a0 := Tryz.isAgg0
  z0 := Tryz.sizeOf0
  v0 := Tryz.zeroValue0
  t3 := Tryz.underlying3
  a3 := Tryz.isAgg3
  z3 := Tryz.sizeOf3
  v3 := Tryz.zeroValue3
  t9 := Tryz.underlying9
  a9 := Tryz.isAgg9
  z9 := Tryz.sizeOf9
  v9 := Tryz.zeroValue9
  t37 := Tryz.underlying90
  a37 := Tryz.isAgg90
  z37 := Tryz.sizeOf90
  v37 := Tryz.zeroValue90
  t70 := Tryz.underlying89
  a70 := Tryz.isAgg89
  z70 := Tryz.sizeOf89
  v70 := Tryz.zeroValue89
  t72 := Tryz.underlying92
  a72 := Tryz.isAgg92
  z72 := Tryz.sizeOf92
  v72 := Tryz.zeroValue92
  t127 := Tryz.underlying123
  a127 := Tryz.isAgg123
  z127 := Tryz.sizeOf123
  v127 := Tryz.zeroValue123 }
theorem bldExtra : Builder.Extra Tryz.prog bldRen := {
  sizeBuilder := by kernel_rfl
  liesBuilder := by kernel_rfl
  t5 := Tryz.underlying5
  a5 := Tryz.isAgg5
  z5 := Tryz.sizeOf5
  v5 := Tryz.zeroValue5
  infoByte := by kernel_rfl
  cellsByte := by kernel_rfl
  sizeByte := by kernel_rfl
  neB5 := by decide }
theorem bld_byte (B b : Nat) (bs : List Value) (c : Int) (w : World) (h : Lib.IsBuilderF 92 5 B b bs w) (hlen : bs.length + 1 ≤ 140737488355328) (hBw : B ≤ w.heap.size) :
    Calls Tryz.prog 36 #[.pointer (some ⟨b, 0, none⟩), .int .u8 c] w fun e w' => e = .returned .nilIface ∧ (Lib.BuilderAtF 92 5 B b (.pointer (some ⟨b, 0, none⟩)) (bs ++ [.int .u8 c]) w' ∧ Below B w w' ∧ Lib.OthersKept 5 (some b) w w') :=
  Any.Builder_WriteByte_k lays167 bldExtra B b bs c w h hlen hBw
theorem bld_string (B b : Nat) (bs : List Value) (s : ByteArray) (w : World) (h : Lib.IsBuilderF 92 5 B b bs w) (hlen : bs.length + s.size ≤ 140737488355328) (hBw : B ≤ w.heap.size) :
    Calls Tryz.prog 37 #[.pointer (some ⟨b, 0, none⟩), .string s] w fun e w' => e = .returned (.tuple #[.int .i64 s.size, .nilIface]) ∧ (Lib.BuilderAtF 92 5 B b (.pointer (some ⟨b, 0, none⟩)) (bs ++ Lib.strCells s) w' ∧ Below B w w' ∧ Lib.OthersKept 5 (some b) w w') :=
  Any.Builder_WriteString_k lays166 bldExtra B b bs s w h hlen hBw
theorem bld_told (B b : Nat) (l : List UInt8) (w : World) (h : Lib.IsBuilderF 92 5 B b (Lib.byteCells l) w) (hBw : B ≤ w.heap.size) :
    Calls Tryz.prog 38 #[.pointer (some ⟨b, 0, none⟩)] w fun e w' => e = .returned (.string ⟨l.toArray⟩) ∧ (Lib.IsBuilderF 92 5 B b (Lib.byteCells l) w' ∧ Below B w w' ∧ Lib.OthersKept 5 (some b) w w') :=
  Any.Builder_String_any_k lays169 bldExtra B b l w h hBw
end Go.Proofs.YtigbceankmfaeaaGreatDoor
