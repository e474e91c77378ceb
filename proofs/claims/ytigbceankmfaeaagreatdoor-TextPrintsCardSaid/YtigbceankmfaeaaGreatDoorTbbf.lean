/-
  Contracts of strconv.Itoa in these words, of userWords and relationWords. What the rows list of the package-level variables, as the walks read it.
-/
import Derived.Test.YtigbceankmfaeaaGreatDoorTbbb
import Derived.Test.YtigbceankmfaeaaGreatDoorTbbe
import Derived.Test.YtigbceankmfaeaaGreatDoorTbae
import Derived.Lib.AppendIntMem
import Derived.Test.YtigbceankmfaeaaGreatDoorRows
import Derived.ProofKit
import Derived.OpenShut
import Derived.Carry
import Derived.LaidMore
import Derived.LaidSub
import Derived.LaidOnce
import Derived.Lib.LaidTab
import Derived.Stop.Joined
namespace Go.Proofs.YtigbceankmfaeaaGreatDoor.P3.C
open Go.RowKit Go.Shelf Go.Proofs.YtigbceankmfaeaaGreatDoor.B Go.Proofs.YtigbceankmfaeaaGreatDoor.Lx Go.Proofs.YtigbceankmfaeaaGreatDoor.P3
/-- The table that strconv.Itoa reads, whatever is done from block B on. -/
abbrev Tab (B : Nat) (w : World) : Prop := Lib.TabBelow Tryz.prog B w "internal/strconv.uint64pow10" .u64 Lib.pow10Tab
theorem dig_lib (n : Nat) : Lib.decDigits n = digL n := by
  induction n using Nat.strongRecOn with
  | ind n ih =>
    rw [Lib.decDigits, digL]
    by_cases h : n < 10
    · rw [dif_pos h, dif_pos h]
    · rw [dif_neg h, dif_neg h, ih (n / 10) (by omega)]
theorem below_grow {B : Nat} {a w : World} (h : Below B a w) (hB : B ≤ w.heap.size) (os : Array Obj) : Below B a (Go.Sort.grow w os) :=
  ⟨h.os, h.tape, h.output, Nat.le_trans h.size (by simp [Go.Sort.grow]), fun k hk => by
    show (w.heap ++ os)[k]? = a.heap[k]?
    rw [Array.getElem?_append_left (by omega)]
    exact h.block k hk⟩
theorem itoa_any (B : Nat) (i : Int) (h0 : 0 ≤ i) (h1 : i ≤ 1048576) (w : World) (ht : Tab B w) :
    Calls Tryz.prog 48 #[.int .i64 i] w fun e w' => e = .returned (sb (digL i.toNat)) ∧ Below w.heap.size w w' := by
  refine (P3.S.strconv_Itoa i (by omega) (by omega) w ht.here).mono ?_
  rintro e w' ⟨rfl, k, os, rfl⟩
  refine ⟨?_, below_grow (below_draws (Below.refl _ _) k) (Nat.le_refl _) os⟩
  rw [Lib.itoa, if_neg (by omega), dig_lib]
theorem cells_new (W : World) (T : TypeId) (xs : List Value) : ∀ j u, xs[j]? = some u → (W.alloc (.cells xs.toArray T)).cell? ((⟨W.heap.size, 0, none⟩ : Addr).add j) = some u := by
  intro j u hj
  have hnw := heap_new W (.cells xs.toArray T)
  rw [Addr.add_lit, Nat.zero_add]
  exact cell_blk hnw (by simpa using hj)
theorem wpList_append_any {P : Program} {w : World} {ops : Array Oper} {rest : List Oper} {o : Oper} {a : Act} {Q : Exit → Act → World → Prop} (hgd : o.guard = none) (s x : Operand) (t : TypeId)
    (ho : o.op = .call { callee := .builtin .append, args := #[s, x], argTypes := #[t, t] })
    (base : Nat) (e : TypeId) (i : TypeInfo) (z : Value) (size bytes : Nat) (ht : P.underlying t = some (.slice e)) (hi : P.info? e = some i) (hz : i.zero = some z)
    (hsize : i.size = size) (hby : i.bytes = bytes) (hzs : z.cells.size = size) (hsz : 0 < size)
    (v : Value) (n : Nat) (xs : List Value) (hs : a.eval s = v) (hown : w.ownsRow base e size v n xs)
    (A : Option Addr) (m c : Nat) (news : List Value) (hx : a.eval x = .slice A m c) (hA : A = none → m = 0 ∧ c = 0) (hl : news.length = m * size) (hnews : Row w A news) (h1 : ∀ u ∈ news, u.oneCell' = true)
    (h63 : n + m ≤ maxLen) (hbytes : (n + m) * bytes ≤ 140737488355328) (hbase : base ≤ w.heap.size)
    (h : ∀ v' w', w'.ownsRow base e size v' (n + m) (xs ++ news) → w.grownBy w' v.ownBlock → wpList P ops Q rest (a.put o.dst v') w') : wpList P ops Q (o :: rest) a w := by
  refine wpList_plain hgd fun K hK => ?_
  exact wp_append_any s x t ho base e i z size bytes ht hi hz hsize hby hzs hsz v n xs hs hown A m c news hx hA hl hnews h1 h63 hbytes hbase (fun v' w' g1 g2 => hK _ _ (h v' w' g1 g2))
set_option maxRecDepth 100000 in
set_option maxHeartbeats 2000000 in
theorem user_words (w : World) (u : Us) (hR : Row w u.ra (u.roles.map Value.string)) (hn : u.roles.length ≤ 1000000) (h0 : u.ra = none → u.roles.length = 0 ∧ u.rc = 0) :
    Calls Tryz.prog 23 #[.agg #[.string u.name, .slice u.ra u.roles.length u.rc, .string u.sub]] w (WdP w (usW u)) := by
  obtain ⟨i0, hi0, hi1, hi2, hi3⟩ := info_parts info_str
  obtain ⟨W, hW⟩ : ∃ W, W = (w.alloc (.cells #[.string u.name, .slice u.ra u.roles.length u.rc, .string u.sub] 51)).alloc (.cells #[sb [117, 115, 101, 114], .string u.name, sb [114, 111, 108, 101, 115]] 9) := ⟨_, rfl⟩
  have hal := (Below.refl w.heap.size w).alloc (Nat.le_refl _) (.cells #[.string u.name, .slice u.ra u.roles.length u.rc, .string u.sub] 51)
  have hb : Below w.heap.size w W := by rw [hW]; exact hal.alloc hal.size _
  have ho : W.ownsRow w.heap.size 9 1 (.slice (some ⟨w.heap.size + 1, 0, none⟩) 3 3) 3 [sb [117, 115, 101, 114], .string u.name, sb [114, 111, 108, 101, 115]] := by
    rw [hW]
    have := own_new (w.alloc (.cells #[.string u.name, .slice u.ra u.roles.length u.rc, .string u.sub] 51)) (B := w.heap.size) (e := 9) (z := 1) (n := 3) (xs := [sb [117, 115, 101, 114], .string u.name, sb [114, 111, 108, 101, 115]]) hal.size rfl (by unfold maxLen; omega)
    rw [World.size_alloc] at this
    exact this
  have hx : W.heap[w.heap.size]? = some (.cells #[.string u.name, .slice u.ra u.roles.length u.rc, .string u.sub] 51 (0, 0)) := by rw [hW]; exact heap_old (by rw [World.size_alloc]; omega) (heap_new _ _)
  have HR := Lib.hid (hR.below (Nat.le_refl _) hb)
  have HO := Lib.hid ho
  have HB := Lib.hid hb
  have HX := Lib.hid hx
  have H0 := Lib.hid h0
  have hWs : W.heap.size = w.heap.size + 1 + 1 := by rw [hW, World.size_alloc, World.size_alloc]
  have C2 := Lib.hid (show ∀ v ∈ u.roles.map Value.string, v.oneCell' = true from by
    intro v hv
    obtain ⟨x, _, rfl⟩ := List.mem_map.1 hv
    rfl)
  have HL : Hid ((u.roles.map Value.string).length = u.roles.length * 1) := Lib.hid (by simp)
  have HU : Hid (usW u = optB ([[117, 115, 101, 114], u.name.toList, [114, 111, 108, 101, 115]] ++ u.roles.map ByteArray.toList) [115, 117, 98] u.sub.toList) := Lib.hid rfl
  have HV : Hid (([[117, 115, 101, 114], u.name.toList, [114, 111, 108, 101, 115]] ++ u.roles.map ByteArray.toList).map sb = [sb [117, 115, 101, 114], .string u.name, sb [114, 111, 108, 101, 115]] ++ u.roles.map Value.string) := Lib.hid (by
    rw [List.map_append, List.map_map]
    have e : (sb ∘ ByteArray.toList) = Value.string := funext sb_of
    rw [e]
    simp [sb_of])
  have HLN : Hid (([[117, 115, 101, 114], u.name.toList, [114, 111, 108, 101, 115]] ++ u.roles.map ByteArray.toList).length = 3 + u.roles.length) := Lib.hid (by simp; omega)
  have HSB := Lib.hid (sb_of u.sub)
  obtain ⟨WL, hWL⟩ : ∃ WL, WL = [[117, 115, 101, 114], u.name.toList, [114, 111, 108, 101, 115]] ++ u.roles.map ByteArray.toList := ⟨_, rfl⟩
  rw [← hWL] at HU HV HLN
  obtain ⟨rv, hrv⟩ : ∃ rv, rv = u.roles.map Value.string := ⟨_, rfl⟩
  rw [← hrv] at HR C2 HL HV
  generalize usW u = uw at *
  obtain ⟨nm, ra, rc, rs, su⟩ := u
  simp only at *
  generalize rs.length = rn at *
  clear hWL hrv hR h0 hb ho hx hal
  go_enter Tryz.func23, Tryz.ntmps23
  go_wp2_with (at_builtin; rw [← hW]; refine wpList_append_any rfl (.tmp 6) (.tmp 8) 49 rfl w.heap.size 9 i0 _ 1 16 Tryz.underlying49 hi0 hi1 hi2 hi3 rfl (by omega) _ _ _ rfl HO.out ra rn rc rv rfl H0.out HL.out HR.out C2.out (by unfold maxLen; omega) (by omega) (by omega) ?_; intro v1 w4 hown' hgrow; refine Hid.out ?_)
  refine Lib.hid ?_
  clear hW
  obtain ⟨pa, pc, rfl⟩ := Go.Proofs.YtigbceankmfaeaaGreatDoor.B.own_slice hown'
  have hx4 := (hgrow.block _ (blk_lt HX.out) (fun e => own_far HO.out HX.out (by decide) e.symm)).trans HX.out
  have HB4 := Lib.hid (HB.out.grown hgrow HB.out.size (fun q hq => (HO.out.lt q hq).1))
  have ho4 : w4.ownsRow w.heap.size 9 1 (.slice pa (3 + rn) pc) WL.length (WL.map sb) := by rw [HLN.out, HV.out]; exact hown'
  have HC := opt_words w.heap.size w4 _ WL [115, 117, 98] su.toList ho4 HB4.out.size (by rw [HLN.out]; omega)
  rw [HSB.out] at HC
  have HCC := Lib.hid HC
  have x0 := cell_blk (i := 2) hx4 rfl
  have hlx := blk_lt hx4
  have HO4 := Lib.hid ho4
  clear hown' hgrow HC ho4 hx4 HO HX HR
  go_wp2_with fail
  refine HCC.out.mono ?_
  rintro e w5 ⟨v5, rfl, h5, g5⟩
  obtain ⟨qa, qc, rfl⟩ := Go.Proofs.YtigbceankmfaeaaGreatDoor.B.own_slice h5
  have HF : Hid (WdP w uw (.returned (.slice qa (optB WL [115, 117, 98] su.toList).length qc)) w5) := Lib.hid ⟨_, rfl, by rw [HU.out]; exact h5, HB4.out.grown g5 HB4.out.size (fun q hq => (HO4.out.lt q hq).1)⟩
  clear HCC h5 g5
  go_wp2_with fail
  go_ret
  exact HF.out
set_option maxRecDepth 100000 in
set_option maxHeartbeats 4000000 in
theorem relation_words (w : World) (r : Rl) (ht : Tab w.heap.size w) (h0 : r.time ≠ untB r.kind → 0 ≤ r.time ∧ r.time ≤ 1048576) :
    Calls Tryz.prog 22 #[.agg #[.int .i64 r.kind, .string r.src, .string r.dst, .int .i64 r.time]] w (WdP w (rlW r)) := by
  obtain ⟨i0, hi0, hi1, hi2, hi3⟩ := info_parts info_str
  obtain ⟨kd, sr, ds, ti⟩ := r
  simp only at h0
  have hal := (Below.refl w.heap.size w).alloc (Nat.le_refl _) (.cells #[.int .i64 kd, .string sr, .string ds, .int .i64 ti] 48)
  have hx := heap_new w (.cells #[.int .i64 kd, .string sr, .string ds, .int .i64 ti] 48)
  obtain ⟨W, hW⟩ : ∃ W, W = w.alloc (.cells #[.int .i64 kd, .string sr, .string ds, .int .i64 ti] 48) := ⟨_, rfl⟩
  obtain ⟨y, hy⟩ : ∃ y, y = w.heap.size := ⟨_, rfl⟩
  rw [← hW] at hal hx
  rw [← hy] at hx
  have hWs : W.heap.size = y + 1 := by rw [hW, World.size_alloc, hy]
  have x0 := cell_blk (i := 0) hx rfl
  have x1 := cell_blk (i := 1) hx rfl
  have x2 := cell_blk (i := 2) hx rfl
  have x3 := cell_blk (i := 3) hx rfl
  have hlx := blk_lt hx
  have HX := Lib.hid hx
  have HB := Lib.hid hal
  have HT := Lib.hid ht
  have HRW : Hid (rlW ⟨kd, sr, ds, ti⟩ = [kwB kd, sr.toList, ds.toList] ++ (if ti = untB kd then [] else [digL ti.toNat])) := Lib.hid rfl
  obtain ⟨kw, hkwd⟩ : ∃ kw : ByteArray, kw = ⟨(kwB kd).toArray⟩ := ⟨_, rfl⟩
  have HK := Lib.hid (kindWord_any kd W.drew)
  rw [← hkwd] at HK
  have HKW := Lib.hid hkwd
  obtain ⟨W2, hW2⟩ : ∃ W2, W2 = (W.alloc (.cells #[.string kw, .string sr, .string ds] 9)).drew := ⟨_, rfl⟩
  have hb2 : Below w.heap.size w W2 := by rw [hW2]; exact below_draws (hal.alloc hal.size _) 1
  have ho2 : W2.ownsRow w.heap.size 9 1 (.slice (some ⟨y + 1, 0, none⟩) 3 3) 3 [.string kw, .string sr, .string ds] := by
    rw [hW2, ← hWs]
    exact own_new W (B := w.heap.size) (e := 9) (z := 1) (n := 3) (xs := [.string kw, .string sr, .string ds]) hal.size rfl (by unfold maxLen; omega)
  have HU := Lib.hid (untold_any kd W2.drew)
  have hx2 : W2.heap[y]? = some (.cells #[.int .i64 kd, .string sr, .string ds, .int .i64 ti] 48 (0, 0)) := by rw [hW2]; exact (heap_old hlx hx : (W.alloc (.cells #[.string kw, .string sr, .string ds] 9)).heap[y]? = _)
  have hlx2 := blk_lt hx2
  have HX2 := Lib.hid hx2
  have HB2 := Lib.hid hb2
  have HO2 := Lib.hid ho2
  have HPO : Hid (∀ v w', w'.ownsRow w.heap.size 9 1 v (rlW ⟨kd, sr, ds, ti⟩).length ((rlW ⟨kd, sr, ds, ti⟩).map sb) → Below w.heap.size w w' → WdP w (rlW ⟨kd, sr, ds, ti⟩) (.returned v) w') := Lib.hid (fun v w' h1 h2 => ⟨v, rfl, h1, h2⟩)
  rw [HRW.out] at HPO
  rw [HRW.out]
  have HM : Hid (([kwB kd, sr.toList, ds.toList] : List (List UInt8)).map sb = [.string kw, .string sr, .string ds]) := Lib.hid (by rw [hkwd]; simp [sb_of])
  have HS : Hid (W2.heap.size = W.heap.size + 1) := Lib.hid (by rw [hW2]; exact World.size_alloc ..)
  by_cases htq : ti = untB kd
  · rw [if_pos htq, List.append_nil] at HPO ⊢
    have hq : (ti == untB kd) = true := by rw [beq_iff_eq]; exact htq
    have HF : Hid (WdP w [kwB kd, sr.toList, ds.toList] (.returned (.slice (some ⟨y + 1, 0, none⟩) 3 3)) W2.drew) := Lib.hid (HPO.out _ _ (by rw [HM.out]; exact ho2) (below_draws hb2 1))
    generalize WdP w [kwB kd, sr.toList, ds.toList] = PO at *
    generalize untB kd = ut at *
    clear hkwd hx hal ht hx2 hb2 ho2 htq h0 HRW HPO
    have x0' := cell_blk (i := 0) HX2.out rfl
    have x3' := cell_blk (i := 3) HX2.out rfl
    go_enter Tryz.func22, Tryz.ntmps22
    go_wp2_with fail
    rw [← hW, ← hy]
    clear hW hy
    refine wp_region_still_tail 7 (by kernel_rfl) (by kernel_rfl) ?_
    simp only [List.take_succ_cons, List.take_zero, List.drop_succ_cons, List.drop_zero]
    iterate 2 still_step
    still_call HK.out
    iterate 4 still_step
    refine wpStill_nil ?_
    go_wp2_with fail
    rw [← hW2]
    clear hW2 x0 x1 x2 x3
    refine wp_region_still_tail 5 (by kernel_rfl) (by kernel_rfl) ?_
    simp only [List.take_succ_cons, List.take_zero, List.drop_succ_cons, List.drop_zero]
    iterate 4 still_step
    still_call HU.out
    refine wpStill_nil ?_
    go_wp2_with fail
    exact HF.out
  · rw [if_neg htq] at HPO ⊢
    have hq : (ti == untB kd) = false := by rw [beq_eq_false_iff_ne]; exact htq
    obtain ⟨t0, t1⟩ := h0 htq
    have HI := Lib.hid (itoa_any w.heap.size ti t0 t1 W2.drew (Lib.TabBelow.on ht (below_draws hb2 1)))
    obtain ⟨da, hda⟩ : ∃ da : ByteArray, da = ⟨(digL ti.toNat).toArray⟩ := ⟨_, rfl⟩
    rw [show sb (digL ti.toNat) = .string da by rw [hda]] at HI
    have HM2 : Hid (([kwB kd, sr.toList, ds.toList] ++ [digL ti.toNat] : List (List UInt8)).map sb = [.string kw, .string sr, .string ds] ++ [.string da]) := Lib.hid (by rw [List.map_append, HM.out, hda]; rfl)
    have HF : Hid (∀ v w', w'.ownsRow w.heap.size 9 1 v (3 + 1) ([.string kw, .string sr, .string ds] ++ [.string da]) → Below w.heap.size w w' → WdP w ([kwB kd, sr.toList, ds.toList] ++ [digL ti.toNat]) (.returned v) w') := Lib.hid (fun v w' h1 h2 => HPO.out v w' (by rw [HM2.out]; exact h1) h2)
    generalize WdP w ([kwB kd, sr.toList, ds.toList] ++ [digL ti.toNat]) = PO at *
    generalize untB kd = ut at *
    clear hkwd hx hal ht hx2 hb2 ho2 htq h0 HRW HPO hda HM HM2 t0 t1
    have x0' := cell_blk (i := 0) HX2.out rfl
    have x3' := cell_blk (i := 3) HX2.out rfl
    go_enter Tryz.func22, Tryz.ntmps22
    go_wp2_with fail
    rw [← hW, ← hy]
    clear hW hy
    refine wp_region_still_tail 7 (by kernel_rfl) (by kernel_rfl) ?_
    simp only [List.take_succ_cons, List.take_zero, List.drop_succ_cons, List.drop_zero]
    iterate 2 still_step
    still_call HK.out
    iterate 4 still_step
    refine wpStill_nil ?_
    go_wp2_with fail
    rw [← hW2]
    clear hW2 x0 x1 x2 x3
    refine wp_region_still_tail 5 (by kernel_rfl) (by kernel_rfl) ?_
    simp only [List.take_succ_cons, List.take_zero, List.drop_succ_cons, List.drop_zero]
    iterate 4 still_step
    still_call HU.out
    refine wpStill_nil ?_
    go_wp2_with fail
    refine HI.out.mono ?_
    rintro e w4 ⟨rfl, hb4⟩
    have HB4 := Lib.hid ((below_draws HB2.out 1).trans (hb4.mono HB2.out.size))
    have HO4 := Lib.hid (Go.Proofs.YtigbceankmfaeaaGreatDoor.B.own_below (w := W2.drew) HO2.out hb4)
    have hB4 := HB4.out.size
    have C1 := Lib.hid (cells_new w4 9 [.string da])
    have C2 := Lib.hid (show ∀ u ∈ ([.string da] : List Value), u.oneCell' = true from by intro u hu; simp at hu; subst hu; rfl)
    clear HI hb4 HB2 HO2 HX2 x0' x3' hlx2 HS HK HU HX hlx HKW
    go_wp2_with (at_builtin; refine wpList_append_own_at _ rfl (.tmp 19) (.tmp 23) 49 rfl w.heap.size 9 i0 _ 1 16 Tryz.underlying49 hi0 hi1 hi2 hi3 rfl (by omega) _ _ _ rfl (HO4.out.alloc _) ⟨w4.heap.size, 0, none⟩ 1 1 [.string da] rfl rfl C1.out C2.out (by unfold maxLen; omega) (by omega) (by rw [World.size_alloc]; omega) ?_)
    intro v5 w5 hown' hgrow _ _
    have HG5 := Lib.hid (HF.out v5 w5 hown' ((HB4.out.alloc hB4 _).grown hgrow (by rw [World.size_alloc]; omega) (fun q hq => (HO4.out.lt q hq).1)))
    obtain ⟨pa, pc, rfl⟩ := Go.Proofs.YtigbceankmfaeaaGreatDoor.B.own_slice hown'
    clear hown' hgrow
    go_wp2_with fail
    exact HG5.out
end Go.Proofs.YtigbceankmfaeaaGreatDoor.P3.C

namespace Go.Proofs.YtigbceankmfaeaaGreatDoor.P3.L
open Go.ChangeShapes Go.WideShapes Go.ChangeAt Go.RowKit
theorem own : ownKnob Tryz.prog.godebug = none := by kernel_rfl
def lay3 : List (String × DataW Unit) := [("math/bits.deBruijn32tab", Rows.laid_math_bits_deBruijn32tab), ("math/bits.deBruijn64tab", Rows.laid_math_bits_deBruijn64tab), ("internal/strconv.uint64pow10", Rows.laid_internal_strconv_uint64pow10)]
def keep1 (x : String × DataW Unit) : Bool := x.1 == "internal/strconv.uint64pow10"
theorem lay1 : lay3.filter keep1 = [("internal/strconv.uint64pow10", Lib.tabData .u64 Lib.pow10Tab)] := by kernel_rfl
theorem gT : Tryz.prog.globalNamed "internal/strconv.uint64pow10" = some 0 := by kernel_rfl
theorem gTType : (Tryz.prog.globals[(0 : Nat)]?).map (·.type) = some 184 := by kernel_rfl
theorem tab_of {W : World} (h : laidMetH Tryz.prog lay3 W) : C.Tab W.heap.size W := by
  have h1 := laidMetH.filter keep1 h
  rw [lay1, MakeChecks.laidMetH_plain _ _ _ (by kernel_rfl)] at h1
  exact Lib.tabBelow_of_tabIs (Lib.tabIs_of_head gT gTType Tryz.underlying184 Tryz.underlying178 (by kernel_rfl) (by kernel_rfl) h1)
theorem door_met (os : Os) (args : Array Value) : laidMetH Tryz.prog lay3 ((World.doorLaid Tryz.prog 24 os).forCall (fun _ _ => 0) ⟨#[], args, []⟩).memory :=
  laidMetH_of_parts3 (fuel := 8) (laidMet_of_run' 8 (by kernel_rfl) (by kernel_rfl)) (by kernel_rfl) (by kernel_rfl)
end Go.Proofs.YtigbceankmfaeaaGreatDoor.P3.L
