/-
  StaffBack: of every graph, every user and role, the law answers true, and its arguments read as they did. Conditions: none. Lists of who is away; who stands for a holder, plainly.
-/
import Derived.Test.YtahhhhacoigpmaaSabf
import Derived.Test.YtahhhhacoigpmaaChecked
import Derived.Test.YtahhhhacoigpmaaRows
import Derived.ProofKit
import Derived.OpenShut
import Derived.ShutString
namespace Go.Proofs.Ytahhhhacoigpmaa.SBack
open Go.ChangeShapes Go.WideShapes Go.ChangeAt Go.RowKit Go.Shelf Go.Proofs.Ytahhhhacoigpmaa.B Go.Proofs.Ytahhhhacoigpmaa.SF
open Go.ChangeMaps (open_string shut_string)
set_option maxRecDepth 100000 in
set_option maxHeartbeats 8000000 in
theorem walk (w : World) (g : Gr) (hI : InG w g) (hz : SzG g) (hcap : ∀ u ∈ g.us, u.roles.length ≤ u.rc) (u r : ByteArray) :
    Calls Try.prog 6 #[.agg #[.slice g.ga g.gs.length g.gc, .slice g.ea g.es.length g.ec, .slice g.ra g.rs.length g.rc, .slice g.ua g.us.length g.uc], .string u, .string r] w fun e w' => e = .returned (.bool true) ∧ Below w.heap.size w w' := by
  have HB := Lib.hid ((Below.refl w.heap.size w).alloc (Nat.le_refl _) (.cells #[.slice g.ga g.gs.length g.gc, .slice g.ea g.es.length g.ec, .slice g.ra g.rs.length g.rc, .slice g.ua g.us.length g.uc] 27))
  have HX := Lib.hid (heap_new w (.cells #[.slice g.ga g.gs.length g.gc, .slice g.ea g.es.length g.ec, .slice g.ra g.rs.length g.rc, .slice g.ua g.us.length g.uc] 27))
  have HI := Lib.hid hI
  have HZ := Lib.hid hz
  have HC := Lib.hid hcap
  clear hI hz hcap
  go_enter Try.func6, Try.ntmps6
  go_wp2_with fail
  refine (awake_any _).mono ?_
  rintro e w1 ⟨rfl, hb1⟩
  have HB1 := Lib.hid (HB.out.trans (hb1.mono HB.out.size))
  have HX1 := Lib.hid ((hb1.block _ (blk_lt HX.out)).trans HX.out)
  have c0 := cell_blk (i := 0) HX1.out rfl
  have c1 := cell_blk (i := 1) HX1.out rfl
  have c2 := cell_blk (i := 2) HX1.out rfl
  have c3 := cell_blk (i := 3) HX1.out rfl
  have l1 := blk_lt HX1.out
  clear hb1 HB HX
  go_wp2_with fail
  refine (large_any w1 g (HI.out.below (Nat.le_refl _) HB1.out) HZ.out).mono ?_
  rintro e w2 ⟨lb, rfl, _, hb2⟩
  have HB2 := Lib.hid (HB1.out.trans (hb2.mono HB1.out.size))
  have HX2 := Lib.hid ((hb2.block _ (blk_lt HX1.out)).trans HX1.out)
  clear hb2 HB1 HX1 c0 c1 c2 c3 l1
  have c0 := cell_blk (i := 0) HX2.out rfl
  have c1 := cell_blk (i := 1) HX2.out rfl
  have c2 := cell_blk (i := 2) HX2.out rfl
  have c3 := cell_blk (i := 3) HX2.out rfl
  have l2 := blk_lt HX2.out
  cases lb
  case true =>
    go_wp2_with fail
    go_ret
    exact ⟨rfl, HB2.out⟩
  by_cases hu : u.size ≤ 100
  case neg =>
    go_wp2_with fail
    go_ret
    exact ⟨rfl, HB2.out⟩
  by_cases hr : r.size ≤ 100
  case neg =>
    go_wp2_with fail
    go_ret
    exact ⟨rfl, HB2.out⟩
  cases hm : mayL g
  case false =>
    have hne : (((checkL g).2.2 : Int) != 0) = true := by
      unfold mayL at hm
      rw [bne_iff_ne]
      have : ¬ (checkL g).2.2 = 0 := by simpa using hm
      omega
    have CN := Lib.hid (new_not w2 g (HI.out.below (Nat.le_refl _) HB2.out) HZ.out HC.out hm)
    generalize (checkL g).2.2 = cc at *
    clear hm
    go_wp2_with fail
    refine CN.out.mono ?_
    rintro e w3 ⟨rfl, hb3⟩
    have HB3 := Lib.hid (HB2.out.trans (hb3.mono HB2.out.size))
    clear hb3
    go_wp2_with fail
    go_ret
    exact ⟨rfl, HB3.out⟩
  have CN := Lib.hid (new_may w2 g (HI.out.below (Nat.le_refl _) HB2.out) HZ.out HC.out hm)
  have HM := Lib.hid hm
  clear hm
  go_wp2_with fail
  refine CN.out.mono ?_
  rintro e w3 ⟨sb, A, M, rfl, hS, hM⟩
  have HW := Lib.hid (hS.from HB2.out)
  have HMK := Lib.hid hM
  have HOK := Lib.hid (hM.ok HM.out HZ.out)
  have HX3 := Lib.hid ((hS.b.block _ (blk_lt HX2.out)).trans HX2.out)
  clear CN hS hM c0 c1 c2 c3 l2 HX2
  have hus : u.size ≤ 140737488351232 := by omega
  go_wp2_with fail
  refine (ableAll_any _ sb A M HW.out.st HOK.out r).mono ?_
  rintro e w4 ⟨v, rfl, ho, hb⟩
  obtain ⟨va, vc, rfl⟩ := own_slice ho
  have HMA := Lib.hid (fun b off (e : A.ma = some ⟨b, off, none⟩) => sa_row HW.out.st b off e)
  have HO := Lib.hid ho
  have HW4 := Lib.hid (HW.out.call hb)
  clear ho hb HW
  have hpr := place_range (M := M) u.toList
  have HP1 := Lib.hid (awayL_place M (placeL M u.toList) true u.toList)
  have HP2 := Lib.hid ((awayL_place (awayL M (placeL M u.toList) true) (placeL M u.toList) true u.toList).trans HP1.out)
  have HBA := Lib.hid (back_all (M := M) (placeL M u.toList) HMK.out.away)
  have HOK2 := Lib.hid (awayL_ok (awayL_ok HOK.out (placeL M u.toList) true) (placeL M u.toList) true)
  have HAW : Hid (0 ≤ placeL M u.toList → (awayL (awayL M (placeL M u.toList) true) (placeL M u.toList) true)[(placeL M u.toList).toNat]!.away = true) := Lib.hid (fun h => away_is h (by rw [awayL_len]; exact hpr.2))
  have HFA := Lib.hid (for_away (u := u.toList) HOK2.out)
  rw [HP2.out] at HFA
  have HHE : Hid (hereB M (placeL M u.toList) = decide (0 ≤ placeL M u.toList)) := Lib.hid (by
    unfold hereB
    by_cases h : 0 ≤ placeL M u.toList
    · rw [HMK.out.away _ (by omega), decide_eq_true h]; rfl
    · rw [decide_eq_false h]; rfl)
  generalize hM1 : awayL M (placeL M u.toList) true = M1 at *
  generalize hM2 : awayL M1 (placeL M u.toList) true = M2 at *
  generalize hk : placeL M u.toList = k at *
  have HKK := Lib.hid hk
  have HM1 := Lib.hid hM1
  have HM2 := Lib.hid hM2
  have HH2 : Hid (hereB M2 k = false) := Lib.hid (by
    unfold hereB
    by_cases h : 0 ≤ k
    · rw [HAW.out h]; simp
    · rw [decide_eq_false h]; rfl)
  have HY2 : Hid (mayB M2 k r.toList = false) := Lib.hid (by
    unfold mayB ableB
    by_cases h : 0 ≤ k
    · rw [HAW.out h]; simp
    · rw [decide_eq_false h]; rfl)
  have HF2 : Hid (((forL M2 k).toList == u.toList) = true → u.toList.isEmpty = true) := Lib.hid (fun h => by rw [HFA.out HAW.out (eq_of_beq h)]; rfl)
  clear hk hM1 hM2 hpr
  obtain ⟨z, hz⟩ : ∃ z : Int, z = if k < 0 then 10 else 0 := ⟨_, rfl⟩
  have HZZ : Hid ((z == 0) = decide (0 ≤ k)) := Lib.hid (by
    rw [hz]
    by_cases h : k < 0
    · rw [if_pos h, decide_eq_false (by omega)]; rfl
    · rw [if_neg h, decide_eq_true (by omega)]; rfl)
  have HZV := Lib.hid hz
  clear hz
  go_wp2_with fail
  refine (away_any _ sb A M HW4.out.st u hus true).mono ?_
  rintro e w5 ⟨rfl, ha⟩
  rw [HKK.out, HM1.out] at ha
  rw [HKK.out, ← HZV.out]
  have HO5 := Lib.hid (own_away HO.out HMA.out ha)
  have HW5 := Lib.hid (HW4.out.away ha)
  clear ha HO HW4
  go_wp2_with fail
  refine (away_any _ sb A M1 HW5.out.st u hus true).mono ?_
  rintro e w6 ⟨rfl, ha⟩
  rw [HP1.out, HM2.out] at ha
  rw [HP1.out, ← HZV.out]
  have HO6 := Lib.hid (own_away HO5.out HMA.out ha)
  have HW6 := Lib.hid (HW5.out.away ha)
  clear ha HO5 HW5
  go_wp2_with fail
  refine (here_any _ sb A M2 HW6.out.st u hus).mono ?_
  rintro e w7 ⟨rfl, hww⟩
  subst hww
  rw [HP2.out, HH2.out]
  go_wp2_with fail
  refine (may_any _ sb A M2 HW6.out.st HOK2.out u r hus).mono ?_
  rintro e w7 ⟨rfl, hb⟩
  rw [HP2.out, HY2.out]
  have HO7 := Lib.hid (own_below HO6.out hb)
  have HW7 := Lib.hid (HW6.out.call hb)
  clear hb HO6 HW6
  go_wp2_with fail
  refine (for_any _ sb A M2 HW7.out.st HOK2.out u hus).mono ?_
  rintro e w8 ⟨rfl, hb⟩
  rw [HP2.out]
  have HO8 := Lib.hid (own_below HO7.out hb)
  have HW8 := Lib.hid (HW7.out.call hb)
  clear hb HO7 HW7
  have CA := Lib.hid (away_any w8 sb A M2 HW8.out.st u hus false)
  rw [HP2.out, HBA.out, ← HZV.out] at CA
  have tail : ∀ (w9 : World), AwP w8 sb A M w9 → Hid (w9.ownsRow w3.heap.size 9 1 (.slice va (ableL M r.toList).length vc) (ableL M r.toList).length (nmC M (ableL M r.toList)) ∧ SW w w9 sb A M) := fun w9 ha => Lib.hid ⟨own_away HO8.out HMA.out ha, HW8.out.away ha⟩
  cases hfe : ((forL M2 k).toList == u.toList)
  all_goals
    generalize (forL M2 k) = fl at *
    first
      | (have hem : u.toList.isEmpty = true := HF2.out hfe
         go_wp2_with fail)
      | (go_wp2_with fail)
    refine CA.out.mono ?_
    rintro e w9 ⟨rfl, ha⟩
    have HT := tail w9 ha
    clear ha tail CA
    go_wp2_with fail
    refine (ableAll_any _ sb A M HT.out.2.st HOK.out r).mono ?_
    rintro e w10 ⟨v2, rfl, ho2, hb⟩
    obtain ⟨va2, vc2, rfl⟩ := own_slice ho2
    have HR1 := Lib.hid (Row.of_own (own_below HT.out.1 hb))
    have HR2 := Lib.hid (Row.of_own ho2)
    have HW10 := Lib.hid (HT.out.2.call hb)
    have hll : (ableL M r.toList).length = (nmL M (ableL M r.toList)).length := (nmL_len _ _).symm
    rw [hll]
    have CW := Lib.hid (words_any va va2 vc vc2 (nmL M (ableL M r.toList)) (nmL M (ableL M r.toList)) w10 HR1.out HR2.out (by rw [← hll]; have h9 := ableK_len M r.toList M.length; have h8 := HOK.out.few; have h7 : (ableL M r.toList).length ≤ M.length := h9; omega))
    rw [same_words] at CW
    clear ho2 hb hll
    generalize (nmL M (ableL M r.toList)).length = nl at *
    go_wp2_with fail
    refine CW.out.mono ?_
    rintro e w11 ⟨rfl, hb⟩
    have HW11 := Lib.hid (HW10.out.call hb)
    clear hb CW
    go_wp2_with fail
    refine (here_any _ sb A M HW11.out.st u hus).mono ?_
    rintro e w12 ⟨rfl, hww⟩
    subst hww
    rw [HKK.out, HHE.out]
    have hzz := HZZ.out
    go_wp2_with fail
    go_ret
    exact ⟨ret_bool (by simp), HW11.out.b⟩
theorem own : ownKnob Try.prog.godebug = none := by kernel_rfl
set_option maxRecDepth 100000 in
theorem lifted (os : Os) (started : os.Started) (H : Type) (enc : TypeId × Value → H) :
    ReturnsInHanded {} Try.checked os 6 .any (Rows.staffBackSpec.pre6 enc Try.prog Try.f6 Rows.staffBackRow.domain false) (Rows.staffBackSpec.post enc Try.prog Try.f6 false true false false) := by
  refine returnsInHanded_of_change_sized (C := Try.checked) own started (by kernel_rfl) Try.func6
    (ChangeSpec.witness6 (enc := enc) (C := Try.checked) false ⟨#[], #[.agg #[.slice none 0 0, .slice none 0 0, .slice none 0 0, .slice none 0 0], .string ByteArray.empty, .string ByteArray.empty], []⟩ 8 (by kernel_rfl) (by kernel_rfl) (by kernel_rfl) (by kernel_rfl)) ?_
  intro W base args ds gs before hval0 hW _ hsz0 _
  have hsz : (DataW.weightsEach Try.prog (Try.f6.params.toList ++ Rows.staffBackSpec.plain.varTypes Try.prog) (ds ++ gs)).all (· ≤ reachBytes) = true := hsz0
  have hval : ∀ (j : Nat) t v, Try.f6.params[j]? = some t → args[j]? = some v → Value.okWide Try.prog W .any base t v := hval0
  have hW' := hW
  obtain ⟨p, q, hA0, hV, rfl, _, _⟩ := hW
  have hA : DataW.TrodAll enc Try.prog W 0 (fun _ => true) true Try.f6.params.toList args.toList ds p := hA0
  rw [Try.params6] at hA hval hsz
  obtain ⟨v0, vs0, d0, ds0, p0, q0, hargs, rfl, rfl, h0, r0⟩ := trodAll_cons hA
  obtain ⟨v1, vs1, d1, ds1, p1, q1, e1, rfl, rfl, h1, r1⟩ := trodAll_cons r0
  obtain ⟨v2, vs2, d2, ds2, p2, q2, e2, rfl, rfl, h2, r2⟩ := trodAll_cons r1
  obtain ⟨rfl, rfl, rfl⟩ := trodAll_nil r2
  subst e2
  subst e1
  obtain rfl : args = #[v0, v1, v2] := by cases args; simp_all
  obtain ⟨rfl, rfl⟩ := trodVars_none hV
  have hw0 : Wt Try.prog 27 d0 := Wt.of hsz (j := 0) rfl rfl
  obtain ⟨g0, rfl, hI0, hz0, hcap0, hnil0, _⟩ := open_graph (hval 0 _ v0 rfl rfl) h0 hw0
  obtain ⟨a1, rfl, -, -, w1⟩ := open_string Try.underlying9 (hval 1 9 v1 rfl rfl) h1
  obtain ⟨a2, rfl, -, -, w2⟩ := open_string Try.underlying9 (hval 2 9 v2 rfl rfl) h2
  clear hA0 hval0 hsz0
  simp only [List.append_nil] at hW'
  have hlt0 := fun x hx => hW'.lt x hx
  refine (walk W g0 hI0 hz0 hcap0 a1 a2).mono fun e W' ⟨he2, hg⟩ => ?_
  subst he2
  have hargs := (trodAll_cons_mk (Below.trod progLaid (by kernel_rfl) (of_decide_eq_true (by kernel_rfl)) h0 hg (fun x hx => hlt0 x (List.mem_append_left _ hx))) (trodAll_cons_mk (Below.trod progLaid (by kernel_rfl) (of_decide_eq_true (by kernel_rfl)) h1 hg (fun x hx => hlt0 x (List.mem_append_right _ (List.mem_append_left _ hx)))) (trodAll_cons_mk (Below.trod progLaid (by kernel_rfl) (of_decide_eq_true (by kernel_rfl)) h2 hg (fun x hx => hlt0 x (List.mem_append_right _ (List.mem_append_right _ (hx))))) (trodAll_mk0 (enc := enc) (P := Try.prog) (w := W')))))
  simp only [List.append_nil] at hargs
  exact ⟨_, rfl, _, _, _, [], p0 ++ (p1 ++ (p2)), [], hW', trodAll_cons_mk (shut_bool Try.underlying4 _) trodAll_mk0, hargs, rfl, hg.frame _, fun h => by cases h⟩
theorem proved : Rows.StaffBackSaid :=
  OpenClaim.holds_of_wide 6 Try.f6 rfl rfl rfl rfl rfl rfl rfl ⟨rfl, rfl, rfl, rfl, rfl⟩ rfl rfl rfl rfl rfl (by kernel_rfl) Try.func6 (by kernel_rfl)
    (of_decide_eq_true (by kernel_rfl)) (by unfold Func.isWrapper; first | (rw [if_pos (by decide +kernel)]; kernel_rfl) | (rw [if_neg (by decide +kernel)]; exact ⟨rfl, rfl⟩))
    (fun os started H enc _ => lifted os started H enc)
end Go.Proofs.Ytahhhhacoigpmaa.SBack

namespace Go.Proofs.Ytahhhhacoigpmaa.SF
open Go.RowKit Go.Shelf Go.Proofs.Ytahhhhacoigpmaa Go.Proofs.Ytahhhhacoigpmaa.B
/-- Who is told to be away, or here. -/
structure Ac where
  user : ByteArray
  away : Bool
instance : Inhabited Ac := ⟨⟨ByteArray.empty, false⟩⟩
def acC (a : Ac) : List Value := [.string a.user, .bool a.away]
def goodA (a : Ac) : Prop := a.user.size ≤ 140737488351232
section
variable {H : Type} {enc : TypeId × Value → H} {w : World} {base : Nat} {spare : Nat → Bool} {held : Bool}
theorem rd_ac (n : Nat) (cs : List Value) (y : DataW H × List MemPlace) (h : DataW.trod enc Try.prog w base spare held n 39 cs = some y) (hw : Wt Try.prog 39 y.1) : ∃ x, cs = acC x ∧ goodA x := by
  obtain ⟨hl, ds, m, hy, hf⟩ := open_rec Try.underlying39 (by kernel_rfl) (by kernel_rfl) h
  obtain ⟨v0, v1, rfl⟩ := list2 hl
  rw [hy] at hw
  obtain ⟨y0, d0, h0⟩ := hf 0 _ rfl v0 rfl
  obtain ⟨y1, d1, h1⟩ := hf 1 _ rfl v1 rfl
  obtain ⟨s0, rfl, z0⟩ := rd_str Try.underlying9 h0 (hw.field Try.underlying39 rfl d0)
  obtain ⟨b1, rfl⟩ := rd_bool Try.underlying4 h1
  exact ⟨⟨s0, b1⟩, rfl, z0⟩
set_option maxRecDepth 100000 in
theorem open_acs {r : Reach} {b0 : Nat} {v : Value} {d : DataW H} {p : List MemPlace} (hv : Value.okWide Try.prog w r b0 28 v) (h : DataW.Trod enc Try.prog w base spare held 28 v d p) (hw : Wt Try.prog 28 d) :
    ∃ (A : Option Addr) (c : Nat) (l : List Ac), v = .slice A l.length c ∧ Row w A (l.flatMap acC) ∧ ∀ x ∈ l, goodA x := by
  obtain ⟨a, n, c, rfl⟩ := Go.WideShapes.okWide_slice Try.underlying28 hv
  obtain ⟨f, hf⟩ := h
  obtain ⟨A, l, c', e, r0, r1, _⟩ := open_list acC 2 goodA Try.underlying28 (by kernel_rfl) (fun _ => rfl) (by omega) rd_ac (v := .slice a n c) hf hw
  exact ⟨A, c', l, e, r0, r1⟩
end
/-- No name is empty. -/
def NE (M : List Mb) : Prop := hasB (nms M) [] = false
theorem NE.away {M : List Mb} (h : NE M) (k : Int) (a : Bool) : NE (awayL M k a) := by unfold NE; rw [awayL_nms]; exact h
theorem NE.at_ {M : List Mb} (h : NE M) {i : Nat} (hi : i < M.length) : M[i]!.name.toList ≠ [] := fun e => by
  have hm : ([] : Key) ∈ nms M := List.mem_map.2 ⟨M[i]!, mem_at hi, e⟩
  have : hasB (nms M) [] = true := List.contains_iff_mem.2 hm
  rw [h] at this; cases this
theorem place_at {M : List Mb} (h : OkM M) {i : Nat} (hi : i < M.length) : placeL M M[i]!.name.toList = (i : Int) := by
  have hm : M[i]!.name.toList ∈ nms M := List.mem_map.2 ⟨M[i]!, mem_at hi, rfl⟩
  have hh : hasB (nms M) M[i]!.name.toList = true := List.contains_iff_mem.2 hm
  have h0 : 0 ≤ placeL M M[i]!.name.toList := by unfold placeL; rw [hh, if_pos rfl]; omega
  obtain ⟨p1, p2⟩ := place_name h0
  have := name_one h p1 hi p2
  omega
/-- Does somebody stand for the one at a place? -/
def stB (M : List Mb) (x : Nat) : Bool := (chain M (x : Int)).any fun y => !M[y]!.away
theorem for_no {M : List Mb} {x : Nat} (h : stB M x = false) : forL M (x : Int) = ByteArray.empty :=
  forL_none (fun i hi => by
    have h1 := List.any_eq_false.1 h i hi
    cases hw : M[i]!.away with
    | true => rfl
    | false => rw [hw] at h1; exact absurd rfl h1)
theorem for_yes {M : List Mb} {x : Nat} (h : stB M x = true) : ∃ y, y ∈ chain M (x : Int) ∧ M[y]!.away = false ∧ forL M (x : Int) = M[y]!.name := by
  unfold forL
  cases hf : (chain M (x : Int)).find? (fun i => !M[i]!.away) with
  | none =>
    obtain ⟨y, hy, hb⟩ := List.any_eq_true.1 h
    exact absurd hb (List.find?_eq_none.1 hf y hy)
  | some y =>
    have ha := List.find?_some hf
    refine ⟨y, List.mem_of_find?_eq_some hf, ?_, rfl⟩
    cases hw : M[y]!.away with
    | true => simp only [hw] at ha; cases ha
    | false => rfl
/-- Somebody may just if somebody stands for a holder. -/
theorem able_stands {M : List Mb} (h : OkM M) (r : Key) : (hold M r).any (stB M) = decide (0 < (ableL M r).length) := by
  rw [Bool.eq_iff_iff, List.any_eq_true, decide_eq_true_eq, List.length_pos_iff_exists_mem]
  constructor
  · rintro ⟨x, hx, hs⟩
    obtain ⟨y, hy, ha⟩ := List.any_eq_true.1 hs
    have hxl := hold_lt hx
    have hyl := chR_lt (chR h (x : Int) (by omega) (by omega)) y hy
    refine ⟨y, List.mem_filter.2 ⟨List.mem_range.2 hyl, ?_⟩⟩
    unfold ableB
    rw [Bool.and_eq_true]
    exact ⟨List.any_eq_true.2 ⟨x, hx, List.contains_iff_mem.2 hy⟩, ha⟩
  · rintro ⟨y, hy⟩
    obtain ⟨_, hb⟩ := List.mem_filter.1 hy
    unfold ableB at hb
    rw [Bool.and_eq_true] at hb
    obtain ⟨x, hx, hc⟩ := List.any_eq_true.1 hb.1
    exact ⟨x, hx, List.any_eq_true.2 ⟨y, List.contains_iff_mem.1 hc, hb.2⟩⟩
theorem stands_may {M : List Mb} (h : OkM M) {r : Key} {x y : Nat} (hx : x ∈ hold M r) (hy : y ∈ chain M (x : Int)) (ha : M[y]!.away = false) : placeL M M[y]!.name.toList = (y : Int) ∧ mayB M (y : Int) r = true ∧ hereB M (y : Int) = true := by
  have hxl := hold_lt hx
  have hyl := chR_lt (chR h (x : Int) (by omega) (by omega)) y hy
  refine ⟨place_at h hyl, ?_, ?_⟩
  · unfold mayB ableB
    rw [Int.toNat_natCast, ha, decide_eq_true (by omega)]
    simp only [Bool.true_and, Bool.not_false, Bool.and_true]
    exact List.any_eq_true.2 ⟨x, hx, List.contains_iff_mem.2 hy⟩
  · unfold hereB
    rw [Int.toNat_natCast, ha, decide_eq_true (by omega)]; rfl
theorem able_here {M : List Mb} (h : OkM M) {r : Key} {y : Nat} (hy : y ∈ ableL M r) : placeL M M[y]!.name.toList = (y : Int) ∧ hereB M (y : Int) = true ∧ y < M.length := by
  obtain ⟨hyl, hb⟩ := List.mem_filter.1 hy
  have hyl := List.mem_range.1 hyl
  unfold ableB at hb
  rw [Bool.and_eq_true] at hb
  refine ⟨place_at h hyl, ?_, hyl⟩
  unfold hereB
  rw [Int.toNat_natCast, decide_eq_true (by omega), hb.2]; rfl
end Go.Proofs.Ytahhhhacoigpmaa.SF
