/-
  TextReads: of every text, the law answers true, and its argument reads as it did. Conditions: none (three tables of the library are tied to the program's text). The walk of TextReads: of every text it answers true.
-/
import Derived.Test.YtjgcjnkeeiaafaaGreatDoorTccd
import Derived.Test.YtjgcjnkeeiaafaaGreatDoorTcdi
import Derived.Test.YtjgcjnkeeiaafaaGreatDoorTcba
import Derived.Test.YtjgcjnkeeiaafaaGreatDoorTcbg
import Derived.Test.YtjgcjnkeeiaafaaGreatDoorCards
import Derived.Test.YtjgcjnkeeiaafaaGreatDoorTie
import Derived.SevenTiedAt
import Derived.ShutString
namespace Go.Proofs.YtjgcjnkeeiaafaaGreatDoor.P3.L
open Go.RowKit Go.Shelf Go.Proofs.YtjgcjnkeeiaafaaGreatDoor Go.Proofs.YtjgcjnkeeiaafaaGreatDoor.P3 Go.Proofs.YtjgcjnkeeiaafaaGreatDoor.P3.C
theorem rparse_word (s : ByteArray) (w : World) (hs : s.size ≤ 140737488351232) (vs : List PartV) (h : parseL s.data.toList = (vs, 0, 0)) : Calls Tryz.prog 6 #[.string s] w fun e w' =>
    ∃ g : Gr, e = .returned (.tuple #[.agg #[.slice g.ga g.gs.length g.gc, .slice g.ea g.es.length g.ec, .slice g.ra g.rs.length g.rc, .slice g.ua g.us.length g.uc], .int .i64 0, .int .i64 0]) ∧ Below w.heap.size w w' ∧ LG w' vs g := by
  refine (D.rparse_any s w hs).mono fun e w' ⟨hb, h1⟩ => ?_
  rw [h, if_pos rfl] at h1
  obtain ⟨v0, v1, v2, v3, rfl, h1⟩ := h1
  obtain ⟨g, rfl, rfl, rfl, rfl, hg⟩ := gro_in h1 (parse_may h)
  exact ⟨g, rfl, hb, hg⟩
theorem rparse_wrong (s : ByteArray) (w : World) (hs : s.size ≤ 140737488351232) (h : (parseL s.data.toList).2.2 ≠ 0) : Calls Tryz.prog 6 #[.string s] w fun e w' =>
    e = .returned (.tuple #[grZ, .int .i64 ((parseL s.data.toList).2.1 : Int), .int .i64 ((parseL s.data.toList).2.2 : Int)]) ∧ Below w.heap.size w w' := by
  refine (D.rparse_any s w hs).mono fun e w' ⟨hb, h1⟩ => ?_
  rw [if_neg h] at h1
  exact ⟨h1, hb⟩
set_option maxRecDepth 100000 in
set_option maxHeartbeats 8000000 in
theorem reads_walk (w : World) (s : ByteArray) (hs : s.size ≤ maxLen) (ht : Tab w.heap.size w) :
    Calls Tryz.prog 3 #[.string s] w fun e w' => e = .returned (.bool true) ∧ Below w.heap.size w w' := by
  unfold maxLen at hs
  have HT := Lib.hid ht
  clear ht
  go_enter Tryz.func3, Tryz.ntmps3
  go_wp2_with fail
  refine (awake_any _ HT.out).mono ?_
  rintro e w1 ⟨rfl, hb1⟩
  by_cases hz : s.size ≤ 4096
  case neg =>
    have HB1 := Lib.hid hb1
    clear hb1
    go_wp2_with fail
    go_ret
    exact ⟨rfl, HB1.out⟩
  have HB1 := Lib.hid hb1
  have hs1 : s.size ≤ 140737488351232 := by omega
  clear hb1 hs
  by_cases hc : (parseL s.data.toList).2.2 = 0
  · obtain ⟨vs, hP⟩ : ∃ vs, parseL s.data.toList = (vs, 0, 0) := by
      have := fst_zero (parse_shape s.data.toList) hc
      exact ⟨_, this⟩
    have CP := Lib.hid (fun W => parse_word s W hs1 vs hP)
    have CR := Lib.hid (fun W => rparse_word s W hs1 vs hP)
    clear hP hc hs1
    go_wp2_with fail
    refine (CP.out _).mono ?_
    rintro e w2 ⟨g, rfl, hb2, hg2⟩
    have HG2 := Lib.hid (GB.new g (HB1.out.trans (hb2.mono HB1.out.size)))
    have HL2 := Lib.hid (hg2.alloc (gbox g))
    clear hb2 hg2 HB1
    go_wp2_with fail
    refine (CR.out _).mono ?_
    rintro e w4 ⟨h, rfl, hb4, hh4⟩
    have HG4 := Lib.hid ((HG2.out.call hb4).alloc (gbox h))
    have HL4 := Lib.hid ((HL2.out.below hb4).alloc (gbox h))
    have HH4 := Lib.hid (GB.new h (HG2.out.old.trans (hb4.mono HG2.out.old.size)))
    have HK4 := Lib.hid (hh4.alloc (gbox h))
    clear hb4 hh4 HG2 HL2
    obtain ⟨c0, c1, c2, c3, l2⟩ := HG4.out.cells
    obtain ⟨d0, d1, d2, d3, m2⟩ := HH4.out.cells
    have EQ1 := Lib.hid (HL4.out.twice HK4.out)
    go_wp2_with fail
    refine (refsame_any _ g h HL4.out.lies HK4.out.lies HL4.out.small).mono ?_
    rintro e w8 ⟨rfl, hb8⟩
    rw [EQ1.out]
    have HB9 := Lib.hid (HG4.out.call hb8).old
    clear hb8
    go_wp2_with fail
    go_ret
    exact ⟨rfl, HB9.out⟩
  · have CP := Lib.hid (fun W => parse_wrong s W hs1 hc)
    have CR := Lib.hid (fun W => rparse_wrong s W hs1 hc)
    generalize (parseL s.data.toList).2.2 = cc at *
    generalize (parseL s.data.toList).2.1 = pp at *
    clear hc hs1
    go_wp2_with fail
    refine (CP.out _).mono ?_
    rintro e w2 ⟨rfl, hb2⟩
    have HB2 := Lib.hid ((HB1.out.trans (hb2.mono HB1.out.size)).alloc (by have := hb2.size; have := HB1.out.size; omega) (.cells #[nilV, nilV, nilV, nilV] 28))
    have HX2 := Lib.hid (B.heap_new w2 (.cells #[nilV, nilV, nilV, nilV] 28))
    clear hb2 HB1
    go_wp2_with fail
    refine (CR.out _).mono ?_
    rintro e w4 ⟨rfl, hb4⟩
    have HB4 := Lib.hid (((HB2.out.trans (hb4.mono HB2.out.size))).alloc (by have h1 := hb4.size; have h2 := HB2.out.size; rw [World.size_alloc] at h1 h2; omega) (.cells #[nilV, nilV, nilV, nilV] 28))
    have hx4 := B.heap_new w4 (.cells #[nilV, nilV, nilV, nilV] 28)
    have hl4 : w2.heap.size < w4.heap.size := by have h1 := hb4.size; rw [World.size_alloc] at h1; omega
    have hy4 := B.heap_old (o := .cells #[nilV, nilV, nilV, nilV] 28) hl4 ((hb4.block _ (by rw [World.size_alloc]; omega)).trans HX2.out)
    clear hb4 HX2 HB2
    have c0 := B.cell_blk (i := 0) hx4 rfl
    have c1 := B.cell_blk (i := 1) hx4 rfl
    have c2 := B.cell_blk (i := 2) hx4 rfl
    have c3 := B.cell_blk (i := 3) hx4 rfl
    have d0 := B.cell_blk (i := 0) hy4 rfl
    have d1 := B.cell_blk (i := 1) hy4 rfl
    have d2 := B.cell_blk (i := 2) hy4 rfl
    have d3 := B.cell_blk (i := 3) hy4 rfl
    have m4 := B.blk_lt hy4
    clear hx4 hy4
    go_wp2_with fail
    refine (z_same _).mono ?_
    rintro e w3 ⟨rfl, hb3⟩
    have HB3 := Lib.hid (HB4.out.trans (hb3.mono HB4.out.size))
    clear hb3 c0 c1 c2 c3 d0 d1 d2 d3 m4 hl4
    go_wp2_with fail
    go_ret
    exact ⟨rfl, HB3.out⟩
end Go.Proofs.YtjgcjnkeeiaafaaGreatDoor.P3.L

namespace Go.Proofs.YtjgcjnkeeiaafaaGreatDoor.textReads
open Go.ChangeShapes Go.WideShapes Go.ChangeAt Go.RowKit Go.Proofs.YtjgcjnkeeiaafaaGreatDoor.P3.L
open Go.ChangeMaps (open_string shut_string)
set_option maxRecDepth 100000 in
theorem lifted (os : Os) (started : os.Started) (H : Type) (enc : TypeId × Value → H) :
    ReturnsInHanded {} Tryz.checked os 3 .any (fun w args => (Rows.textReadsSpec.pre enc Tryz.prog Tryz.f3 [] false w args ∧ laidMetH Tryz.prog lay3 w) ∧ sizedMet enc Tryz.prog Tryz.f3 (OpenSpec.ofChange Rows.textReadsSpec) false w args)
      (Rows.textReadsSpec.post enc Tryz.prog Tryz.f3 false true false false) := by
  refine returnsInHanded_of_change_and (C := Tryz.checked) (X := fun w _ => laidMetH Tryz.prog lay3 w) (fun _ _ _ hh h => h.of_heap hh) own started (by kernel_rfl) Tryz.func3
    (ChangeSpec.witness_shaped (enc := enc) (C := Tryz.checked) (os := os) (X := fun w _ => laidMetH Tryz.prog lay3 w) false (World.doorLaid Tryz.prog 24 os) #[.string ByteArray.empty] 8 rfl (World.shaped_of_RefB (by kernel_rfl) (by kernel_rfl)) (by kernel_rfl) (by kernel_rfl) (by kernel_rfl) (door_met os _)) ?_
  intro W base args ds gs before hval0 hW _ hsz0 hL _
  have hsz : (DataW.weightsEach Tryz.prog (Tryz.f3.params.toList ++ Rows.textReadsSpec.plain.varTypes Tryz.prog) (ds ++ gs)).all (· ≤ reachBytes) = true := hsz0
  have hval : ∀ (j : Nat) t v, Tryz.f3.params[j]? = some t → args[j]? = some v → Value.okWide Tryz.prog W .any base t v := hval0
  have hW' := hW
  obtain ⟨p, q, hA0, hV, rfl, _, _⟩ := hW
  have hA : DataW.TrodAll enc Tryz.prog W 0 (fun _ => true) true Tryz.f3.params.toList args.toList ds p := hA0
  rw [Tryz.params3] at hA hval hsz
  obtain ⟨v0, vs0, d0, ds0, p0, q0, hargs, rfl, rfl, h0, r0⟩ := trodAll_cons hA
  obtain ⟨rfl, rfl, rfl⟩ := trodAll_nil r0
  obtain rfl : args = #[v0] := by cases args; simp_all
  obtain ⟨rfl, rfl⟩ := trodVars_none hV
  obtain ⟨a0, rfl, rfl, rfl, w0⟩ := open_string Tryz.underlying9 (hval 0 9 v0 rfl rfl) h0
  clear hA0 hval0
  simp only [List.append_nil] at hW'
  refine (reads_walk W a0 w0 (tab_of hL)).mono fun e W' ⟨he, hg⟩ => ?_
  subst he
  exact ⟨_, rfl, _, _, _, [], [], [], hW', trodAll_cons_mk (shut_bool Tryz.underlying4 _) trodAll_mk0, trodAll_cons_mk (shut_string Tryz.underlying9 w0) trodAll_mk0, rfl, hg.frame _, fun h => by cases h⟩
theorem said : Rows.TextReadsSaid :=
  OpenClaim.holds_of_wide 3 Tryz.f3 rfl rfl rfl rfl rfl rfl rfl ⟨rfl, rfl, rfl, rfl, rfl⟩ rfl rfl rfl rfl rfl (by kernel_rfl) Tryz.func3 (by kernel_rfl)
    (of_decide_eq_true (by kernel_rfl)) (by unfold Func.isWrapper; first | (rw [if_pos (by decide +kernel)]; kernel_rfl) | (rw [if_neg (by decide +kernel)]; exact ⟨rfl, rfl⟩))
    (fun os started H enc _ => lifted os started H enc)
theorem proved : Rows.TextReadsCardSaid :=
  Claim7.holds_tied_plain_at .later [] [.data, .data, .data] true _ false
    said (fun _ h => by cases h) (by kernel_rfl) (fun _ h => by cases h) textReads_row_tie rfl ⟨rfl, rfl⟩ (by kernel_rfl) rfl
    (fun f fn hf hfn => by
      obtain rfl : f = 3 := Option.some.inj ((show Tryz.prog.funcNamed "replevin/replevinlaw03.TextReads" = some 3 by kernel_rfl).symm.trans hf) |>.symm
      obtain rfl : fn = Tryz.f3 := (Option.some.inj (Tryz.func3.symm.trans hfn)).symm
      exact ⟨by kernel_rfl, fun j t ht => by
        rw [Tryz.params3] at ht
        have hm : t ∈ [(9 : Nat)] := by simpa using Array.mem_of_getElem? ht
        have hall : ([(9 : Nat)].all fun u => !Tryz.prog.wantsStandIn u) = true := by kernel_rfl
        exact (show Tryz.prog.wantsStandIn t = false by simpa using List.all_eq_true.1 hall t hm)⟩)
    (by kernel_rfl)
end Go.Proofs.YtjgcjnkeeiaafaaGreatDoor.textReads
