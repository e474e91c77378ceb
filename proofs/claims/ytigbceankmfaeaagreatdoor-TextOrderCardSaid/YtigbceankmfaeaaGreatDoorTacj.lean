/-
  Contract of layer 3's awake: it answers true. Contract of layer 3's awake: it answers true (the walk). Contract of the document's own Large, of every graph: where it answers false, the graph has few parts.
-/
import Derived.Test.YtigbceankmfaeaaGreatDoorTaci
import Derived.Test.YtigbceankmfaeaaGreatDoorTach
namespace Go.Proofs.YtigbceankmfaeaaGreatDoor.P3.L
open Go.RowKit Go.Shelf Go.Proofs.YtigbceankmfaeaaGreatDoor Go.Proofs.YtigbceankmfaeaaGreatDoor.P3 Go.Proofs.YtigbceankmfaeaaGreatDoor.P3.C
def aw1 : ByteArray := ⟨#[101, 118, 101, 110, 116, 32, 97, 32, 114, 111, 108, 101, 32, 114, 59, 32, 99, 111, 110, 100, 105, 116, 105, 111, 110, 32, 97, 32, 97, 32, 50, 59]⟩
def aw2 : ByteArray := ⟨#[101, 118, 101, 110, 116, 32, 97, 32, 114, 111, 108, 101, 59]⟩
def aw3 : ByteArray := ⟨#[101, 118, 101, 110, 116, 32, 97, 32, 114, 111, 108, 101, 32, 114, 59, 32, 101, 118, 101, 110, 116, 32, 97, 32, 114, 111, 108, 101, 32, 114, 59]⟩
def awV : List PartV := [.e ⟨[97], [], [114], true, false, -1⟩, .r ⟨1, [97], [97], 2⟩]
theorem aw_p1 : parseL aw1.data.toList = (awV, 0, 0) := by kernel_rfl
theorem aw_p2 : parseL aw2.data.toList = ([], 12, 2) := by kernel_rfl
theorem aw_p3 : parseL aw3.data.toList = ([], 16, 6) := by kernel_rfl
/-- The graph that awake reads and prints. -/
def awG (ga : Option Addr) (gc b o ec b2 o2 rc : Nat) (ua : Option Addr) (uc : Nat) : Gr :=
  ⟨[], [⟨⟨#[97]⟩, ⟨#[]⟩, ⟨#[114]⟩, true, false, -1⟩], [⟨1, ⟨#[97]⟩, ⟨#[97]⟩, 2⟩], [], ga, gc, some ⟨b, o, none⟩, ec, some ⟨b2, o2, none⟩, rc, ua, uc⟩
theorem aw_c1 (ga : Option Addr) (gc b o ec b2 o2 rc : Nat) (ua : Option Addr) (uc : Nat) : checkL (awG ga gc b o ec b2 o2 rc ua uc) = (0, 0, 0) := by kernel_rfl
theorem aw_t1 (ga : Option Addr) (gc b o ec b2 o2 rc : Nat) (ua : Option Addr) (uc : Nat) : joinS true (printT (awG ga gc b o ec b2 o2 rc ua uc)) = [101, 118, 101, 110, 116, 32, 97, 32, 114, 111, 108, 101, 32, 114, 59, 10, 99, 111, 110, 100, 105, 116, 105, 111, 110, 32, 97, 32, 97, 32, 50, 59, 10] := by kernel_rfl
def awE (b : Nat) : Gr := ⟨[⟨⟨#[]⟩, ⟨#[]⟩⟩], [], [], [], some ⟨b, 0, none⟩, 1, none, 0, none, 0, none, 0⟩
theorem aw_c2 (b : Nat) : checkL (awE b) = (1, 0, 5) := by kernel_rfl
theorem aw_s : stS [] = (0, true) := by kernel_rfl
theorem aw_in (g : Gr) {w : World} (h : LG w awV g) : ∃ ga gc b o ec b2 o2 rc ua uc, g = awG ga gc b o ec b2 o2 rc ua uc := by
  obtain ⟨gs, es, rs, us, ga, gc, ea, ec, ra, rc, ua, uc⟩ := g
  obtain ⟨hI, _, _, _, h0, h1, h2, h3⟩ := h
  simp only at h0 h1 h2 h3
  have e0 : gsOf awV = [] := rfl
  have e1 : esOf awV = [⟨⟨#[97]⟩, ⟨#[]⟩, ⟨#[114]⟩, true, false, -1⟩] := rfl
  have e2 : rsOf awV = [⟨1, ⟨#[97]⟩, ⟨#[97]⟩, 2⟩] := rfl
  have e3 : usOf awV = [] := rfl
  rw [e0] at h0; rw [e1] at h1; rw [e2] at h2; rw [e3] at h3
  subst h0 h1 h2
  obtain rfl : us = [] := by simpa using h3
  obtain ⟨b, o, hA, _⟩ := hI.es (by simp [evC])
  obtain ⟨b2, o2, hA2, _⟩ := hI.rs (by simp [rlC])
  simp only at hA hA2
  subst hA hA2
  exact ⟨ga, gc, b, o, ec, b2, o2, rc, ua, uc, rfl⟩
theorem aw_parse1 (w : World) : Calls Tryz.prog 12 #[.string ⟨#[101, 118, 101, 110, 116, 32, 97, 32, 114, 111, 108, 101, 32, 114, 59, 32, 99, 111, 110, 100, 105, 116, 105, 111, 110, 32, 97, 32, 97, 32, 50, 59]⟩] w fun e w' =>
    ∃ ga gc b o ec b2 o2 rc ua uc, e = .returned (.tuple #[.agg #[.slice ga 0 gc, .slice (some ⟨b, o, none⟩) 1 ec, .slice (some ⟨b2, o2, none⟩) 1 rc, .slice ua 0 uc], .int .i64 0, .int .i64 0]) ∧ Below w.heap.size w w' ∧ LG w' awV (awG ga gc b o ec b2 o2 rc ua uc) := by
  refine (parse_any aw1 w (by decide)).mono fun e w' ⟨hb, h⟩ => ?_
  rw [aw_p1, if_pos rfl] at h
  obtain ⟨v0, v1, v2, v3, rfl, h⟩ := h
  obtain ⟨g, rfl, rfl, rfl, rfl, hg⟩ := gro_in h (parse_may aw_p1)
  obtain ⟨ga, gc, b, o, ec, b2, o2, rc, ua, uc, rfl⟩ := aw_in g hg
  exact ⟨ga, gc, b, o, ec, b2, o2, rc, ua, uc, rfl, hb, hg⟩
theorem aw_parse2 (w : World) : Calls Tryz.prog 12 #[.string ⟨#[101, 118, 101, 110, 116, 32, 97, 32, 114, 111, 108, 101, 59]⟩] w fun e w' =>
    e = .returned (.tuple #[grZ, .int .i64 12, .int .i64 2]) ∧ Below w.heap.size w w' := by
  refine (parse_any aw2 w (by decide)).mono fun e w' ⟨hb, h⟩ => ?_
  rw [aw_p2, if_neg (by decide)] at h
  exact ⟨h, hb⟩
theorem aw_parse3 (w : World) : Calls Tryz.prog 12 #[.string ⟨#[101, 118, 101, 110, 116, 32, 97, 32, 114, 111, 108, 101, 32, 114, 59, 32, 101, 118, 101, 110, 116, 32, 97, 32, 114, 111, 108, 101, 32, 114, 59]⟩] w fun e w' =>
    e = .returned (.tuple #[grZ, .int .i64 16, .int .i64 6]) ∧ Below w.heap.size w w' := by
  refine (parse_any aw3 w (by decide)).mono fun e w' ⟨hb, h⟩ => ?_
  rw [aw_p3, if_neg (by decide)] at h
  exact ⟨h, hb⟩
theorem aw_print1 (w : World) (ga : Option Addr) (gc b o ec b2 o2 rc : Nat) (ua : Option Addr) (uc : Nat) (h : LG w awV (awG ga gc b o ec b2 o2 rc ua uc)) (ht : Tab w.heap.size w) :
    Calls Tryz.prog 10 #[.agg #[.slice ga 0 gc, .slice (some ⟨b, o, none⟩) 1 ec, .slice (some ⟨b2, o2, none⟩) 1 rc, .slice ua 0 uc]] w fun e w' =>
      e = .returned (.tuple #[.string ⟨#[101, 118, 101, 110, 116, 32, 97, 32, 114, 111, 108, 101, 32, 114, 59, 10, 99, 111, 110, 100, 105, 116, 105, 111, 110, 32, 97, 32, 97, 32, 50, 59, 10]⟩, .int .i64 0]) ∧ Below w.heap.size w w' := by
  refine (print_any w _ h.lies h.small h.cap h.nil ht).mono fun e w' ⟨hb, h⟩ => ?_
  rw [aw_c1, aw_t1, if_pos rfl] at h
  exact ⟨h, hb⟩
theorem aw_print2 (w : World) (b : Nat) (h : w.heap[b]? = some (.cells #[.string ⟨#[]⟩, .string ⟨#[]⟩] 43 (0, 0))) (ht : Tab w.heap.size w) :
    Calls Tryz.prog 10 #[.agg #[.slice (some ⟨b, 0, none⟩) 1 1, .slice none 0 0, .slice none 0 0, .slice none 0 0]] w fun e w' =>
      e = .returned (.tuple #[.string ⟨#[]⟩, .int .i64 5]) ∧ Below w.heap.size w w' := by
  have hI : InG w (awE b) := ⟨fun _ => ⟨b, 0, rfl, B.blk_lt h, fun j u hu => by
      rw [Nat.zero_add]
      match j, hu with
      | 0, hu => obtain rfl : Value.string ⟨#[]⟩ = u := by simpa [awE, gpC] using hu
                 exact B.cell_blk h rfl
      | 1, hu => obtain rfl : Value.string ⟨#[]⟩ = u := by simpa [awE, gpC] using hu
                 exact B.cell_blk h rfl
      | n + 2, hu => simp [awE, gpC] at hu⟩, fun h => absurd rfl h, fun h => absurd rfl h, fun h => absurd rfl h, fun _ h => nomatch h⟩
  have hz : SzG (awE b) := ⟨by show 1 * 32 ≤ _; omega, by show 0 * 64 ≤ _; omega, by show 0 * 48 ≤ _; omega, by show 0 * 56 ≤ _; omega, (fun p hp => by obtain rfl : p = _ := List.mem_singleton.1 hp; exact ⟨by decide, by decide⟩), (fun _ h => nomatch h), (fun _ h => nomatch h), (fun _ h => nomatch h)⟩
  refine (print_any w (awE b) hI hz (fun _ h => nomatch h) (fun _ h => nomatch h) ht).mono fun e w' ⟨hb, h⟩ => ?_
  rw [aw_c2, if_neg (by decide)] at h
  exact ⟨h, hb⟩
theorem aw_state (w : World) : Calls Tryz.prog 17 #[.slice none 0 0] w fun e w' => e = .returned (.tuple #[grZ, .int .i64 0, .int .i64 2]) ∧ Below w.heap.size w w' := by
  refine (statement_any w none 0 [] (fun h => absurd rfl h) (by decide)).mono fun e w' ⟨hb, _, h⟩ => ?_
  rw [show ([] : List Tok).map bare = [] from rfl, aw_s, if_pos rfl] at h
  exact ⟨h, hb⟩
end Go.Proofs.YtigbceankmfaeaaGreatDoor.P3.L

namespace Go.Proofs.YtigbceankmfaeaaGreatDoor.P3.L
open Go.RowKit Go.Shelf Go.Proofs.YtigbceankmfaeaaGreatDoor Go.Proofs.YtigbceankmfaeaaGreatDoor.P3 Go.Proofs.YtigbceankmfaeaaGreatDoor.P3.C
theorem aw_rows {w : World} {ga : Option Addr} {gc b o ec b2 o2 rc : Nat} {ua : Option Addr} {uc : Nat} (h : LG w awV (awG ga gc b o ec b2 o2 rc ua uc)) :
    (w.cell? ⟨b, o, none⟩ = some (.string ⟨#[97]⟩) ∧ w.cell? ⟨b, o + 1, none⟩ = some (.string ⟨#[]⟩) ∧ w.cell? ⟨b, o + 2, none⟩ = some (.string ⟨#[114]⟩) ∧ w.cell? ⟨b, o + 3, none⟩ = some (.bool true) ∧ w.cell? ⟨b, o + 4, none⟩ = some (.bool false) ∧ w.cell? ⟨b, o + 5, none⟩ = some (.int .i64 (-1))) ∧
    w.cell? ⟨b2, o2 + 3, none⟩ = some (.int .i64 2) := by
  obtain ⟨b', o', h1, _, h2⟩ := h.lies.es (by simp [awG, evC])
  obtain ⟨b3, o3, h3, _, h4⟩ := h.lies.rs (by simp [awG, rlC])
  simp only [awG, Option.some.injEq, Addr.mk.injEq, and_true] at h1 h3
  obtain ⟨rfl, rfl⟩ := h1
  obtain ⟨rfl, rfl⟩ := h3
  exact ⟨⟨h2 0 _ rfl, h2 1 _ rfl, h2 2 _ rfl, h2 3 _ rfl, h2 4 _ rfl, h2 5 _ rfl⟩, h4 3 _ rfl⟩
set_option maxRecDepth 100000 in
set_option maxHeartbeats 8000000 in
theorem awake_any (w : World) (ht : Tab w.heap.size w) : Calls Tryz.prog 8 #[] w fun e w' => e = .returned (.bool true) ∧ Below w.heap.size w w' := by
  have HT := Lib.hid ht
  clear ht
  go_enter Tryz.func8, Tryz.ntmps8
  go_wp2_with fail
  refine (aw_parse1 w).mono ?_
  rintro e w1 ⟨ga, gc, b, o, ec, b2, o2, rc, ua, uc, rfl, hb1, hg1⟩
  have hg1' := hg1.below ((Below.refl _ _).alloc (Nat.le_refl _) (.cells #[.slice ga 0 gc, .slice (some ⟨b, o, none⟩) 1 ec, .slice (some ⟨b2, o2, none⟩) 1 rc, .slice ua 0 uc] 27))
  have hb1' := hb1.alloc hb1.size (.cells #[.slice ga 0 gc, .slice (some ⟨b, o, none⟩) 1 ec, .slice (some ⟨b2, o2, none⟩) 1 rc, .slice ua 0 uc] 27)
  have hx1 := B.heap_new w1 (.cells #[.slice ga 0 gc, .slice (some ⟨b, o, none⟩) 1 ec, .slice (some ⟨b2, o2, none⟩) 1 rc, .slice ua 0 uc] 27)
  have HG1 := Lib.hid hg1'
  have HB1 := Lib.hid hb1'
  have HX1 := Lib.hid hx1
  have HS1 := Lib.hid hb1.size
  clear hb1 hg1 hg1' hb1' hx1
  go_wp2_with fail
  refine (aw_print1 _ ga gc b o ec b2 o2 rc ua uc HG1.out (tab_on HT.out HB1.out)).mono ?_
  rintro e w2 ⟨rfl, hb2⟩
  have HB2 := Lib.hid (HB1.out.trans (hb2.mono HB1.out.size))
  have HX2 := Lib.hid ((hb2.block _ (B.blk_lt HX1.out)).trans HX1.out)
  have HG2 := Lib.hid (HG1.out.below hb2)
  clear hb2 HB1 HX1 HG1
  go_wp2_with fail
  refine (aw_parse2 w2).mono ?_
  rintro e w3 ⟨rfl, hb3⟩
  have hb3' := hb3.alloc hb3.size (.cells #[nilV, nilV, nilV, nilV] 27)
  have HB3 := Lib.hid (HB2.out.trans (hb3'.mono HB2.out.size))
  have HX3 := Lib.hid ((hb3'.block _ (B.blk_lt HX2.out)).trans HX2.out)
  have HG3 := Lib.hid (HG2.out.below hb3')
  clear hb3 hb3' HB2 HX2 HG2
  go_wp2_with fail
  refine (aw_parse3 _).mono ?_
  rintro e w4 ⟨rfl, hb4⟩
  have HB4 := Lib.hid (HB3.out.trans (hb4.mono HB3.out.size))
  have HX4 := Lib.hid ((hb4.block _ (B.blk_lt HX3.out)).trans HX3.out)
  have HG4 := Lib.hid (HG3.out.below hb4)
  clear hb4 HB3 HX3 HG3
  have hb4' := ((Below.refl w4.heap.size w4).alloc (Nat.le_refl _) (.cells #[nilV, nilV, nilV, nilV] 27)).alloc (by rw [World.size_alloc]; omega) (.cells #[.string ⟨#[]⟩, .string ⟨#[]⟩] 43)
  have HB5 := Lib.hid (HB4.out.trans (hb4'.mono HB4.out.size))
  have HX5 := Lib.hid ((hb4'.block _ (B.blk_lt HX4.out)).trans HX4.out)
  have HG5 := Lib.hid (HG4.out.below hb4')
  have hn := B.heap_new (w4.alloc (.cells #[nilV, nilV, nilV, nilV] 27)) (.cells #[.string ⟨#[]⟩, .string ⟨#[]⟩] 43)
  rw [World.size_alloc] at hn
  have HN := Lib.hid hn
  have HT5 := Lib.hid (tab_on HT.out HB5.out)
  clear hn
  clear hb4' HB4 HX4 HG4
  go_wp2_with fail
  refine (aw_print2 _ (w4.heap.size + 1) HN.out HT5.out).mono ?_
  rintro e w5 ⟨rfl, hb5⟩
  have HB6 := Lib.hid (HB5.out.trans (hb5.mono HB5.out.size))
  have HX6 := Lib.hid ((hb5.block _ (B.blk_lt HX5.out)).trans HX5.out)
  have HG6 := Lib.hid (HG5.out.below hb5)
  clear hb5 HB5 HX5 HG5 HN
  go_wp2_with fail
  refine (aw_state w5).mono ?_
  rintro e w6 ⟨rfl, hb6⟩
  have HB7 := Lib.hid (HB6.out.trans (hb6.mono HB6.out.size))
  have hX := (hb6.block _ (B.blk_lt HX6.out)).trans HX6.out
  have hG := HG6.out.below hb6
  obtain ⟨⟨q0, q1, q2, q3, q4, q5⟩, q6⟩ := aw_rows hG
  have c1 := B.cell_blk (i := 1) hX rfl
  have c2 := B.cell_blk (i := 2) hX rfl
  have lX := B.blk_lt hX
  obtain ⟨_, _, e1, l1, _⟩ := hG.lies.es (by simp [awG, evC])
  obtain ⟨_, _, e2, l2, _⟩ := hG.lies.rs (by simp [awG, rlC])
  simp only [awG, Option.some.injEq, Addr.mk.injEq, and_true] at e1 e2
  obtain ⟨rfl, rfl⟩ := e1
  obtain ⟨rfl, rfl⟩ := e2
  have e1 : ∀ w : World, (binOp .eql 46 (.agg #[.string ⟨#[97]⟩, .string ⟨#[]⟩, .string ⟨#[114]⟩, .bool true, .bool false, .int .i64 (-1)]) (.agg #[.string ⟨#[97]⟩, .string ⟨#[]⟩, .string ⟨#[114]⟩, .bool true, .bool false, .int .i64 (-1)])).run Tryz.prog w = .ok (.bool true) w := fun w => by kernel_rfl
  have HBl := Lib.hid (HB7.out.alloc HB7.out.size (.cells #[nilV, nilV, nilV, nilV] 27))
  clear hX hG hb6 HX6 HG6 HB6 HB7 HT
  go_wp2_with fail
  go_ret
  exact ⟨rfl, HBl.out⟩
end Go.Proofs.YtigbceankmfaeaaGreatDoor.P3.L

namespace Go.Proofs.YtigbceankmfaeaaGreatDoor
open Go.RowKit Go.Shelf
/-- A graph of few parts. -/
def SmallG (g : Gr) : Prop := g.gs.length ≤ 50 ∧ g.es.length ≤ 90 ∧ g.rs.length ≤ 320 ∧ g.us.length ≤ 50
def LargeOf (g : Gr) (w : World) (e : Ending) (w' : World) : Prop := ∃ b : Bool, e = .returned (.bool b) ∧ (b = false → SmallG g) ∧ Below w.heap.size w w'
def LgRel (w : World) (g : Gr) (len : Nat) (n i : Value) (wr : World) : Prop :=
  ∃ (k : Nat) (x : Int), k ≤ len ∧ i = .int .i64 k ∧ n = .int .i64 x ∧ Below (w.heap.size + 1) (boxW w g) wr
theorem box_old {w w1 : World} {g : Gr} (hb : Below (w.heap.size + 1) (boxW w g) w1) : Below w.heap.size w w1 :=
  (box_below w g).trans (hb.mono (by omega))
set_option maxRecDepth 100000 in
set_option maxHeartbeats 8000000 in
theorem large_any (w : World) (g : Gr) (hI : InG w g) (hz : SzG g) :
    Calls Tryz.prog 9 #[.agg #[.slice g.ga g.gs.length g.gc, .slice g.ea g.es.length g.ec, .slice g.ra g.rs.length g.rc, .slice g.ua g.us.length g.uc]] w (LargeOf g w) := by
  have z1 := hz.gs
  have z2 := hz.es
  have z3 := hz.rs
  have z4 := hz.us
  have HI := Lib.hid hI
  have HZ := Lib.hid hz
  clear hI hz
  go_enter Tryz.func9, Tryz.ntmps9
  go_wp2_with fail
  go_loopw [3, 4] (fun n i wr => LgRel w g g.gs.length n i wr) (fun _ i _ => g.gs.length - (intOf i).toNat)
  case atStart => exact ⟨0, 0, Nat.zero_le _, rfl, rfl, by rw [← box_size w g]; exact Below.refl _ _⟩
  case round =>
    obtain ⟨k, x, hk, rfl, rfl, hB⟩ := hrel
    obtain ⟨a0, a1, a2, a3⟩ := box_cells hB
    by_cases hlt : k < g.gs.length
    · obtain ⟨b, off, hA, hb, hc⟩ := HI.out.gs.at_ (k := 2) (fun _ => rfl) (by omega) hlt
      have k0 := hc 0 _ rfl
      rw [Nat.add_zero] at k0
      have k1 := hc 1 _ rfl
      rw [← (box_old hB).cell (p := ⟨b, _, none⟩) hb] at k0 k1
      rw [hA] at a0
      obtain ⟨hs1, hs2⟩ := HZ.out.gp _ (mem_at hlt)
      clear hc hA
      generalize g.gs[k]! = p at *
      have hk0 : (0 : Int) ≤ (k : Int) := Int.natCast_nonneg _
      have hk1 : (k : Int) < (g.gs.length : Int) := by omega
      go_wp2_with fail
      go_quiet (fail)
      go_wp2_with fail
      go_roundw
      case rel => exact ⟨k + 1, _, hlt, by go_num, rfl, below_draws hB _⟩
      case measure => simp [intOf]; omega
    · obtain rfl : k = g.gs.length := by omega
      go_wp2_with fail
      clear hk a0 a1 a2 a3
      go_loopw [3, 5] (fun n i wr => LgRel w g g.es.length n i wr) (fun _ i _ => g.es.length - (intOf i).toNat)
      case atStart => exact ⟨0, _, Nat.zero_le _, rfl, rfl, hB⟩
      case round =>
        clear hB
        obtain ⟨k, y, hk, rfl, rfl, hB⟩ := hrel
        obtain ⟨a0, a1, a2, a3⟩ := box_cells hB
        by_cases hlt : k < g.es.length
        · obtain ⟨b, off, hA, hb, hc⟩ := HI.out.es.at_ (k := 6) (fun _ => rfl) (by omega) hlt
          have k0 := hc 0 _ rfl
          rw [Nat.add_zero] at k0
          have k1 := hc 1 _ rfl
          have k2 := hc 2 _ rfl
          have k3 := hc 3 _ rfl
          have k4 := hc 4 _ rfl
          have k5 := hc 5 _ rfl
          rw [← (box_old hB).cell (p := ⟨b, _, none⟩) hb] at k0 k1 k2 k3 k4 k5
          rw [hA] at a1
          obtain ⟨hs1, hs2, hs3, _⟩ := HZ.out.ev _ (mem_at hlt)
          clear hc hA
          generalize g.es[k]! = p at *
          have hk0 : (0 : Int) ≤ (k : Int) := Int.natCast_nonneg _
          have hk1 : (k : Int) < (g.es.length : Int) := by omega
          go_wp2_with fail
          go_quiet (fail)
          go_wp2_with fail
          go_roundw
          case rel => exact ⟨k + 1, _, hlt, by go_num, rfl, below_draws hB _⟩
          case measure => simp [intOf]; omega
        · obtain rfl : k = g.es.length := by omega
          go_wp2_with fail
          clear hk a0 a1 a2 a3
          go_loopw [3, 6] (fun n i wr => LgRel w g g.rs.length n i wr) (fun _ i _ => g.rs.length - (intOf i).toNat)
          case atStart => exact ⟨0, _, Nat.zero_le _, rfl, rfl, hB⟩
          case round =>
            clear hB
            obtain ⟨k, y, hk, rfl, rfl, hB⟩ := hrel
            obtain ⟨a0, a1, a2, a3⟩ := box_cells hB
            by_cases hlt : k < g.rs.length
            · obtain ⟨b, off, hA, hb, hc⟩ := HI.out.rs.at_ (k := 4) (fun _ => rfl) (by omega) hlt
              have k0 := hc 0 _ rfl
              rw [Nat.add_zero] at k0
              have k1 := hc 1 _ rfl
              have k2 := hc 2 _ rfl
              have k3 := hc 3 _ rfl
              rw [← (box_old hB).cell (p := ⟨b, _, none⟩) hb] at k0 k1 k2 k3
              rw [hA] at a2
              obtain ⟨hs1, hs2, _⟩ := HZ.out.rl _ (mem_at hlt)
              clear hc hA
              generalize g.rs[k]! = p at *
              have hk0 : (0 : Int) ≤ (k : Int) := Int.natCast_nonneg _
              have hk1 : (k : Int) < (g.rs.length : Int) := by omega
              go_wp2_with fail
              go_quiet (fail)
              go_wp2_with fail
              go_roundw
              case rel => exact ⟨k + 1, _, hlt, by go_num, rfl, below_draws hB _⟩
              case measure => simp [intOf]; omega
            · obtain rfl : k = g.rs.length := by omega
              go_wp2_with fail
              clear hk a0 a1 a2 a3
              go_loopw [3, 7] (fun n i wr => LgRel w g g.us.length n i wr) (fun _ i _ => g.us.length - (intOf i).toNat)
              case atStart => exact ⟨0, _, Nat.zero_le _, rfl, rfl, hB⟩
              case round =>
                clear hB
                obtain ⟨k, y, hk, rfl, rfl, hB⟩ := hrel
                obtain ⟨a0, a1, a2, a3⟩ := box_cells hB
                by_cases hlt : k < g.us.length
                · obtain ⟨b, off, hA, hb, hc⟩ := HI.out.us.at_ (k := 3) (fun _ => rfl) (by omega) hlt
                  have k0 := hc 0 _ rfl
                  rw [Nat.add_zero] at k0
                  have k1 := hc 1 _ rfl
                  have k2 := hc 2 _ rfl
                  rw [← (box_old hB).cell (p := ⟨b, _, none⟩) hb] at k0 k1 k2
                  rw [hA] at a3
                  obtain ⟨hs1, hs2, hs3, hs4⟩ := HZ.out.ur _ (mem_at hlt)
                  have HA := Lib.hid hA
                  have HC := Lib.hid hc
                  have HR := Lib.hid (HI.out.roles _ (mem_at hlt))
                  clear hc hA
                  generalize g.us[k]! = p at *
                  have hk0 : (0 : Int) ≤ (k : Int) := Int.natCast_nonneg _
                  have hk1 : (k : Int) < (g.us.length : Int) := by omega
                  go_wp2_with fail
                  go_quiet (fail)
                  go_wp2_with fail
                  obtain ⟨wo, rfl⟩ : ∃ wo : World, wo = wr := ⟨_, rfl⟩
                  clear k0 k1 k2 a0 a1 a2 a3
                  go_loopw [3, 8] (fun n i wr => LgRel w g p.roles.length n i wr) (fun _ i _ => p.roles.length - (intOf i).toNat)
                  case atStart => exact ⟨0, _, Nat.zero_le _, rfl, rfl, below_draws hB _⟩
                  case round =>
                    clear hB
                    obtain ⟨j, z, hj, rfl, rfl, hB⟩ := hrel
                    obtain ⟨a0, a1, a2, a3⟩ := box_cells hB
                    have k1 := HC.out 1 _ rfl
                    rw [← (box_old hB).cell (p := ⟨b, _, none⟩) hb] at k1
                    rw [HA.out] at a3
                    by_cases hjt : j < p.roles.length
                    · obtain ⟨b', off', hA', hb', hc'⟩ := HR.out.str_at hjt
                      rw [← (box_old hB).cell (p := ⟨b', _, none⟩) hb'] at hc'
                      rw [hA'] at k1
                      have hss := hs4 _ (mem_at hjt)
                      clear hA'
                      generalize p.roles[j]! = q at *
                      have hj0 : (0 : Int) ≤ (j : Int) := Int.natCast_nonneg _
                      have hj1 : (j : Int) < (p.roles.length : Int) := by omega
                      go_wp2_with fail
                      go_roundw
                      case rel => exact ⟨j + 1, _, hjt, by go_num, rfl, hB⟩
                      case measure => simp [intOf]; omega
                    · obtain rfl : j = p.roles.length := by omega
                      go_wp2_with fail
                      go_roundw
                      case rel => exact ⟨k + 1, _, hlt, by go_num, rfl, hB⟩
                      case measure => simp [intOf]; omega
                · obtain rfl : k = g.us.length := by omega
                  clear hk
                  by_cases e0 : 10000 < y
                  · go_wp2_with fail
                    go_ret
                    exact ⟨true, rfl, (fun h => by cases h), box_old hB⟩
                  go_wp2_with fail
                  all_goals
                    go_ret
                    first
                      | exact ⟨true, rfl, (fun h => by cases h), box_old hB⟩
                      | (refine ⟨_, rfl, (fun h => ?_), box_old hB⟩; simp only [Bool.or_eq_false_iff, decide_eq_false_iff_not, Int.not_lt] at h; exact ⟨by omega, by omega, by omega, by omega⟩)
end Go.Proofs.YtigbceankmfaeaaGreatDoor
