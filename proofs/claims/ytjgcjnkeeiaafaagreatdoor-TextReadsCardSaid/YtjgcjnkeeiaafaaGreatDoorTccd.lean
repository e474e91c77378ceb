/-
  What Parse made, as a graph that lies there; what a graph's text says again. Contract of layer 3's awake: it answers true. Contract of layer 3's awake: it answers true (the walk). The walk of TextAgain: of every text it answers true. The plain model of TextOrder's loop: the lines of a text by what they begin with. No program. Contracts of the document's own digits and event: a line's words, parted by spaces. Contract of the document's own event: its words, parted by spaces. The reader's steps by the class of the token at a place, as the document tells them. No program.
-/
import Derived.Test.YtjgcjnkeeiaafaaGreatDoorTcbj
import Derived.Test.YtjgcjnkeeiaafaaGreatDoorTccb
import Derived.Test.YtjgcjnkeeiaafaaGreatDoorTccc
import Derived.WalkArith
import Derived.Test.YtjgcjnkeeiaafaaGreatDoorTcac
import Derived.Test.YtjgcjnkeeiaafaaGreatDoorTcad
namespace Go.Proofs.YtjgcjnkeeiaafaaGreatDoor.P3.L
open Go.RowKit Go.Shelf Go.Proofs.YtjgcjnkeeiaafaaGreatDoor Go.Proofs.YtjgcjnkeeiaafaaGreatDoor.P3 Go.Proofs.YtjgcjnkeeiaafaaGreatDoor.P3.C
theorem size_of {s : ByteArray} {n : Nat} (h : s.toList.length ≤ n) : s.size ≤ n := by
  rw [Lib.toList_data, Array.length_toList] at h; exact h
theorem nm_size {s : ByteArray} (h : nameK s.toList = true) : s.size ≤ 140737488351232 := Nat.le_trans (size_of (name_len (nameK_L h))) (by omega)
theorem opt_size {s : ByteArray} (h : s.toList = [] ∨ nameK s.toList = true) : s.size ≤ 140737488351232 := by
  rcases h with h | h
  · exact size_of (by rw [h]; exact Nat.zero_le _)
  · exact nm_size h
theorem long_le (k : Int) : longL k ≤ 1048576 := by unfold longL; split <;> (try split) <;> omega
/-- A graph that may be is small. -/
theorem sz_may {g : Gr} (h : MayOk g) : SzG g where
  gs := by have := h.ngs; omega
  es := by have := h.nes; omega
  rs := by have := h.nrs; omega
  us := by have := h.nus; omega
  gp := fun p hp => ⟨nm_size (h.gs p hp).1, opt_size (h.gs p hp).2⟩
  ev := fun v hv => by
    obtain ⟨a, b, c, d, e⟩ := h.es v hv
    exact ⟨nm_size a, opt_size c, nm_size b, WalkArith.wf_i64 ⟨by omega, by omega⟩⟩
  rl := fun r hr => by
    obtain ⟨a, b, c, d, e, f⟩ := h.rs r hr
    have := long_le r.kind
    exact ⟨nm_size c, nm_size d, WalkArith.wf_i64 ⟨by omega, by omega⟩, WalkArith.wf_i64 ⟨by omega, by omega⟩⟩
  ur := fun u hu => by
    obtain ⟨a, b, c, d⟩ := h.us u hu
    exact ⟨nm_size a, opt_size c, by omega, fun s hs => nm_size (b s hs)⟩
/-- A graph that lies there, of these parts. -/
structure LG (w : World) (vs : List PartV) (g : Gr) : Prop where
  lies : InG w g
  small : SzG g
  cap : ∀ u ∈ g.us, u.roles.length ≤ u.rc
  nil : ∀ u ∈ g.us, u.ra = none → u.rc = 0
  gs : g.gs = gsOf vs
  es : g.es = esOf vs
  rs : g.rs = rsOf vs
  us : g.us.map usBare = usOf vs
theorem LG.check {w : World} {vs : List PartV} {g : Gr} (h : LG w vs g) : checkL (grOf vs) = checkL g :=
  check_same (g' := grOf vs) (g := g) h.gs.symm h.es.symm h.rs.symm h.us.symm
theorem LG.may {w : World} {vs : List PartV} {g : Gr} (h : LG w vs g) : mayL (grOf vs) = mayL g := by unfold mayL; rw [h.check]
theorem LG.below {w w' : World} {vs : List PartV} {g : Gr} (h : LG w vs g) (hb : Below w.heap.size w w') : LG w' vs g :=
  ⟨h.lies.below (Nat.le_refl _) hb, h.small, h.cap, h.nil, h.gs, h.es, h.rs, h.us⟩
theorem gro_in {B0 : Nat} {vs : List PartV} {v0 v1 v2 v3 : Value} {W : World} (h : GrO B0 vs v0 v1 v2 v3 W) (hm : mayL (grOf vs) = true) :
    ∃ g : Gr, v0 = .slice g.ga g.gs.length g.gc ∧ v1 = .slice g.ea g.es.length g.ec ∧ v2 = .slice g.ra g.rs.length g.rc ∧ v3 = .slice g.ua g.us.length g.uc ∧ LG W vs g := by
  obtain ⟨U, hU, o0, o1, o2, o3, hr⟩ := h
  obtain ⟨A0, c0, rfl⟩ := B.own_slice o0
  obtain ⟨A1, c1, rfl⟩ := B.own_slice o1
  obtain ⟨A2, c2, rfl⟩ := B.own_slice o2
  obtain ⟨A3, c3, rfl⟩ := B.own_slice o3
  have hc : checkL (grOf vs) = checkL ⟨gsOf vs, esOf vs, rsOf vs, U, A0, c0, A1, c1, A2, c2, A3, c3⟩ := check_same (g' := grOf vs) (g := ⟨gsOf vs, esOf vs, rsOf vs, U, A0, c0, A1, c1, A2, c2, A3, c3⟩) rfl rfl rfl hU.symm
  have hm' : mayL ⟨gsOf vs, esOf vs, rsOf vs, U, A0, c0, A1, c1, A2, c2, A3, c3⟩ = true := by unfold mayL at hm ⊢; rw [← hc]; exact hm
  exact ⟨⟨gsOf vs, esOf vs, rsOf vs, U, A0, c0, A1, c1, A2, c2, A3, c3⟩, rfl, rfl, rfl, rfl, ⟨Row.of_own o0, Row.of_own o1, Row.of_own o2, Row.of_own o3, fun u hu => Row.of_own (hr u hu)⟩, sz_may (may_ok hm'),
    fun u hu => (B.own_cap (hr u hu)).1, fun u hu => (B.own_cap (hr u hu)).2, rfl, rfl, rfl, hU⟩
theorem eq_self {α : Type} [Inhabited α] {p : α → α → Bool} (h : ∀ x, p x x = true) (l : List α) : eqLB p l l = true := by
  unfold eqLB
  simp [h]
theorem same_self {g h : Gr} (a : h.gs = g.gs) (b : h.es = g.es) (c : h.rs = g.rs) (d : h.us.map usBare = g.us.map usBare) : sameL g h = true := by
  have e4 : eqLB same_us g.us h.us = true := by
    have hl : g.us.length = h.us.length := by have := congrArg List.length d; simpa using this.symm
    refine eqLB_all hl fun j hj => ?_
    have e : usBare g.us[j]! = usBare h.us[j]! := by rw [← bare_at, ← bare_at, d]
    have e0 := congrArg Us.name e
    have e1 := congrArg Us.roles e
    have e2 := congrArg Us.sub e
    simp only [usBare] at e0 e1 e2
    rw [same_us, e0, e1, e2, eq_self (fun x => by simp [same_st])]; simp
  unfold sameL
  rw [a, b, c, eq_self (fun x => by simp [same_gp]), eq_self (fun x => by simp [same_ev]), eq_self (fun x => by simp [same_rl]), e4]
  rfl
theorem LG.back {w : World} {g h : Gr} (x : LG w (partsV g) h) : h.gs = g.gs ∧ h.es = g.es ∧ h.rs = g.rs ∧ h.us.map usBare = g.us.map usBare :=
  ⟨x.gs.trans (gs_parts g), x.es.trans (es_parts g), x.rs.trans (rs_parts g), x.us.trans (us_parts g)⟩
/-- A text that is right tells parts that may be. -/
theorem parse_may {s : List UInt8} {vs : List PartV} (h : parseL s = (vs, 0, 0)) : mayL (grOf vs) = true := by
  have h := parse_ok.2 h
  unfold parseOk at h
  split at h
  · obtain ⟨_, _, m, e⟩ := (say_ok _ _).1 h
    rw [← e]; exact m
  · cases h
end Go.Proofs.YtjgcjnkeeiaafaaGreatDoor.P3.L

namespace Go.Proofs.YtjgcjnkeeiaafaaGreatDoor.P3.L
open Go.RowKit Go.Shelf Go.Proofs.YtjgcjnkeeiaafaaGreatDoor Go.Proofs.YtjgcjnkeeiaafaaGreatDoor.P3 Go.Proofs.YtjgcjnkeeiaafaaGreatDoor.P3.C
def aw1 : ByteArray := ⟨#[101, 118, 101, 110, 116, 32, 97, 32, 114, 111, 108, 101, 32, 114, 59, 32, 99, 111, 110, 100, 105, 116, 105, 111, 110, 32, 97, 32, 97, 32, 50, 59]⟩
def aw2 : ByteArray := ⟨#[101, 118, 101, 110, 116, 32, 97, 32, 114, 111, 108, 101, 59]⟩
def aw3 : ByteArray := ⟨#[101, 118, 101, 110, 116, 32, 97, 32, 114, 111, 108, 101, 32, 114, 59, 32, 101, 118, 101, 110, 116, 32, 97, 32, 114, 111, 108, 101, 32, 114, 59]⟩
def awV : List PartV := [.e ⟨[97], [], [114], true, false, -1⟩, .r ⟨1, [97], [97], 2⟩]
theorem aw_p1 : parseL aw1.data.toList = (awV, 0, 0) := by kernel_rfl
theorem aw_p2 : parseL aw2.data.toList = ([], 12, 2) := by kernel_rfl
theorem aw_p3 : parseL aw3.data.toList = ([], 16, 6) := by kernel_rfl
/-- The graph that awake reads and prints. -/
def awG (ga : Option Addr) (gc b o ec b2 o2 rc : Nat) (ua : Option Addr) (uc : Nat) : Gr :=
  ⟨[], [⟨⟨#[97]⟩, ⟨#[]⟩, ⟨#[114]⟩, true, false, -1⟩], [⟨1, ⟨#[97]⟩, ⟨#[97]⟩, 2⟩], [], ga, gc, some ⟨b, o, none⟩, ec, some ⟨b2, o2, none⟩, rc, ua, uc⟩
theorem aw_c1 (ga : Option Addr) (gc b o ec b2 o2 rc : Nat) (ua : Option Addr) (uc : Nat) : checkL (awG ga gc b o ec b2 o2 rc ua uc) = (0, 0, 0) := by kernel_rfl
theorem aw_t1 (ga : Option Addr) (gc b o ec b2 o2 rc : Nat) (ua : Option Addr) (uc : Nat) : joinS true (printT (awG ga gc b o ec b2 o2 rc ua uc)) = [101, 118, 101, 110, 116, 32, 97, 32, 114, 111, 108, 101, 32, 114, 59, 10, 99, 111, 110, 100, 105, 116, 105, 111, 110, 32, 97, 32, 97, 32, 50, 59, 10] := by kernel_rfl
def awE (b : Nat) : Gr := ⟨[⟨⟨#[]⟩, ⟨#[]⟩⟩], [], [], [], some ⟨b, 0, none⟩, 1, none, 0, none, 0, none, 0⟩
theorem aw_c2 (b : Nat) : checkL (awE b) = (1, 0, 5) := by kernel_rfl
theorem aw_s : stS [] = (0, true) := by kernel_rfl
theorem aw_in (g : Gr) {w : World} (h : LG w awV g) : ∃ ga gc b o ec b2 o2 rc ua uc, g = awG ga gc b o ec b2 o2 rc ua uc := by
  obtain ⟨gs, es, rs, us, ga, gc, ea, ec, ra, rc, ua, uc⟩ := g
  obtain ⟨hI, _, _, _, h0, h1, h2, h3⟩ := h
  simp only at h0 h1 h2 h3
  have e0 : gsOf awV = [] := rfl
  have e1 : esOf awV = [⟨⟨#[97]⟩, ⟨#[]⟩, ⟨#[114]⟩, true, false, -1⟩] := rfl
  have e2 : rsOf awV = [⟨1, ⟨#[97]⟩, ⟨#[97]⟩, 2⟩] := rfl
  have e3 : usOf awV = [] := rfl
  rw [e0] at h0; rw [e1] at h1; rw [e2] at h2; rw [e3] at h3
  subst h0 h1 h2
  obtain rfl : us = [] := by simpa using h3
  obtain ⟨b, o, hA, _⟩ := hI.es (by simp [evC])
  obtain ⟨b2, o2, hA2, _⟩ := hI.rs (by simp [rlC])
  simp only at hA hA2
  subst hA hA2
  exact ⟨ga, gc, b, o, ec, b2, o2, rc, ua, uc, rfl⟩
theorem aw_parse1 (w : World) : Calls Tryz.prog 5 #[.string ⟨#[101, 118, 101, 110, 116, 32, 97, 32, 114, 111, 108, 101, 32, 114, 59, 32, 99, 111, 110, 100, 105, 116, 105, 111, 110, 32, 97, 32, 97, 32, 50, 59]⟩] w fun e w' =>
    ∃ ga gc b o ec b2 o2 rc ua uc, e = .returned (.tuple #[.agg #[.slice ga 0 gc, .slice (some ⟨b, o, none⟩) 1 ec, .slice (some ⟨b2, o2, none⟩) 1 rc, .slice ua 0 uc], .int .i64 0, .int .i64 0]) ∧ Below w.heap.size w w' ∧ LG w' awV (awG ga gc b o ec b2 o2 rc ua uc) := by
  refine (parse_any aw1 w (by decide)).mono fun e w' ⟨hb, h⟩ => ?_
  rw [aw_p1, if_pos rfl] at h
  obtain ⟨v0, v1, v2, v3, rfl, h⟩ := h
  obtain ⟨g, rfl, rfl, rfl, rfl, hg⟩ := gro_in h (parse_may aw_p1)
  obtain ⟨ga, gc, b, o, ec, b2, o2, rc, ua, uc, rfl⟩ := aw_in g hg
  exact ⟨ga, gc, b, o, ec, b2, o2, rc, ua, uc, rfl, hb, hg⟩
theorem aw_parse2 (w : World) : Calls Tryz.prog 5 #[.string ⟨#[101, 118, 101, 110, 116, 32, 97, 32, 114, 111, 108, 101, 59]⟩] w fun e w' =>
    e = .returned (.tuple #[grZ, .int .i64 12, .int .i64 2]) ∧ Below w.heap.size w w' := by
  refine (parse_any aw2 w (by decide)).mono fun e w' ⟨hb, h⟩ => ?_
  rw [aw_p2, if_neg (by decide)] at h
  exact ⟨h, hb⟩
theorem aw_parse3 (w : World) : Calls Tryz.prog 5 #[.string ⟨#[101, 118, 101, 110, 116, 32, 97, 32, 114, 111, 108, 101, 32, 114, 59, 32, 101, 118, 101, 110, 116, 32, 97, 32, 114, 111, 108, 101, 32, 114, 59]⟩] w fun e w' =>
    e = .returned (.tuple #[grZ, .int .i64 16, .int .i64 6]) ∧ Below w.heap.size w w' := by
  refine (parse_any aw3 w (by decide)).mono fun e w' ⟨hb, h⟩ => ?_
  rw [aw_p3, if_neg (by decide)] at h
  exact ⟨h, hb⟩
theorem aw_print1 (w : World) (ga : Option Addr) (gc b o ec b2 o2 rc : Nat) (ua : Option Addr) (uc : Nat) (h : LG w awV (awG ga gc b o ec b2 o2 rc ua uc)) (ht : Tab w.heap.size w) :
    Calls Tryz.prog 8 #[.agg #[.slice ga 0 gc, .slice (some ⟨b, o, none⟩) 1 ec, .slice (some ⟨b2, o2, none⟩) 1 rc, .slice ua 0 uc]] w fun e w' =>
      e = .returned (.tuple #[.string ⟨#[101, 118, 101, 110, 116, 32, 97, 32, 114, 111, 108, 101, 32, 114, 59, 10, 99, 111, 110, 100, 105, 116, 105, 111, 110, 32, 97, 32, 97, 32, 50, 59, 10]⟩, .int .i64 0]) ∧ Below w.heap.size w w' := by
  refine (print_any w _ h.lies h.small h.cap h.nil ht).mono fun e w' ⟨hb, h⟩ => ?_
  rw [aw_c1, aw_t1, if_pos rfl] at h
  exact ⟨h, hb⟩
theorem aw_print2 (w : World) (b : Nat) (h : w.heap[b]? = some (.cells #[.string ⟨#[]⟩, .string ⟨#[]⟩] 37 (0, 0))) (ht : Tab w.heap.size w) :
    Calls Tryz.prog 8 #[.agg #[.slice (some ⟨b, 0, none⟩) 1 1, .slice none 0 0, .slice none 0 0, .slice none 0 0]] w fun e w' =>
      e = .returned (.tuple #[.string ⟨#[]⟩, .int .i64 5]) ∧ Below w.heap.size w w' := by
  have hI : InG w (awE b) := ⟨fun _ => ⟨b, 0, rfl, B.blk_lt h, fun j u hu => by
      rw [Nat.zero_add]
      match j, hu with
      | 0, hu => obtain rfl : Value.string ⟨#[]⟩ = u := by simpa [awE, gpC] using hu
                 exact B.cell_blk h rfl
      | 1, hu => obtain rfl : Value.string ⟨#[]⟩ = u := by simpa [awE, gpC] using hu
                 exact B.cell_blk h rfl
      | n + 2, hu => simp [awE, gpC] at hu⟩, fun h => absurd rfl h, fun h => absurd rfl h, fun h => absurd rfl h, fun _ h => nomatch h⟩
  have hz : SzG (awE b) := ⟨by show 1 * 32 ≤ _; omega, by show 0 * 64 ≤ _; omega, by show 0 * 48 ≤ _; omega, by show 0 * 56 ≤ _; omega, (fun p hp => by obtain rfl : p = _ := List.mem_singleton.1 hp; exact ⟨by decide, by decide⟩), (fun _ h => nomatch h), (fun _ h => nomatch h), (fun _ h => nomatch h)⟩
  refine (print_any w (awE b) hI hz (fun _ h => nomatch h) (fun _ h => nomatch h) ht).mono fun e w' ⟨hb, h⟩ => ?_
  rw [aw_c2, if_neg (by decide)] at h
  exact ⟨h, hb⟩
theorem aw_state (w : World) : Calls Tryz.prog 9 #[.slice none 0 0] w fun e w' => e = .returned (.tuple #[grZ, .int .i64 0, .int .i64 2]) ∧ Below w.heap.size w w' := by
  refine (statement_any w none 0 [] (fun h => absurd rfl h) (by decide)).mono fun e w' ⟨hb, _, h⟩ => ?_
  rw [show ([] : List Tok).map bare = [] from rfl, aw_s, if_pos rfl] at h
  exact ⟨h, hb⟩
end Go.Proofs.YtjgcjnkeeiaafaaGreatDoor.P3.L

namespace Go.Proofs.YtjgcjnkeeiaafaaGreatDoor.P3.L
open Go.RowKit Go.Shelf Go.Proofs.YtjgcjnkeeiaafaaGreatDoor Go.Proofs.YtjgcjnkeeiaafaaGreatDoor.P3 Go.Proofs.YtjgcjnkeeiaafaaGreatDoor.P3.C
theorem aw_rows {w : World} {ga : Option Addr} {gc b o ec b2 o2 rc : Nat} {ua : Option Addr} {uc : Nat} (h : LG w awV (awG ga gc b o ec b2 o2 rc ua uc)) :
    (w.cell? ⟨b, o, none⟩ = some (.string ⟨#[97]⟩) ∧ w.cell? ⟨b, o + 1, none⟩ = some (.string ⟨#[]⟩) ∧ w.cell? ⟨b, o + 2, none⟩ = some (.string ⟨#[114]⟩) ∧ w.cell? ⟨b, o + 3, none⟩ = some (.bool true) ∧ w.cell? ⟨b, o + 4, none⟩ = some (.bool false) ∧ w.cell? ⟨b, o + 5, none⟩ = some (.int .i64 (-1))) ∧
    w.cell? ⟨b2, o2 + 3, none⟩ = some (.int .i64 2) := by
  obtain ⟨b', o', h1, _, h2⟩ := h.lies.es (by simp [awG, evC])
  obtain ⟨b3, o3, h3, _, h4⟩ := h.lies.rs (by simp [awG, rlC])
  simp only [awG, Option.some.injEq, Addr.mk.injEq, and_true] at h1 h3
  obtain ⟨rfl, rfl⟩ := h1
  obtain ⟨rfl, rfl⟩ := h3
  exact ⟨⟨h2 0 _ rfl, h2 1 _ rfl, h2 2 _ rfl, h2 3 _ rfl, h2 4 _ rfl, h2 5 _ rfl⟩, h4 3 _ rfl⟩
set_option maxRecDepth 100000 in
set_option maxHeartbeats 8000000 in
theorem awake_any (w : World) (ht : Tab w.heap.size w) : Calls Tryz.prog 4 #[] w fun e w' => e = .returned (.bool true) ∧ Below w.heap.size w w' := by
  have HT := Lib.hid ht
  clear ht
  go_enter Tryz.func4, Tryz.ntmps4
  go_wp2_with fail
  refine (aw_parse1 w).mono ?_
  rintro e w1 ⟨ga, gc, b, o, ec, b2, o2, rc, ua, uc, rfl, hb1, hg1⟩
  have hg1' := hg1.below ((Below.refl _ _).alloc (Nat.le_refl _) (.cells #[.slice ga 0 gc, .slice (some ⟨b, o, none⟩) 1 ec, .slice (some ⟨b2, o2, none⟩) 1 rc, .slice ua 0 uc] 28))
  have hb1' := hb1.alloc hb1.size (.cells #[.slice ga 0 gc, .slice (some ⟨b, o, none⟩) 1 ec, .slice (some ⟨b2, o2, none⟩) 1 rc, .slice ua 0 uc] 28)
  have hx1 := B.heap_new w1 (.cells #[.slice ga 0 gc, .slice (some ⟨b, o, none⟩) 1 ec, .slice (some ⟨b2, o2, none⟩) 1 rc, .slice ua 0 uc] 28)
  have HG1 := Lib.hid hg1'
  have HB1 := Lib.hid hb1'
  have HX1 := Lib.hid hx1
  have HS1 := Lib.hid hb1.size
  clear hb1 hg1 hg1' hb1' hx1
  go_wp2_with fail
  refine (aw_print1 _ ga gc b o ec b2 o2 rc ua uc HG1.out (tab_on HT.out HB1.out)).mono ?_
  rintro e w2 ⟨rfl, hb2⟩
  have HB2 := Lib.hid (HB1.out.trans (hb2.mono HB1.out.size))
  have HX2 := Lib.hid ((hb2.block _ (B.blk_lt HX1.out)).trans HX1.out)
  have HG2 := Lib.hid (HG1.out.below hb2)
  clear hb2 HB1 HX1 HG1
  go_wp2_with fail
  refine (aw_parse2 w2).mono ?_
  rintro e w3 ⟨rfl, hb3⟩
  have hb3' := hb3.alloc hb3.size (.cells #[nilV, nilV, nilV, nilV] 28)
  have HB3 := Lib.hid (HB2.out.trans (hb3'.mono HB2.out.size))
  have HX3 := Lib.hid ((hb3'.block _ (B.blk_lt HX2.out)).trans HX2.out)
  have HG3 := Lib.hid (HG2.out.below hb3')
  clear hb3 hb3' HB2 HX2 HG2
  go_wp2_with fail
  refine (aw_parse3 _).mono ?_
  rintro e w4 ⟨rfl, hb4⟩
  have HB4 := Lib.hid (HB3.out.trans (hb4.mono HB3.out.size))
  have HX4 := Lib.hid ((hb4.block _ (B.blk_lt HX3.out)).trans HX3.out)
  have HG4 := Lib.hid (HG3.out.below hb4)
  clear hb4 HB3 HX3 HG3
  have hb4' := ((Below.refl w4.heap.size w4).alloc (Nat.le_refl _) (.cells #[nilV, nilV, nilV, nilV] 28)).alloc (by rw [World.size_alloc]; omega) (.cells #[.string ⟨#[]⟩, .string ⟨#[]⟩] 37)
  have HB5 := Lib.hid (HB4.out.trans (hb4'.mono HB4.out.size))
  have HX5 := Lib.hid ((hb4'.block _ (B.blk_lt HX4.out)).trans HX4.out)
  have HG5 := Lib.hid (HG4.out.below hb4')
  have hn := B.heap_new (w4.alloc (.cells #[nilV, nilV, nilV, nilV] 28)) (.cells #[.string ⟨#[]⟩, .string ⟨#[]⟩] 37)
  rw [World.size_alloc] at hn
  have HN := Lib.hid hn
  have HT5 := Lib.hid (tab_on HT.out HB5.out)
  clear hn
  clear hb4' HB4 HX4 HG4
  go_wp2_with fail
  refine (aw_print2 _ (w4.heap.size + 1) HN.out HT5.out).mono ?_
  rintro e w5 ⟨rfl, hb5⟩
  have HB6 := Lib.hid (HB5.out.trans (hb5.mono HB5.out.size))
  have HX6 := Lib.hid ((hb5.block _ (B.blk_lt HX5.out)).trans HX5.out)
  have HG6 := Lib.hid (HG5.out.below hb5)
  clear hb5 HB5 HX5 HG5 HN
  go_wp2_with fail
  refine (aw_state w5).mono ?_
  rintro e w6 ⟨rfl, hb6⟩
  have HB7 := Lib.hid (HB6.out.trans (hb6.mono HB6.out.size))
  have hX := (hb6.block _ (B.blk_lt HX6.out)).trans HX6.out
  have hG := HG6.out.below hb6
  obtain ⟨⟨q0, q1, q2, q3, q4, q5⟩, q6⟩ := aw_rows hG
  have c1 := B.cell_blk (i := 1) hX rfl
  have c2 := B.cell_blk (i := 2) hX rfl
  have lX := B.blk_lt hX
  obtain ⟨_, _, e1, l1, _⟩ := hG.lies.es (by simp [awG, evC])
  obtain ⟨_, _, e2, l2, _⟩ := hG.lies.rs (by simp [awG, rlC])
  simp only [awG, Option.some.injEq, Addr.mk.injEq, and_true] at e1 e2
  obtain ⟨rfl, rfl⟩ := e1
  obtain ⟨rfl, rfl⟩ := e2
  have e1 : ∀ w : World, (binOp .eql 40 (.agg #[.string ⟨#[97]⟩, .string ⟨#[]⟩, .string ⟨#[114]⟩, .bool true, .bool false, .int .i64 (-1)]) (.agg #[.string ⟨#[97]⟩, .string ⟨#[]⟩, .string ⟨#[114]⟩, .bool true, .bool false, .int .i64 (-1)])).run Tryz.prog w = .ok (.bool true) w := fun w => by kernel_rfl
  have HBl := Lib.hid (HB7.out.alloc HB7.out.size (.cells #[nilV, nilV, nilV, nilV] 28))
  clear hX hG hb6 HX6 HG6 HB6 HB7 HT
  go_wp2_with fail
  go_ret
  exact ⟨rfl, HBl.out⟩
end Go.Proofs.YtjgcjnkeeiaafaaGreatDoor.P3.L

namespace Go.Proofs.YtjgcjnkeeiaafaaGreatDoor.P3.L
open Go.RowKit Go.Shelf Go.Proofs.YtjgcjnkeeiaafaaGreatDoor Go.Proofs.YtjgcjnkeeiaafaaGreatDoor.P3 Go.Proofs.YtjgcjnkeeiaafaaGreatDoor.P3.C
/-- The box of a graph. -/
abbrev gbox (g : Gr) : Obj := .cells #[.slice g.ga g.gs.length g.gc, .slice g.ea g.es.length g.ec, .slice g.ra g.rs.length g.rc, .slice g.ua g.us.length g.uc] 28 (0, 0)
structure GB (w W : World) (b : Nat) (g : Gr) : Prop where
  old : Below w.heap.size w W
  box : W.heap[b]? = some (gbox g)
theorem GB.call {w W W' : World} {b : Nat} {g : Gr} (h : GB w W b g) (hb : Below W.heap.size W W') : GB w W' b g := ⟨h.old.trans (hb.mono h.old.size), (hb.block _ (B.blk_lt h.box)).trans h.box⟩
theorem GB.alloc {w W : World} {b : Nat} {g : Gr} (h : GB w W b g) (o : Obj) : GB w (W.alloc o) b g := ⟨h.old.alloc h.old.size o, B.heap_old (B.blk_lt h.box) h.box⟩
theorem GB.new {w W : World} (g : Gr) (h : Below w.heap.size w W) : GB w (W.alloc (gbox g)) W.heap.size g := ⟨h.alloc h.size _, B.heap_new _ _⟩
theorem GB.cells {w W : World} {b : Nat} {g : Gr} (h : GB w W b g) : W.cell? ⟨b, 0, none⟩ = some (.slice g.ga g.gs.length g.gc) ∧ W.cell? ⟨b, 1, none⟩ = some (.slice g.ea g.es.length g.ec) ∧ W.cell? ⟨b, 2, none⟩ = some (.slice g.ra g.rs.length g.rc) ∧ W.cell? ⟨b, 3, none⟩ = some (.slice g.ua g.us.length g.uc) ∧ b < W.heap.size :=
  ⟨B.cell_blk h.box rfl, B.cell_blk h.box rfl, B.cell_blk h.box rfl, B.cell_blk h.box rfl, B.blk_lt h.box⟩
theorem LG.alloc {w : World} {vs : List PartV} {g : Gr} (h : LG w vs g) (o : Obj) : LG (w.alloc o) vs g := h.below ((Below.refl _ _).alloc (Nat.le_refl _) _)
/-- Two graphs of the same parts. -/
theorem LG.same {w w' : World} {vs : List PartV} {g h : Gr} (x : LG w vs g) (y : LG w' vs h) : h.gs = g.gs ∧ h.es = g.es ∧ h.rs = g.rs ∧ h.us.map usBare = g.us.map usBare :=
  ⟨y.gs.trans x.gs.symm, y.es.trans x.es.symm, y.rs.trans x.rs.symm, y.us.trans x.us.symm⟩
/-- The parts that a graph of these parts tells are these parts. -/
def zG : Gr := ⟨[], [], [], [], none, 0, none, 0, none, 0, none, 0⟩
theorem z_in (w : World) : InG w zG := ⟨fun h => absurd rfl h, fun h => absurd rfl h, fun h => absurd rfl h, fun h => absurd rfl h, fun _ h => nomatch h⟩
theorem z_sz : SzG zG := ⟨by decide, by decide, by decide, by decide, (fun _ h => nomatch h), (fun _ h => nomatch h), (fun _ h => nomatch h), (fun _ h => nomatch h)⟩
theorem z_same (w : World) : Calls Tryz.prog 7 #[.agg #[.slice none 0 0, .slice none 0 0, .slice none 0 0, .slice none 0 0], .agg #[.slice none 0 0, .slice none 0 0, .slice none 0 0, .slice none 0 0]] w fun e w' =>
    e = .returned (.bool true) ∧ Below w.heap.size w w' :=
  (refsame_any w zG zG (z_in w) (z_in w) z_sz).mono fun _ _ h => h
/-- What Parse says, in the walk's words. -/
theorem parse_word (s : ByteArray) (w : World) (hs : s.size ≤ 140737488351232) (vs : List PartV) (h : parseL s.data.toList = (vs, 0, 0)) : Calls Tryz.prog 5 #[.string s] w fun e w' =>
    ∃ g : Gr, e = .returned (.tuple #[.agg #[.slice g.ga g.gs.length g.gc, .slice g.ea g.es.length g.ec, .slice g.ra g.rs.length g.rc, .slice g.ua g.us.length g.uc], .int .i64 0, .int .i64 0]) ∧ Below w.heap.size w w' ∧ LG w' vs g := by
  refine (parse_any s w hs).mono fun e w' ⟨hb, h1⟩ => ?_
  rw [h, if_pos rfl] at h1
  obtain ⟨v0, v1, v2, v3, rfl, h1⟩ := h1
  obtain ⟨g, rfl, rfl, rfl, rfl, hg⟩ := gro_in h1 (parse_may h)
  exact ⟨g, rfl, hb, hg⟩
theorem parse_wrong (s : ByteArray) (w : World) (hs : s.size ≤ 140737488351232) (h : (parseL s.data.toList).2.2 ≠ 0) : Calls Tryz.prog 5 #[.string s] w fun e w' =>
    e = .returned (.tuple #[grZ, .int .i64 ((parseL s.data.toList).2.1 : Int), .int .i64 ((parseL s.data.toList).2.2 : Int)]) ∧ Below w.heap.size w w' := by
  refine (parse_any s w hs).mono fun e w' ⟨hb, h1⟩ => ?_
  rw [if_neg h] at h1
  exact ⟨h1, hb⟩
theorem LG.parts {w w' : World} {vs : List PartV} {g h : Gr} (_ : LG w vs g) (y : LG w' (partsV g) h) : sameL g h = true := same_self y.back.1 y.back.2.1 y.back.2.2.1 y.back.2.2.2
theorem LG.twice {w w' : World} {vs : List PartV} {g h : Gr} (x : LG w vs g) (y : LG w' vs h) : sameL g h = true := same_self (x.same y).1 (x.same y).2.1 (x.same y).2.2.1 (x.same y).2.2.2
theorem fst_zero {a : List PartV × Nat × Nat} (h : a.2.2 = 0 → a.2.1 = 0) (h0 : a.2.2 = 0) : a = (a.1, 0, 0) := by
  obtain ⟨x, y, z⟩ := a
  simp only at h h0
  rw [h h0, h0]
theorem parse_shape (s : List UInt8) : (parseL s).2.2 = 0 → (parseL s).2.1 = 0 := by
  unfold parseL
  generalize lexL s = r
  obtain ⟨toks, k, c⟩ := r
  simp only
  by_cases hc : c = 0
  · rw [if_pos hc]
    unfold tellT
    generalize splitT (toks.map bare) [] = p
    generalize locAt toks (segS toks 0 0).2 = y
    by_cases hp : p.2 = []
    · rw [if_pos hp]
      unfold goodL
      generalize firstBad p.1 0 = f
      cases f with
      | some k => exact fun h => absurd h (show ¬ (2 : Nat) = 0 by decide)
      | none =>
        simp only
        unfold finL
        generalize checkL (grOf (p.1.map stV)) = d
        by_cases hd : d.2.2 = 0
        · rw [if_pos hd]; exact fun _ => rfl
        · rw [if_neg hd]; exact fun h => absurd h hd
    · rw [if_neg hp]; exact fun h => absurd h (show ¬ (2 : Nat) = 0 by decide)
  · rw [if_neg hc]; exact fun h => absurd h hc
end Go.Proofs.YtjgcjnkeeiaafaaGreatDoor.P3.L

namespace Go.Proofs.YtjgcjnkeeiaafaaGreatDoor.P3.L
open Go.RowKit Go.Proofs.YtjgcjnkeeiaafaaGreatDoor Go.Proofs.YtjgcjnkeeiaafaaGreatDoor.P3
def kindB (l : List UInt8) : Nat := if l.take 2 = [101, 118] then 1 else if l.head? = some 103 then 0 else if l.head? = some 117 then 3 else 2
/-- A line: something without a line feed, and one. -/
def LineOk (k : Nat) (l : List UInt8) : Prop := ∃ x, l = x ++ [10] ∧ x ≠ [] ∧ (∀ c ∈ x, c ≠ 10) ∧ kindB l = k
/-- A line of words, the first of which is not short. -/
theorem line_of (k : Nat) (c1 c2 : UInt8) (t : List UInt8) (ws : List (List UInt8)) (h : ∀ x ∈ (c1 :: c2 :: t) :: ws, ∀ c ∈ x, c ≠ 10) (hk : ∀ r, kindB (c1 :: c2 :: r) = k) : LineOk k (lineB ((c1 :: c2 :: t) :: ws)) := by
  refine ⟨(c1 :: c2 :: t) ++ (ws.flatMap (fun y => 32 :: y) ++ [59]), by simp [lineB], by simp, fun c hc => ?_, by simp [lineB, hk]⟩
  rcases List.mem_append.1 hc with hc | hc
  · exact h _ (List.mem_cons_self ..) c hc
  · rcases List.mem_append.1 hc with hc | hc
    · obtain ⟨y, hy, hc⟩ := List.mem_flatMap.1 hc
      rcases List.mem_cons.1 hc with rfl | hc
      · decide
      · exact h y (List.mem_cons_of_mem _ hy) c hc
    · obtain rfl := List.mem_singleton.1 hc; decide
end Go.Proofs.YtjgcjnkeeiaafaaGreatDoor.P3.L

namespace Go.Proofs.YtjgcjnkeeiaafaaGreatDoor.P3.L
open Go.RowKit Go.Shelf Go.Proofs.YtjgcjnkeeiaafaaGreatDoor Go.Proofs.YtjgcjnkeeiaafaaGreatDoor.P3 Go.Proofs.YtjgcjnkeeiaafaaGreatDoor.P3.C
/-- Words with a space ahead of each but the first. -/
def spW : List (List UInt8) → List UInt8
  | [] => []
  | x :: r => x ++ r.flatMap (fun y => 32 :: y)
end Go.Proofs.YtjgcjnkeeiaafaaGreatDoor.P3.L

namespace Go.Proofs.YtjgcjnkeeiaafaaGreatDoor.P3.L
open Go.RowKit Go.Shelf Go.Proofs.YtjgcjnkeeiaafaaGreatDoor Go.Proofs.YtjgcjnkeeiaafaaGreatDoor.P3 Go.Proofs.YtjgcjnkeeiaafaaGreatDoor.P3.C
def evS (v : Ev) : List UInt8 :=
  [101, 118, 101, 110, 116, 32] ++ v.name.data.toList ++ (if v.group.toList = [] then [] else [32, 105, 110, 32] ++ v.group.data.toList) ++ ([32, 114, 111, 108, 101, 32] ++ v.role.data.toList) ++
  (if v.inn then [] else [32, 101, 120, 99, 108, 117, 100, 101, 100]) ++ (if v.done then [32, 100, 111, 110, 101] else []) ++
  (if v.due = -1 then [] else if v.due = 1048576 then [32, 112, 101, 110, 100, 105, 110, 103] else [32, 100, 117, 101, 32] ++ digL v.due.toNat)
def EvP (v : Ev) (w : World) (e : Ending) (w' : World) : Prop := ∃ t : ByteArray, e = .returned (.string t) ∧ t.data.toList = spW (evW v) ∧ t.size ≤ 200 ∧ Below w.heap.size w w'
end Go.Proofs.YtjgcjnkeeiaafaaGreatDoor.P3.L

namespace Go.Proofs.YtjgcjnkeeiaafaaGreatDoor.P3
/-- The class at a place: '.' behind the last. -/
def clsAt (l : List B3) (i : Nat) : Key := match l[i]? with | some t => cls t | none => [46]
theorem cls_ne (t : B3) : cls t ≠ [46] := by
  unfold cls
  split
  · decide
  · split
    · split
      · rename_i h
        intro e
        rw [e] at h
        exact absurd h (by decide)
      · decide
    · decide
theorem at_end {l : List B3} {i : Nat} : clsAt l i = [46] ↔ l.length ≤ i := by
  unfold clsAt
  cases h : l[i]? with
  | none => exact ⟨fun _ => List.getElem?_eq_none_iff.1 h, fun _ => rfl⟩
  | some t =>
    have := (List.getElem?_eq_some_iff.1 h).1
    exact ⟨fun e => absurd e (cls_ne t), fun e => by omega⟩
section
variable {l : List B3} {x : Key} {i : Nat}
theorem see_cls (hx : x ≠ [46]) : seeB l x (i, false) = (clsAt l i == x) := by
  unfold clsAt
  cases h : l[i]? with
  | none =>
    rw [see_none h]
    exact (beq_eq_false_iff_ne.2 (fun e => hx e.symm)).symm
  | some t => rw [see_at h]
theorem see_yes (hx : x ≠ [46]) (h : clsAt l i = x) : seeB l x (i, false) = true := by rw [see_cls hx, h]; exact beq_self_eq_true x
theorem see_no (hx : x ≠ [46]) (h : clsAt l i ≠ x) : seeB l x (i, false) = false := by rw [see_cls hx]; exact beq_eq_false_iff_ne.2 h
theorem may_yes (hx : x ≠ [46]) (h : clsAt l i = x) : mayS l x (i, false) = (i + 1, false) := by rw [mayS, if_pos (see_yes hx h)]
theorem may_no (hx : x ≠ [46]) (h : clsAt l i ≠ x) : mayS l x (i, false) = (i, false) := by rw [mayS, see_no hx h]; rfl
theorem must_yes (hx : x ≠ [46]) (h : clsAt l i = x) : mustS l x (i, false) = (i + 1, false) := by rw [mustS, if_pos (see_yes hx h)]
theorem must_no (hx : x ≠ [46]) (h : clsAt l i ≠ x) : mustS l x (i, false) = (i, true) := by rw [mustS, see_no hx h]; rfl
theorem opt_none (hx : x ≠ [46]) (h : clsAt l i ≠ x) : optS l x (i, false) = (i, false) ∧ optV l x (i, false) = [] := by
  rw [optS, optV, see_no hx h]; exact ⟨rfl, rfl⟩
theorem opt_some (hx : x ≠ [46]) (h : clsAt l i = x) (h2 : clsAt l (i + 1) = [110]) : optS l x (i, false) = (i + 2, false) := by
  rw [optS, if_pos (see_yes hx h), may_yes hx h, must_yes (by decide) h2]
theorem opt_no (hx : x ≠ [46]) (h : clsAt l i = x) (h2 : clsAt l (i + 1) ≠ [110]) : optS l x (i, false) = (i + 1, true) := by
  rw [optS, if_pos (see_yes hx h), may_yes hx h, must_no (by decide) h2]
theorem end_yes (h : clsAt l i = [46]) (hi : i ≤ l.length) : endS l (i, false) = (i, false) := by
  have := at_end.1 h
  have e : i = l.length := by omega
  simp [endS, e]
theorem end_no (h : clsAt l i ≠ [46]) : endS l (i, false) = (i, true) := by
  have e : ¬ i = l.length := fun e => h (at_end.2 (by omega))
  simp [endS, e]
/-- A place ahead of which there are tokens of known classes lies within. -/
theorem at_lt (h : clsAt l i ≠ [46]) : i < l.length := by
  rcases Nat.lt_or_ge i l.length with h1 | h1
  · exact h1
  · exact absurd (at_end.2 h1) h
end
/-- Where a statement ends. -/
def dEnd (l : List B3) (i : Nat) : RS := if clsAt l i = [46] then (i, false) else (i, true)
theorem end_doc {l : List B3} {i : Nat} (hi : i ≤ l.length) : endS l (i, false) = dEnd l i := by
  unfold dEnd
  split
  · rename_i h; exact end_yes h hi
  · rename_i h; exact end_no h
/-- A name behind a word, then the rest: the document's 'optional'. -/
def dOpt (l : List B3) (x : Key) (i : Nat) : RS := if clsAt l i = x then (if clsAt l (i + 1) = [110] then (i + 2, false) else (i + 1, true)) else (i, false)
theorem opt_doc {l : List B3} {x : Key} {i : Nat} (hx : x ≠ [46]) : optS l x (i, false) = dOpt l x i := by
  unfold dOpt
  split
  · rename_i h
    split
    · rename_i h2; exact opt_some hx h h2
    · rename_i h2; exact opt_no hx h h2
  · rename_i h; exact (opt_none hx h).1
theorem dopt_le {l : List B3} {x : Key} {i : Nat} (hi : i ≤ l.length) (h : (dOpt l x i).2 = false) : (dOpt l x i).1 ≤ l.length := by
  unfold dOpt at h ⊢
  split
  · rename_i h1
    split
    · rename_i h2
      have := at_lt (l := l) (i := i + 1) (by rw [h2]; decide)
      show i + 2 ≤ _
      omega
    · rename_i h2; rw [if_pos h1, if_neg h2] at h; cases h
  · exact hi
/-- The document's group. -/
def dGr (l : List B3) : RS := if clsAt l 1 = [110] then (if (dOpt l [105, 110] 2).2 = true then dOpt l [105, 110] 2 else dEnd l (dOpt l [105, 110] 2).1) else (1, true)
theorem gr_doc (l : List B3) : endS l (grS l) = dGr l := by
  unfold grS dGr
  split
  · rename_i h
    have hl := at_lt (l := l) (i := 1) (by rw [h]; decide)
    rw [must_yes (by decide) h, opt_doc (by decide)]
    have hle := dopt_le (l := l) (x := [105, 110]) (i := 2) hl
    generalize dOpt l [105, 110] (1 + 1) = s at *
    obtain ⟨a, b⟩ := s
    cases b with
    | true => exact end_bad l a
    | false => exact end_doc (hle rfl)
  · rename_i h
    rw [must_no (by decide) h, opt_bad, end_bad]
end Go.Proofs.YtjgcjnkeeiaafaaGreatDoor.P3
