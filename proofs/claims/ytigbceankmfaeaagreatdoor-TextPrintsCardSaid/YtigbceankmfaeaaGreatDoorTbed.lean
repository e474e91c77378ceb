/-
  Contract of the document's own Print (gen_tsc.py).
-/
import Derived.Test.YtigbceankmfaeaaGreatDoorTbdf
import Derived.Test.YtigbceankmfaeaaGreatDoorTbec
import Derived.Test.YtigbceankmfaeaaGreatDoorTbdd
import Derived.StillTailTactics
namespace Go.Proofs.YtigbceankmfaeaaGreatDoor.P3.L
open Go.RowKit Go.Shelf Go.Proofs.YtigbceankmfaeaaGreatDoor Go.Proofs.YtigbceankmfaeaaGreatDoor.P3 Go.Proofs.YtigbceankmfaeaaGreatDoor.P3.C
/-- The text of the first lines. -/
def LB (L : List (List (List UInt8))) (j : Nat) : List UInt8 := (L.take j).flatMap lineB
theorem lb_succ {L : List (List (List UInt8))} {j : Nat} {ws : List (List UInt8)} (h : L[j]? = some ws) : LB L (j + 1) = LB L j ++ lineB ws := by
  unfold LB
  rw [List.take_add_one, h, List.flatMap_append]
  simp
theorem lb_le (L : List (List (List UInt8))) (j : Nat) : (LB L j).length ≤ (L.flatMap lineB).length := by
  have e : L.flatMap lineB = LB L j ++ (L.drop j).flatMap lineB := by unfold LB; rw [← List.flatMap_append, List.take_append_drop]
  rw [e, List.length_append]; omega
theorem lb_all (g : Gr) : LB (linesW g) (g.gs.length + g.es.length + g.rs.length + g.us.length) = printB g := by
  unfold LB printB
  rw [List.take_of_length_le]
  unfold linesW
  simp only [List.length_append, List.length_map]; omega
theorem dl (s : ByteArray) : s.toList = s.data.toList := Lib.toList_data s
theorem gp_txt' (x : Gp) : lineB (gpW x) = [103, 114, 111, 117, 112, 32] ++ x.name.data.toList ++ (if x.parent.toList = [] then [] else [32, 105, 110, 32] ++ x.parent.data.toList) ++ [59, 10] := by
  rw [line_sp]
  unfold gpW optB
  simp only [dl]
  by_cases h : x.parent.data.toList = []
  · simp [h, spW]
  · simp [h, spW]
def timeS (x : Rl) : List UInt8 := if x.time = untB x.kind then [] else 32 :: digL x.time.toNat
theorem rl_txt' (x : Rl) : lineB (rlW x) = kwB x.kind ++ [32] ++ x.src.data.toList ++ [32] ++ x.dst.data.toList ++ timeS x ++ [59, 10] := by
  rw [line_sp]
  unfold rlW timeS
  simp only [dl]
  by_cases h : x.time = untB x.kind
  · simp [h, spW]
  · simp [h, spW]
def rolesS (l : List ByteArray) : List UInt8 := l.flatMap fun s => 32 :: s.data.toList
theorem us_txt' (x : Us) : lineB (usW x) = [117, 115, 101, 114, 32] ++ x.name.data.toList ++ [32, 114, 111, 108, 101, 115] ++ rolesS x.roles ++ (if x.sub.toList = [] then [] else [32, 115, 117, 98, 32] ++ x.sub.data.toList) ++ [59, 10] := by
  rw [line_sp]
  unfold usW optB rolesS
  simp only [dl]
  have e : ∀ l : List ByteArray, (l.map ByteArray.toList).flatMap (fun y => (32 : UInt8) :: y) = l.flatMap fun s => 32 :: s.data.toList := fun l => by rw [List.flatMap_map]; simp only [dl]
  by_cases h : x.sub.data.toList = []
  · simp only [if_pos h]; simp [spW, e]
  · simp only [if_neg h]; simp [spW, e]
theorem roles_succ {l : List ByteArray} {k : Nat} (h : k < l.length) : rolesS (l.take (k + 1)) = rolesS (l.take k) ++ 32 :: l[k]!.data.toList := by
  unfold rolesS
  rw [List.take_succ_eq_append_getElem h, List.flatMap_append, getElem!_pos l k h]
  simp
theorem roles_len : ∀ (l : List ByteArray), (∀ s ∈ l, s.size ≤ 20) → (rolesS l).length ≤ l.length * 21
  | [], _ => by simp [rolesS]
  | s :: r, h => by
    have ih := roles_len r (fun x hx => h x (List.mem_cons_of_mem _ hx))
    have h0 := h s (List.mem_cons_self ..)
    rw [Lib.size_eq] at h0
    unfold rolesS at ih ⊢
    rw [List.flatMap_cons, List.length_append, List.length_cons, List.length_cons]
    omega
theorem nm20 {s : ByteArray} (h : nameK s.toList = true) : s.size ≤ 20 := size_of (name_len (nameK_L h))
theorem opt20 {s : ByteArray} (h : s.toList = [] ∨ nameK s.toList = true) : s.size ≤ 20 := by
  rcases h with h | h
  · exact size_of (by rw [h]; exact Nat.zero_le _)
  · exact nm20 h
theorem long_ub {k : Int} {t : Int} (h : t ≤ longL k) : t ≤ 1048576 := Int.le_trans h (long_le k)
theorem told_cases {n : Nat} {t : Int} (h : n < 6) (h1 : (1 : Int) ≤ n) (h0 : 0 ≤ t) (hl : t ≤ longL n) :
    (t = untB n ∧ ((n = 1 ∧ t = 0) ∨ (n = 2 ∧ t = 1048576) ∨ (n = 3 ∧ t = 0) ∨ (n = 4 ∧ t = 0) ∨ (n = 5 ∧ t = 0))) ∨ (¬ t = untB n ∧ ((n = 1 ∧ 0 < t) ∨ (n = 2 ∧ t < 1048576))) := by
  unfold untB longL at *
  have : n = 1 ∨ n = 2 ∨ n = 3 ∨ n = 4 ∨ n = 5 := by omega
  rcases this with rfl | rfl | rfl | rfl | rfl <;> simp at * <;> omega
theorem kind_cases {n : Nat} (h : n < 6) (h1 : (1 : Int) ≤ n) : n = 1 ∨ n = 2 ∨ n = 3 ∨ n = 4 ∨ n = 5 := by omega
theorem kw_at (k : Int) (h1 : 1 ≤ k) (h5 : k ≤ 5) : ∃ (n : Nat) (s : ByteArray), k = n ∧ n < 6 ∧ (#[.string ⟨#[]⟩, .string ⟨#[99, 111, 110, 100, 105, 116, 105, 111, 110]⟩, .string ⟨#[114, 101, 115, 112, 111, 110, 115, 101]⟩, .string ⟨#[105, 110, 99, 108, 117, 100, 101]⟩, .string ⟨#[101, 120, 99, 108, 117, 100, 101]⟩, .string ⟨#[109, 105, 108, 101, 115, 116, 111, 110, 101]⟩] : Array Value)[n]? = some (.string s) ∧ s.data.toList = kwB k ∧ s.size ≤ 9 := by
  obtain ⟨n, rfl⟩ : ∃ n : Nat, k = n := ⟨k.toNat, by omega⟩
  match n, h1, h5 with
  | 0, h, _ => exact absurd h (by decide)
  | 1, _, _ => exact ⟨1, _, rfl, by decide, rfl, rfl, by decide⟩
  | 2, _, _ => exact ⟨2, _, rfl, by decide, rfl, rfl, by decide⟩
  | 3, _, _ => exact ⟨3, _, rfl, by decide, rfl, rfl, by decide⟩
  | 4, _, _ => exact ⟨4, _, rfl, by decide, rfl, rfl, by decide⟩
  | 5, _, _ => exact ⟨5, _, rfl, by decide, rfl, rfl, by decide⟩
  | n + 6, _, h => omega
structure Short (g : Gr) : Prop where
  gs : ∀ p ∈ g.gs, p.name.size ≤ 20 ∧ p.parent.size ≤ 20
  es : ∀ v ∈ g.es, v.name.size ≤ 20 ∧ v.group.size ≤ 20 ∧ v.role.size ≤ 20 ∧ -1 ≤ v.due ∧ v.due ≤ 1048576
  rs : ∀ r ∈ g.rs, r.src.size ≤ 20 ∧ r.dst.size ≤ 20 ∧ 1 ≤ r.kind ∧ r.kind ≤ 5 ∧ 0 ≤ r.time ∧ r.time ≤ longL r.kind
  us : ∀ u ∈ g.us, u.name.size ≤ 20 ∧ u.sub.size ≤ 20 ∧ u.roles.length ≤ 8 ∧ ∀ s ∈ u.roles, s.size ≤ 20
theorem short_of {g : Gr} (h : MayOk g) : Short g :=
  ⟨fun p hp => ⟨nm20 (h.gs p hp).1, opt20 (h.gs p hp).2⟩, fun v hv => ⟨nm20 (h.es v hv).1, opt20 (h.es v hv).2.2.1, nm20 (h.es v hv).2.1, (h.es v hv).2.2.2.1, (h.es v hv).2.2.2.2⟩,
    fun r hr => ⟨nm20 (h.rs r hr).2.2.1, nm20 (h.rs r hr).2.2.2.1, (h.rs r hr).1, (h.rs r hr).2.1, (h.rs r hr).2.2.2.2.1, (h.rs r hr).2.2.2.2.2⟩,
    fun u hu => ⟨nm20 (h.us u hu).1, opt20 (h.us u hu).2.2.1, (h.us u hu).2.2.2, fun s hs => nm20 ((h.us u hu).2.1 s hs)⟩⟩
/-- The words of relations. -/
abbrev kwO : Obj := .cells #[.string ⟨#[]⟩, .string ⟨#[99, 111, 110, 100, 105, 116, 105, 111, 110]⟩, .string ⟨#[114, 101, 115, 112, 111, 110, 115, 101]⟩, .string ⟨#[105, 110, 99, 108, 117, 100, 101]⟩, .string ⟨#[101, 120, 99, 108, 117, 100, 101]⟩, .string ⟨#[109, 105, 108, 101, 115, 116, 111, 110, 101]⟩] 9 (0, 0)
/-- What the document's Print hands back. -/
def RpP (c : Nat) (s : List UInt8) (w : World) (e : Ending) (w' : World) : Prop :=
  Below w.heap.size w w' ∧ if c = 0 then ∃ t : ByteArray, e = .returned (.tuple #[.string t, .int .i64 0]) ∧ t.data.toList = s else e = .returned (.tuple #[.string ⟨#[]⟩, .int .i64 (c : Int)])
set_option maxRecDepth 100000 in
set_option maxHeartbeats 16000000 in
theorem rprint_any (w : World) (g : Gr) (hI : InG w g) (hz : SzG g) :
    Calls Tryz.prog 11 #[.agg #[.slice g.ga g.gs.length g.gc, .slice g.ea g.es.length g.ec, .slice g.ra g.rs.length g.rc, .slice g.ua g.us.length g.uc]] w (RpP (checkL g).2.2 (printB g) w) := by
  have hmx : Tryz.prog.follows .mixedOrders = true := by kernel_rfl
  have hal := (Below.refl w.heap.size w).alloc (Nat.le_refl _) (gbox g)
  have hx := B.heap_new w (gbox g)
  have HC := Lib.hid (rcheck_any _ g (hI.below (Nat.le_refl _) hal) hz)
  have HMO := Lib.hid (fun h : (checkL g).2.2 = 0 => may_ok (g := g) (by unfold mayL; rw [h]; rfl))
  have L1 := Lib.hid (lines_gs g)
  have L2 := Lib.hid (lines_es g)
  have L3 := Lib.hid (lines_rs g)
  have L4 := Lib.hid (lines_us g)
  have LA := Lib.hid (lb_all g)
  have LN := Lib.hid (fun (h : (checkL g).2.2 = 0) (j : Nat) => show (LB (linesW g) j).length ≤ 69080 from Nat.le_trans (lb_le (linesW g) j) (by have := (HMO.out h).bytes; rw [print_join (HMO.out h).names] at this; exact this))
  have LS := Lib.hid (fun (h : (checkL g).2.2 = 0) => short_of (HMO.out h))
  have z1 := hz.gs
  have z2 := hz.es
  have z3 := hz.rs
  have z4 := hz.us
  clear HMO
  unfold gbox at hal hx HC
  obtain ⟨gs, es, rs, us, ga, gc, ea, ec, ra, rc, ua, uc⟩ := g
  simp only at *
  have HIG := Lib.hid hI
  clear hI hz
  generalize linesW ⟨gs, es, rs, us, ga, gc, ea, ec, ra, rc, ua, uc⟩ = L at *
  generalize printB ⟨gs, es, rs, us, ga, gc, ea, ec, ra, rc, ua, uc⟩ = PT at *
  generalize checkL ⟨gs, es, rs, us, ga, gc, ea, ec, ra, rc, ua, uc⟩ = cc at *
  obtain ⟨cp, ci, ce⟩ := cc
  simp only at *
  obtain ⟨y, hy⟩ : ∃ y, y = w.heap.size := ⟨_, rfl⟩
  obtain ⟨W, hW⟩ : ∃ W, W = w.alloc (.cells #[.slice ga gs.length gc, .slice ea es.length ec, .slice ra rs.length rc, .slice ua us.length uc] 27) := ⟨_, rfl⟩
  rw [← hW] at hal hx HC
  rw [← hy] at hx
  have HPO : Hid (∀ e w', RpP ce PT w e w' ↔ (Below w.heap.size w w' ∧ if ce = 0 then ∃ t : ByteArray, e = .returned (.tuple #[.string t, .int .i64 0]) ∧ t.data.toList = PT else e = .returned (.tuple #[.string ⟨#[]⟩, .int .i64 (ce : Int)]))) := Lib.hid (fun _ _ => Iff.rfl)
  generalize RpP ce PT w = PO at *
  have HB := Lib.hid hal
  have HX := Lib.hid hx
  have q0 := B.cell_blk (i := 0) hx rfl
  have q1 := B.cell_blk (i := 1) hx rfl
  have q2 := B.cell_blk (i := 2) hx rfl
  have q3 := B.cell_blk (i := 3) hx rfl
  have hlx := B.blk_lt hx
  clear hal hx
  go_enter Tryz.func11, Tryz.ntmps11
  go_wp2_with fail
  rw [← hy]
  rw [← hW]
  clear hW hy
  refine HC.out.mono ?_
  rintro e w1 ⟨rfl, hb0⟩
  have hx1 := (hb0.block _ hlx).trans HX.out
  have hb1 := HB.out.trans (hb0.mono HB.out.size)
  have HB1 := Lib.hid hb1
  have HX1 := Lib.hid hx1
  have HG := Lib.hid (HIG.out.below (Nat.le_refl _) hb1)
  have u0 := B.cell_blk (i := 0) hx1 rfl
  have u1 := B.cell_blk (i := 1) hx1 rfl
  have u2 := B.cell_blk (i := 2) hx1 rfl
  have u3 := B.cell_blk (i := 3) hx1 rfl
  have hlx1 := B.blk_lt hx1
  clear hb0 hb1 hx1 HC HB HX q0 q1 q2 q3 hlx HIG
  unfold Go.Proofs.YtigbceankmfaeaaGreatDoor.stV
  simp only
  by_cases he : ce = 0
  · subst he
    have LN' := Lib.hid (LN.out rfl)
    have LS' := Lib.hid (LS.out rfl)
    clear LN LS
    go_wp2_with fail
    clear u0 u1 u2 u3 hlx1
    have HO0 : Hid ((⟨#[]⟩ : ByteArray).data.toList = LB L (0 + 0)) := Lib.hid rfl
    have HB0 : Hid (Below w1.heap.size w1 w1) := Lib.hid (Below.refl _ _)
    go_loopw [7, 8] (fun v i wr => ∃ (k : Nat) (t : ByteArray), k ≤ gs.length ∧ i = .int .i64 k ∧ v = .string t ∧ Hid (t.data.toList = LB L (0 + k)) ∧ Hid (Below w1.heap.size w1 wr)) (fun _ i _ => gs.length - (intOf i).toNat)
    case atStart => exact ⟨0, _, Nat.zero_le _, rfl, rfl, HO0, HB0⟩
    case round =>
      obtain ⟨k, t, hk, rfl, rfl, HO, HB⟩ := hrel
      obtain ⟨wo1, rfl⟩ : ∃ wo, wo = wr := ⟨wr, rfl⟩
      have hso := HB.out.size
      have htz : t.size ≤ 69080 := by rw [Lib.size_eq, HO.out]; exact LN'.out _
      have hxo := (HB.out.block _ (B.blk_lt HX1.out)).trans HX1.out
      have u0 := B.cell_blk (i := 0) hxo rfl
      have u1 := B.cell_blk (i := 1) hxo rfl
      have u2 := B.cell_blk (i := 2) hxo rfl
      have u3 := B.cell_blk (i := 3) hxo rfl
      have hlo := B.blk_lt hxo
      clear hxo
      by_cases hkl : k < gs.length
      · obtain ⟨b, off, hA, hb, hc⟩ := Row.at_ (enc := gpC) (k := 2) HG.out.gs (fun _ => rfl) (by decide) hkl
        simp only at hA
        subst hA
        have hlk := Lib.hid (L1.out k hkl)
        have hxm : gs[k]! ∈ gs := by rw [getElem!_pos gs k hkl]; exact List.getElem_mem _
        have HSH := Lib.hid (LS'.out.gs _ hxm)
        generalize gs[k]! = x at *
        have e0 := (HB.out.cell (p := ⟨b, off + k * 2, none⟩) hb).trans (hc 0 _ rfl)
        have e1 := (HB.out.cell (p := ⟨b, off + k * 2 + 1, none⟩) hb).trans (hc 1 _ rfl)
        have hb' : b < wo1.heap.size := by omega
        clear hc hxm hb
        obtain ⟨s0, s1⟩ := HSH.out
        cases hp : x.parent.toList.isEmpty with
        | true =>
          have HP := Lib.hid (List.isEmpty_iff.1 hp)
          go_wp2_with fail
          go_roundw
          case rel => exact ⟨k + 1, _, hkl, by go_num, rfl, Lib.hid (by rw [show 0 + (k + 1) = 0 + k + 1 from rfl, lb_succ hlk.out, ← HO.out, gp_txt']; rw [if_pos HP.out]; simp), HB⟩
          case measure => simp [intOf]; omega
        | false =>
          have HP : Hid (¬ x.parent.toList = []) := Lib.hid (fun h => by rw [h] at hp; cases hp)
          go_wp2_with fail
          go_roundw
          case rel => exact ⟨k + 1, _, hkl, by go_num, rfl, Lib.hid (by rw [show 0 + (k + 1) = 0 + k + 1 from rfl, lb_succ hlk.out, ← HO.out, gp_txt']; rw [if_neg HP.out]; simp), HB⟩
          case measure => simp [intOf]; omega
      · obtain rfl : k = gs.length := by omega
        have HOL1 : Hid (t.data.toList = LB L (gs.length + 0)) := Lib.hid (by rw [HO.out]; rw [Nat.zero_add]; rfl)
        have HBL1 := HB
        clear hk hkl HO HB htz
        go_wp2_with fail
        clear u0 u1 u2 u3 hlo hso
        go_loopw [7, 9] (fun v i wr => ∃ (k : Nat) (t : ByteArray), k ≤ es.length ∧ i = .int .i64 k ∧ v = .string t ∧ Hid (t.data.toList = LB L (gs.length + k)) ∧ Hid (Below w1.heap.size w1 wr)) (fun _ i _ => es.length - (intOf i).toNat)
        case atStart => exact ⟨0, _, Nat.zero_le _, rfl, rfl, HOL1, HBL1⟩
        case round =>
          obtain ⟨k, t, hk, rfl, rfl, HO, HB⟩ := hrel
          obtain ⟨wo2, rfl⟩ : ∃ wo, wo = wr := ⟨wr, rfl⟩
          have hso := HB.out.size
          have htz : t.size ≤ 69080 := by rw [Lib.size_eq, HO.out]; exact LN'.out _
          have hxo := (HB.out.block _ (B.blk_lt HX1.out)).trans HX1.out
          have u0 := B.cell_blk (i := 0) hxo rfl
          have u1 := B.cell_blk (i := 1) hxo rfl
          have u2 := B.cell_blk (i := 2) hxo rfl
          have u3 := B.cell_blk (i := 3) hxo rfl
          have hlo := B.blk_lt hxo
          clear hxo
          by_cases hkl : k < es.length
          · obtain ⟨b, off, hA, hb, hc⟩ := Row.at_ (enc := evC) (k := 6) HG.out.es (fun _ => rfl) (by decide) hkl
            simp only at hA
            subst hA
            have hlk := Lib.hid (L2.out k hkl)
            have hxm : es[k]! ∈ es := by rw [getElem!_pos es k hkl]; exact List.getElem_mem _
            have HSH := Lib.hid (LS'.out.es _ hxm)
            generalize es[k]! = x at *
            have e0 := (HB.out.cell (p := ⟨b, off + k * 6, none⟩) hb).trans (hc 0 _ rfl)
            have e1 := (HB.out.cell (p := ⟨b, off + k * 6 + 1, none⟩) hb).trans (hc 1 _ rfl)
            have e2 := (HB.out.cell (p := ⟨b, off + k * 6 + 2, none⟩) hb).trans (hc 2 _ rfl)
            have e3 := (HB.out.cell (p := ⟨b, off + k * 6 + 3, none⟩) hb).trans (hc 3 _ rfl)
            have e4 := (HB.out.cell (p := ⟨b, off + k * 6 + 4, none⟩) hb).trans (hc 4 _ rfl)
            have e5 := (HB.out.cell (p := ⟨b, off + k * 6 + 5, none⟩) hb).trans (hc 5 _ rfl)
            have hb' : b < wo2.heap.size := by omega
            clear hc hxm hb
            obtain ⟨s0, s1, s2, s3, s4⟩ := HSH.out
            have CE := Lib.hid (revent_any wo2 x s0 s1 s2 s3 s4)
            go_wp2_with fail
            refine CE.out.mono ?_
            rintro e w6 ⟨t6, rfl, h6, z6, b6⟩
            have H6 := Lib.hid h6
            have HB6 := Lib.hid (HB.out.trans (b6.mono hso))
            clear h6 b6 CE e0 e1 e2 e3 e4 e5 u0 u1 u2 u3
            go_wp2_with fail
            go_roundw
            case rel => exact ⟨k + 1, _, hkl, by go_num, rfl, Lib.hid (by rw [show gs.length + (k + 1) = gs.length + k + 1 from rfl, lb_succ hlk.out, ← HO.out, line_sp]; simp [H6.out]), HB6⟩
            case measure => simp [intOf]; omega
          · obtain rfl : k = es.length := by omega
            have HOL2 : Hid (t.data.toList = LB L (gs.length + es.length + 0)) := Lib.hid (by rw [HO.out]; rfl)
            have HBL2 := HB
            have hkn := B.heap_new wo2 kwO
            have HKW := Lib.hid hkn
            obtain ⟨bw, hbw⟩ : ∃ bw, bw = wo2.heap.size := ⟨_, rfl⟩
            obtain ⟨wk, hwk⟩ : ∃ wk, wk = wo2.alloc kwO := ⟨_, rfl⟩
            have HBK := Lib.hid (HB.out.alloc hso kwO)
            rw [← hwk, ← hbw] at HKW
            rw [← hwk] at HBK
            clear hkn hk hkl HO HB htz
            go_wp2_with fail
            unfold kwO at hwk
            rw [← hwk, ← hbw]
            clear u0 u1 u2 u3 hlo hwk hbw hso
            go_loopw [7, 11] (fun v i wr => ∃ (k : Nat) (t : ByteArray), k ≤ rs.length ∧ i = .int .i64 k ∧ v = .string t ∧ Hid (t.data.toList = LB L (gs.length + es.length + k)) ∧ Hid (Below w1.heap.size w1 wr) ∧ Hid (wr.heap[bw]? = some kwO)) (fun _ i _ => rs.length - (intOf i).toNat)
            case atStart => exact ⟨0, _, Nat.zero_le _, rfl, rfl, HOL2, HBK, HKW⟩
            case round =>
              obtain ⟨k, t, hk, rfl, rfl, HO, HB, HK⟩ := hrel
              obtain ⟨wo3, rfl⟩ : ∃ wo, wo = wr := ⟨wr, rfl⟩
              have hso := HB.out.size
              have htz : t.size ≤ 69080 := by rw [Lib.size_eq, HO.out]; exact LN'.out _
              have hxo := (HB.out.block _ (B.blk_lt HX1.out)).trans HX1.out
              have u0 := B.cell_blk (i := 0) hxo rfl
              have u1 := B.cell_blk (i := 1) hxo rfl
              have u2 := B.cell_blk (i := 2) hxo rfl
              have u3 := B.cell_blk (i := 3) hxo rfl
              have hlo := B.blk_lt hxo
              clear hxo
              by_cases hkl : k < rs.length
              · obtain ⟨b, off, hA, hb, hc⟩ := Row.at_ (enc := rlC) (k := 4) HG.out.rs (fun _ => rfl) (by decide) hkl
                simp only at hA
                subst hA
                have hlk := Lib.hid (L3.out k hkl)
                have hxm : rs[k]! ∈ rs := by rw [getElem!_pos rs k hkl]; exact List.getElem_mem _
                have HSH := Lib.hid (LS'.out.rs _ hxm)
                generalize rs[k]! = x at *
                have e0 := (HB.out.cell (p := ⟨b, off + k * 4, none⟩) hb).trans (hc 0 _ rfl)
                have e1 := (HB.out.cell (p := ⟨b, off + k * 4 + 1, none⟩) hb).trans (hc 1 _ rfl)
                have e2 := (HB.out.cell (p := ⟨b, off + k * 4 + 2, none⟩) hb).trans (hc 2 _ rfl)
                have e3 := (HB.out.cell (p := ⟨b, off + k * 4 + 3, none⟩) hb).trans (hc 3 _ rfl)
                have hb' : b < wo3.heap.size := by omega
                clear hc hxm hb
                obtain ⟨s0, s1, s2, s3, s4, s5⟩ := HSH.out
                obtain ⟨kn, ks, hkn, hk6, hkc, hks, hkz⟩ := kw_at x.kind s2 s3
                have kc0 := B.cell_blk (i := kn) HK.out hkc
                have kl0 := B.blk_lt HK.out
                obtain ⟨kd, src, dst, tm⟩ := x
                simp only at *
                subst hkn
                have HKS := Lib.hid hks
                obtain ⟨wd, hwd⟩ : ∃ wd, wd = (wo3.alloc (.cells #[.int .i64 (kn : Int), .string src, .string dst, .int .i64 tm] 48)).drew := ⟨_, rfl⟩
                have hn : wd.heap[wo3.heap.size]? = some (.cells #[.int .i64 (kn : Int), .string src, .string dst, .int .i64 tm] 48 (0, 0)) := by rw [hwd]; exact B.heap_new _ _
                have hbd : Below wo3.heap.size wo3 wd := by rw [hwd]; exact B.below_draws ((Below.refl _ _).alloc (Nat.le_refl _) _) 1
                have c0 := B.cell_blk (i := 0) hn rfl
                have c1 := B.cell_blk (i := 1) hn rfl
                have c2 := B.cell_blk (i := 2) hn rfl
                have c3 := B.cell_blk (i := 3) hn rfl
                have cl := B.blk_lt hn
                have kc := (hbd.cell (p := ⟨bw, kn, none⟩) kl0).trans kc0
                have kl : bw < wd.heap.size := by omega
                have HBD := Lib.hid (HB.out.trans (hbd.mono hso))
                have HKD := Lib.hid ((hbd.block _ kl0).trans HK.out)
                have HWe : Hid (({ heap := (wo3.alloc (.cells #[.int .i64 (kn : Int), .string src, .string dst, .int .i64 tm] 48)).heap, tape := (wo3.alloc (.cells #[.int .i64 (kn : Int), .string src, .string dst, .int .i64 tm] 48)).tape, drawn := (wo3.alloc (.cells #[.int .i64 (kn : Int), .string src, .string dst, .int .i64 tm] 48)).drawn + 1, os := (wo3.alloc (.cells #[.int .i64 (kn : Int), .string src, .string dst, .int .i64 tm] 48)).os, output := (wo3.alloc (.cells #[.int .i64 (kn : Int), .string src, .string dst, .int .i64 tm] 48)).output } : World) = wd) := Lib.hid hwd.symm
                have s6 := long_ub s5
                clear hn hbd kc0 kl0 hks hkc hwd
                have hk0 : (0 : Int) ≤ (kn : Int) := Int.natCast_nonneg _
                have hk1 : (kn : Int) < 6 := by omega
                go_wp2_with fail
                go_still_tail 15, (by kernel_rfl)
                rw [HWe.out]
                have n1 : (9223372036854775807 < ks.size + 1) = False := eq_false (by omega)
                have n2 : (9223372036854775807 < ks.size + 1 + src.size) = False := eq_false (by omega)
                have n3 : (9223372036854775807 < ks.size + 1 + src.size + 1) = False := eq_false (by omega)
                have n4 : (9223372036854775807 < ks.size + 1 + src.size + 1 + dst.size) = False := eq_false (by omega)
                have n5 : (9223372036854775807 < t.size + (ks.size + 1 + src.size + 1 + dst.size)) = False := eq_false (by omega)
                repeat still_step
                refine wpStill_nil ?_
                clear HWe e0 e1 e2 e3 u0 u1 u2 u3 kc kl n1 n2 n3 n4 n5
                rcases told_cases hk6 s2 s4 s5 with ⟨htu, hty⟩ | ⟨htu, hty⟩
                · have HTU : Hid (timeS ⟨(kn : Int), src, dst, tm⟩ = []) := Lib.hid (if_pos htu)
                  clear htu s2 s3 s5
                  rcases hty with ⟨rfl, rfl⟩ | ⟨rfl, rfl⟩ | ⟨rfl, rfl⟩ | ⟨rfl, rfl⟩ | ⟨rfl, rfl⟩
                  all_goals
                    go_wp2_with fail
                    go_roundw
                    case rel => exact ⟨k + 1, _, hkl, by go_num, rfl, Lib.hid (by rw [show gs.length + es.length + (k + 1) = gs.length + es.length + k + 1 from rfl, lb_succ hlk.out, ← HO.out, rl_txt', HTU.out]; simp [HKS.out]), HBD, HKD⟩
                    case measure => simp [intOf]; omega
                · have HTU : Hid (timeS ⟨(kn : Int), src, dst, tm⟩ = 32 :: digL tm.toNat) := Lib.hid (if_neg htu)
                  obtain ⟨n, hn⟩ : ∃ n : Nat, tm = n := ⟨tm.toNat, by omega⟩
                  subst hn
                  rw [Int.toNat_natCast] at HTU
                  have CD := Lib.hid (digits_any (n + 1) n (by omega) (by omega) wd)
                  clear htu s2 s3 s5
                  rcases hty with ⟨rfl, hty⟩ | ⟨rfl, hty⟩
                  all_goals
                    go_wp2_with fail
                    refine CD.out.mono ?_
                    rintro e w6 ⟨t6, rfl, h6, z6, hw⟩
                    subst hw
                    have H6 := Lib.hid h6
                    clear h6
                    go_wp2_with fail
                    go_roundw
                    case rel => exact ⟨k + 1, _, hkl, by go_num, rfl, Lib.hid (by rw [show gs.length + es.length + (k + 1) = gs.length + es.length + k + 1 from rfl, lb_succ hlk.out, ← HO.out, rl_txt', HTU.out]; simp [HKS.out, H6.out]), HBD, HKD⟩
                    case measure => simp [intOf]; omega
              · obtain rfl : k = rs.length := by omega
                have HOL3 : Hid (t.data.toList = LB L (gs.length + es.length + rs.length + 0)) := Lib.hid (by rw [HO.out]; rfl)
                have HBL3 := HB
                clear hk hkl HO HB htz
                go_wp2_with fail
                clear u0 u1 u2 u3 hlo hso
                go_loopw [7, 13] (fun v i wr => ∃ (k : Nat) (t : ByteArray), k ≤ us.length ∧ i = .int .i64 k ∧ v = .string t ∧ Hid (t.data.toList = LB L (gs.length + es.length + rs.length + k)) ∧ Hid (Below w1.heap.size w1 wr)) (fun _ i _ => us.length - (intOf i).toNat)
                case atStart => exact ⟨0, _, Nat.zero_le _, rfl, rfl, HOL3, HBL3⟩
                case round =>
                  obtain ⟨k, t, hk, rfl, rfl, HO, HB⟩ := hrel
                  obtain ⟨wo4, rfl⟩ : ∃ wo, wo = wr := ⟨wr, rfl⟩
                  have hso := HB.out.size
                  have htz : t.size ≤ 69080 := by rw [Lib.size_eq, HO.out]; exact LN'.out _
                  have hxo := (HB.out.block _ (B.blk_lt HX1.out)).trans HX1.out
                  have u0 := B.cell_blk (i := 0) hxo rfl
                  have u1 := B.cell_blk (i := 1) hxo rfl
                  have u2 := B.cell_blk (i := 2) hxo rfl
                  have u3 := B.cell_blk (i := 3) hxo rfl
                  have hlo := B.blk_lt hxo
                  clear hxo
                  by_cases hkl : k < us.length
                  · obtain ⟨b, off, hA, hb, hc⟩ := Row.at_ (enc := usC) (k := 3) HG.out.us (fun _ => rfl) (by decide) hkl
                    simp only at hA
                    subst hA
                    have hlk := Lib.hid (L4.out k hkl)
                    have hxm : us[k]! ∈ us := by rw [getElem!_pos us k hkl]; exact List.getElem_mem _
                    have HSH := Lib.hid (LS'.out.us _ hxm)
                    have HRO := Lib.hid (HG.out.roles _ hxm)
                    generalize us[k]! = x at *
                    have e0 := (HB.out.cell (p := ⟨b, off + k * 3, none⟩) hb).trans (hc 0 _ rfl)
                    have e1 := (HB.out.cell (p := ⟨b, off + k * 3 + 1, none⟩) hb).trans (hc 1 _ rfl)
                    have e2 := (HB.out.cell (p := ⟨b, off + k * 3 + 2, none⟩) hb).trans (hc 2 _ rfl)
                    have hb' : b < wo4.heap.size := by omega
                    clear hc hxm hb
                    obtain ⟨s0, s1, s2, s3⟩ := HSH.out
                    have HS3 := Lib.hid s3
                    have HRL := Lib.hid (roles_len x.roles s3)
                    clear s3
                    have hra : 0 < x.roles.length → ∃ b2 o2, x.ra = some ⟨b2, o2, none⟩ ∧ b2 < wo4.heap.size ∧ ∀ j, j < x.roles.length → wo4.cell? ⟨b2, o2 + j, none⟩ = some (.string x.roles[j]!) := fun hp => by
                      obtain ⟨b2, o2, ha, hl, hcc⟩ := HRO.out (by intro h; rw [List.map_eq_nil_iff] at h; rw [h] at hp; exact absurd hp (Nat.lt_irrefl _))
                      exact ⟨b2, o2, ha, by omega, fun j hj => (HB.out.cell (p := ⟨b2, o2 + j, none⟩) hl).trans (hcc j _ (by rw [List.getElem?_map, List.getElem?_eq_getElem hj, getElem!_pos x.roles j hj]; rfl))⟩
                    have HRA := Lib.hid hra
                    clear hra
                    go_wp2_with fail
                    go_loopw [7, 14] (fun v i wr => ∃ (m : Nat) (t2 : ByteArray), m ≤ x.roles.length ∧ i = .int .i64 m ∧ v = .string t2 ∧ Hid (t2.data.toList = t.data.toList ++ ([117, 115, 101, 114, 32] ++ x.name.data.toList ++ [32, 114, 111, 108, 101, 115]) ++ rolesS (x.roles.take m)) ∧ wo4 = wr) (fun _ i _ => x.roles.length - (intOf i).toNat)
                    case atStart => exact ⟨0, _, Nat.zero_le _, rfl, rfl, Lib.hid (by simp [rolesS]), rfl⟩
                    case round =>
                      obtain ⟨m, t2, hm, rfl, rfl, HO2, hwx⟩ := hrel
                      subst hwx
                      have ht2 : t2.size ≤ 80000 := by
                        have h1 := roles_len (x.roles.take m) (fun s hs => HS3.out s (List.mem_of_mem_take hs))
                        rw [List.length_take] at h1
                        have h2 : x.name.data.toList.length ≤ 20 := by rw [← Lib.size_eq]; exact s0
                        have h3 : t.data.toList.length ≤ 69080 := by rw [← Lib.size_eq]; exact htz
                        rw [Lib.size_eq, HO2.out, List.length_append, List.length_append, List.length_append, List.length_append]
                        simp only [List.length_cons, List.length_nil]
                        omega
                      by_cases hml : m < x.roles.length
                      · obtain ⟨b2, o2, ha, hb2, hcc⟩ := HRA.out (by omega)
                        have f0 := hcc m hml
                        have hr20 := HS3.out x.roles[m]! (by rw [getElem!_pos x.roles m hml]; exact List.getElem_mem _)
                        have HRS := Lib.hid (roles_succ hml)
                        rw [ha] at e1
                        have hm0 : (0 : Int) ≤ (m : Int) := Int.natCast_nonneg _
                        have hm1 : (m : Int) < (x.roles.length : Int) := by omega
                        have hu3 : us.length ≤ us.length := Nat.le_refl _
                        clear hcc ha
                        generalize x.roles[m]! = rr at *
                        go_wp2_with fail
                        go_roundw
                        case rel => exact ⟨m + 1, _, hml, by go_num, rfl, Lib.hid (by rw [HRS.out, ← List.append_assoc, ← HO2.out]; simp), by first | rfl | trivial⟩
                        case measure => simp [intOf]; omega
                      · obtain rfl : m = x.roles.length := by omega
                        have HO3 := Lib.hid HO2.out
                        rw [List.take_length] at HO3
                        clear HO2 HRA hm
                        cases hp : x.sub.toList.isEmpty with
                        | true =>
                          have HP := Lib.hid (List.isEmpty_iff.1 hp)
                          go_wp2_with fail
                          go_roundw
                          case rel => exact ⟨k + 1, _, hkl, by go_num, rfl, Lib.hid (by rw [show gs.length + es.length + rs.length + (k + 1) = gs.length + es.length + rs.length + k + 1 from rfl, lb_succ hlk.out, ← HO.out, us_txt']; rw [if_pos HP.out]; simp [HO3.out]), HB⟩
                          case measure => simp [intOf]; omega
                        | false =>
                          have HP : Hid (¬ x.sub.toList = []) := Lib.hid (fun h => by rw [h] at hp; cases hp)
                          go_wp2_with fail
                          go_roundw
                          case rel => exact ⟨k + 1, _, hkl, by go_num, rfl, Lib.hid (by rw [show gs.length + es.length + rs.length + (k + 1) = gs.length + es.length + rs.length + k + 1 from rfl, lb_succ hlk.out, ← HO.out, us_txt']; rw [if_neg HP.out]; simp [HO3.out]), HB⟩
                          case measure => simp [intOf]; omega
                  · obtain rfl : k = us.length := by omega
                    have hTP : t.data.toList = PT := HO.out.trans LA.out
                    have HF := Lib.hid ((HPO.out (.returned (.tuple #[.string t, .int .i64 0])) wo4).2 ⟨HB1.out.trans (HB.out.mono HB1.out.size), by first | (rw [if_pos rfl]; exact ⟨t, rfl, hTP⟩) | (rw [if_pos trivial]; exact ⟨t, rfl, hTP⟩)⟩)
                    clear HPO hTP hk HO HB
                    go_wp2_with fail
                    first | exact HF.out | (go_ret; exact HF.out)
  · have hq : ((ce : Int) != 0) = true := by rw [bne_iff_ne]; omega
    have HF := Lib.hid ((HPO.out (.returned (.tuple #[.string ⟨#[]⟩, .int .i64 (ce : Int)])) w1).2 ⟨HB1.out, by rw [if_neg he]⟩)
    clear HPO
    go_wp2_with fail
    first | exact HF.out | (go_ret; exact HF.out)
end Go.Proofs.YtigbceankmfaeaaGreatDoor.P3.L
