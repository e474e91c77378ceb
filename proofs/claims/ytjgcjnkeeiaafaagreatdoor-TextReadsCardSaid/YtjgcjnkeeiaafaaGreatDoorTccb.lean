/-
  Contract of Print (gen_tpr.py).
-/
import Derived.Test.YtjgcjnkeeiaafaaGreatDoorTcca
import Derived.Test.YtjgcjnkeeiaafaaGreatDoorTcbh
import Derived.Test.YtjgcjnkeeiaafaaGreatDoorTcbg
namespace Go.Proofs.YtjgcjnkeeiaafaaGreatDoor.P3.C
open Go.RowKit Go.Shelf Go.Proofs.YtjgcjnkeeiaafaaGreatDoor.B Go.Proofs.YtjgcjnkeeiaafaaGreatDoor.Lx Go.Proofs.YtjgcjnkeeiaafaaGreatDoor.P3
/-- The tokens of the first lines. -/
def LJ (L : List (List (List UInt8))) (j : Nat) : List Tok := (L.take j).flatMap lineT
theorem lj_succ {L : List (List (List UInt8))} {j : Nat} {ws : List (List UInt8)} (h : L[j]? = some ws) : LJ L (j + 1) = LJ L j ++ lineT ws := by
  unfold LJ
  rw [List.take_add_one, h, List.flatMap_append]
  simp
theorem lj_le (L : List (List (List UInt8))) (j : Nat) : (LJ L j).length ≤ (L.flatMap lineT).length := by
  have e : L.flatMap lineT = LJ L j ++ (L.drop j).flatMap lineT := by unfold LJ; rw [← List.flatMap_append, List.take_append_drop]
  rw [e, List.length_append]; omega
theorem get_map {α β : Type} [Inhabited α] (f : α → β) (l : List α) (k : Nat) (hk : k < l.length) : (l.map f)[k]? = some (f l[k]!) := by
  rw [List.getElem?_map, List.getElem?_eq_getElem hk, getElem!_pos l k hk]; rfl
theorem lines_gs (g : Gr) (k : Nat) (hk : k < g.gs.length) : (linesW g)[0 + k]? = some (gpW g.gs[k]!) := by
  unfold linesW
  rw [Nat.zero_add, List.getElem?_append_left (by rw [List.length_map]; exact hk), get_map _ _ _ hk]
theorem lines_es (g : Gr) (k : Nat) (hk : k < g.es.length) : (linesW g)[g.gs.length + k]? = some (evW g.es[k]!) := by
  unfold linesW
  rw [List.getElem?_append_right (by rw [List.length_map]; omega), List.length_map, Nat.add_sub_cancel_left, List.getElem?_append_left (by rw [List.length_map]; exact hk), get_map _ _ _ hk]
theorem lines_rs (g : Gr) (k : Nat) (hk : k < g.rs.length) : (linesW g)[g.gs.length + g.es.length + k]? = some (rlW g.rs[k]!) := by
  unfold linesW
  rw [List.getElem?_append_right (by rw [List.length_map]; omega), List.length_map, List.getElem?_append_right (by rw [List.length_map]; omega), List.length_map, show g.gs.length + g.es.length + k - g.gs.length - g.es.length = k by omega, List.getElem?_append_left (by rw [List.length_map]; exact hk), get_map _ _ _ hk]
theorem lines_us (g : Gr) (k : Nat) (hk : k < g.us.length) : (linesW g)[g.gs.length + g.es.length + g.rs.length + k]? = some (usW g.us[k]!) := by
  unfold linesW
  rw [List.getElem?_append_right (by rw [List.length_map]; omega), List.length_map, List.getElem?_append_right (by rw [List.length_map]; omega), List.length_map, List.getElem?_append_right (by rw [List.length_map]; omega), List.length_map, show g.gs.length + g.es.length + g.rs.length + k - g.gs.length - g.es.length - g.rs.length = k by omega, get_map _ _ _ hk]
theorem lj_all (g : Gr) : LJ (linesW g) (g.gs.length + g.es.length + g.rs.length + g.us.length) = printT g := by
  unfold LJ printT
  rw [List.take_of_length_le]
  unfold linesW
  simp only [List.length_append, List.length_map]; omega
theorem rowC_one (l : List Tok) : ∀ u ∈ rowC l, u.oneCell' = true := by
  intro u hu
  obtain ⟨t, _, h⟩ := List.mem_flatMap.1 hu
  simp [tokC] at h
  rcases h with rfl | rfl | rfl | rfl <;> rfl
theorem tab_on {w W : World} (h : Tab w.heap.size w) (hb : Below w.heap.size w W) : Tab W.heap.size W := fun w' h' => h w' (hb.trans (h'.mono hb.size))
theorem Nat_long (k t : Int) (h : t ≤ longL k) : t ≤ 1048576 := by unfold longL at h; split at h <;> (try split at h) <;> omega
/-- What Print hands back. -/
def PrP (c : Nat) (s : List UInt8) (w : World) (e : Ending) (w' : World) : Prop :=
  Below w.heap.size w w' ∧ if c = 0 then e = .returned (.tuple #[sb s, .int .i64 0]) else e = .returned (.tuple #[.string ⟨#[]⟩, .int .i64 (c : Int)])
set_option maxRecDepth 100000 in
set_option maxHeartbeats 16000000 in
theorem print_any (w : World) (g : Gr) (hI : InG w g) (hz : SzG g) (hcap : ∀ u ∈ g.us, u.roles.length ≤ u.rc) (hnil : ∀ u ∈ g.us, u.ra = none → u.rc = 0) (ht : Tab w.heap.size w) :
    Calls Tryz.prog 8 #[.agg #[.slice g.ga g.gs.length g.gc, .slice g.ea g.es.length g.ec, .slice g.ra g.rs.length g.rc, .slice g.ua g.us.length g.uc]] w (PrP (checkL g).2.2 (joinS true (printT g)) w) := by
  obtain ⟨i0, hi, hz0, hz1, hz2⟩ := info_parts infoTok
  have HI0 := Lib.hid hi
  have HZ0 := Lib.hid hz0
  have HZ1 := Lib.hid hz1
  have HZ2 := Lib.hid hz2
  have hal := (Below.refl w.heap.size w).alloc (Nat.le_refl _) (.cells #[.slice g.ga g.gs.length g.gc, .slice g.ea g.es.length g.ec, .slice g.ra g.rs.length g.rc, .slice g.ua g.us.length g.uc] 28)
  have hx := heap_new w (.cells #[.slice g.ga g.gs.length g.gc, .slice g.ea g.es.length g.ec, .slice g.ra g.rs.length g.rc, .slice g.ua g.us.length g.uc] 28)
  have HC := Lib.hid (check_any _ g (hI.below (Nat.le_refl _) hal) hz hcap)
  have HMO := Lib.hid (fun h : (checkL g).2.2 = 0 => may_ok (g := g) (by unfold mayL; rw [h]; rfl))
  have L1 := Lib.hid (lines_gs g)
  have L2 := Lib.hid (lines_es g)
  have L3 := Lib.hid (lines_rs g)
  have L4 := Lib.hid (lines_us g)
  have LA := Lib.hid (lj_all g)
  have LB := Lib.hid (fun (h : (checkL g).2.2 = 0) (j : Nat) => Nat.le_trans (lj_le (linesW g) j) (HMO.out h).toks)
  have LN := Lib.hid (fun (h : (checkL g).2.2 = 0) => (HMO.out h).bytes)
  have LE := Lib.hid (fun (h : (checkL g).2.2 = 0) => (HMO.out h).es)
  have LR := Lib.hid (fun (h : (checkL g).2.2 = 0) => (HMO.out h).rs)
  have LU := Lib.hid (fun (h : (checkL g).2.2 = 0) => (HMO.out h).us)
  have LC := Lib.hid (fun (h : (checkL g).2.2 = 0) => And.intro (HMO.out h).ngs (And.intro (HMO.out h).nes (And.intro (HMO.out h).nrs (HMO.out h).nus)))
  clear HMO
  obtain ⟨gs, es, rs, us, ga, gc, ea, ec, ra, rc, ua, uc⟩ := g
  simp only at *
  have HIG := Lib.hid hI
  have HNI := Lib.hid (fun u hu (h : (Us.ra u) = none) => show u.roles.length = 0 ∧ u.rc = 0 from ⟨by have := hcap u hu; have := hnil u hu h; omega, hnil u hu h⟩)
  have HT := Lib.hid ht
  clear hI hz hcap hnil ht hi hz0 hz1 hz2
  generalize linesW ⟨gs, es, rs, us, ga, gc, ea, ec, ra, rc, ua, uc⟩ = L at *
  generalize printT ⟨gs, es, rs, us, ga, gc, ea, ec, ra, rc, ua, uc⟩ = PT at *
  generalize checkL ⟨gs, es, rs, us, ga, gc, ea, ec, ra, rc, ua, uc⟩ = cc at *
  obtain ⟨cp, ci, ce⟩ := cc
  simp only at *
  obtain ⟨y, hy⟩ : ∃ y, y = w.heap.size := ⟨_, rfl⟩
  obtain ⟨W, hW⟩ : ∃ W, W = w.alloc (.cells #[.slice ga gs.length gc, .slice ea es.length ec, .slice ra rs.length rc, .slice ua us.length uc] 28) := ⟨_, rfl⟩
  rw [← hW] at hal hx HC
  rw [← hy] at hx
  have HPO : Hid (∀ e w', PrP ce (joinS true PT) w e w' ↔ (Below w.heap.size w w' ∧ if ce = 0 then e = .returned (.tuple #[sb (joinS true PT), .int .i64 0]) else e = .returned (.tuple #[.string ⟨#[]⟩, .int .i64 (ce : Int)]))) := Lib.hid (fun _ _ => Iff.rfl)
  generalize PrP ce (joinS true PT) w = PO at *
  have HB := Lib.hid hal
  have HX := Lib.hid hx
  have q0 := cell_blk (i := 0) hx rfl
  have q1 := cell_blk (i := 1) hx rfl
  have q2 := cell_blk (i := 2) hx rfl
  have q3 := cell_blk (i := 3) hx rfl
  have hlx := blk_lt hx
  have HYW := Lib.hid hy
  clear hal hx
  go_enter Tryz.func8, Tryz.ntmps8
  go_wp2_with fail
  rw [← hy]
  rw [← hW]
  clear hW hy
  refine HC.out.mono ?_
  rintro e w0 ⟨rfl, hb0⟩
  have hx0 := (hb0.block _ hlx).trans HX.out
  obtain ⟨w1, hw1⟩ : ∃ w1, w1 = w0.alloc (.cells #[.int .i64 (cp : Int), .int .i64 (ci : Int)] 57) := ⟨_, rfl⟩
  have hb1 : Below w.heap.size w w1 := by rw [hw1]; exact (HB.out.trans (hb0.mono HB.out.size)).alloc (Nat.le_trans HB.out.size hb0.size) _
  have hx1 : w1.heap[y]? = some (.cells #[.slice ga gs.length gc, .slice ea es.length ec, .slice ra rs.length rc, .slice ua us.length uc] 28 (0, 0)) := by rw [hw1]; exact heap_old (blk_lt hx0) hx0
  have HB1 := Lib.hid hb1
  have HX1 := Lib.hid hx1
  have HG := Lib.hid (HIG.out.below (Nat.le_refl _) hb1)
  have u0 := cell_blk (i := 0) hx0 rfl
  have u1 := cell_blk (i := 1) hx0 rfl
  have u2 := cell_blk (i := 2) hx0 rfl
  have u3 := cell_blk (i := 3) hx0 rfl
  have hlx0 := blk_lt hx0
  clear hb0 hb1 hx0 hx1 HC HB HX q0 q1 q2 q3 hlx HIG
  by_cases he : ce = 0
  · subst he
    have LB' := Lib.hid (LB.out rfl)
    have LN' := Lib.hid (LN.out rfl)
    have LE' := Lib.hid (LE.out rfl)
    have LR' := Lib.hid (LR.out rfl)
    have LU' := Lib.hid (LU.out rfl)
    obtain ⟨hn1, hn2, hn3, hn4⟩ := LC.out rfl
    clear LB LN LE LR LU LC
    go_wp2_with fail
    rw [← hw1]
    clear hw1 u0 u1 u2 u3 hlx0
    have HO0 : Hid (w1.ownsRow w1.heap.size 54 4 (.slice none 0 0) (LJ L (0 + 0)).length (rowC (LJ L (0 + 0)))) := Lib.hid (World.ownsRow_nil _ _ _ _)
    have HB0 : Hid (Below w1.heap.size w1 w1) := Lib.hid (Below.refl _ _)
    go_loopw [6, 26] (fun v i wr => ∃ k : Nat, k ≤ gs.length ∧ i = .int .i64 k ∧ Hid (wr.ownsRow w1.heap.size 54 4 v (LJ L (0 + k)).length (rowC (LJ L (0 + k)))) ∧ Hid (Below w1.heap.size w1 wr)) (fun _ i _ => gs.length - (intOf i).toNat)
    case atStart => exact ⟨0, Nat.zero_le _, rfl, HO0, HB0⟩
    case round =>
      obtain ⟨k, hk, rfl, HO, HB⟩ := hrel
      obtain ⟨wo1, rfl⟩ : ∃ wo, wo = wr := ⟨wr, rfl⟩
      obtain ⟨va, vc, rfl⟩ := Go.Proofs.YtjgcjnkeeiaafaaGreatDoor.B.own_slice HO.out
      have hso := HB.out.size
      have hlb := LB'.out (0 + k)
      generalize hTJ : LJ L (0 + k) = TJ at *
      have HTJ := Lib.hid hTJ
      clear hTJ
      by_cases hkl : k < gs.length
      · obtain ⟨b, off, rfl, hb, hc⟩ := Row.at_ (enc := gpC) (k := 2) HG.out.gs (fun _ => rfl) (by decide) hkl
        have hlk := L1.out k hkl
        have hxm : gs[k]! ∈ gs := by rw [getElem!_pos gs k hkl]; exact List.getElem_mem _
        generalize gs[k]! = x at *
        have e0 := (HB.out.cell (p := ⟨b, off + k * 2, none⟩) hb).trans (hc 0 _ rfl)
        have e1 := (HB.out.cell (p := ⟨b, off + k * 2 + 1, none⟩) hb).trans (hc 1 _ rfl)
        have hb' : b < wo1.heap.size := by omega
        obtain ⟨w5, hw5⟩ : ∃ w5, w5 = wo1.alloc (.cells #[.string x.name, .string x.parent] 37) := ⟨_, rfl⟩
        have h5 : Below wo1.heap.size wo1 w5 := by rw [hw5]; exact (Below.refl _ _).alloc (Nat.le_refl _) _
        have h15 := HB.out.trans (h5.mono hso)
        have h05 := HB1.out.trans (h15.mono HB1.out.size)
        have CW := Lib.hid (group_words w5 x)
        have HLS : Hid (LJ L (0 + k + 1) = TJ ++ lineT (gpW x)) := Lib.hid (by rw [lj_succ hlk, HTJ.out])
        have hll := LB'.out (0 + k + 1)
        rw [HLS.out, List.length_append] at hll
        have hwl := lineT_len (gpW x)
        have H5 := Lib.hid h5
        clear h5 h15 h05 hc hlk hxm hb
        generalize gpW x = ws at *
        go_wp2_with fail
        rw [← hw5]
        clear hw5
        refine CW.out.mono ?_
        rintro e w6 ⟨v6, rfl, h6, b6⟩
        obtain ⟨a6, c6, rfl⟩ := Go.Proofs.YtjgcjnkeeiaafaaGreatDoor.B.own_slice h6
        have CL := Lib.hid (line_any w6 a6 c6 ws (Row.of_own h6) (by omega))
        have H6 := Lib.hid (H5.out.trans (b6.mono H5.out.size))
        clear h6 b6 CW H5 e0 e1
        go_wp2_with fail
        refine CL.out.mono ?_
        rintro e w7 ⟨v7, rfl, h7, b7⟩
        obtain ⟨a7, c7, rfl⟩ := Go.Proofs.YtjgcjnkeeiaafaaGreatDoor.B.own_slice h7
        have H7 := Lib.hid (H6.out.trans (b7.mono H6.out.size))
        have HO7 := Lib.hid (Go.Proofs.YtjgcjnkeeiaafaaGreatDoor.B.own_below HO.out H7.out)
        have HB7 := Lib.hid (HB.out.trans (H7.out.mono hso))
        have hs7 := HB7.out.size
        have HR7 := Lib.hid (Row.of_own h7)
        have HC7 := Lib.hid (show a7 = none → (lineT ws).length = 0 ∧ c7 = 0 from fun h => by have := Go.Proofs.YtjgcjnkeeiaafaaGreatDoor.B.own_cap h7; have h2 := this.2 h; omega)
        have HL7 := Lib.hid (rowC_length (lineT ws))
        have H17 := Lib.hid (rowC_one (lineT ws))
        clear h7 b7 CL H6 hwl
        generalize lineT ws = T at *
        go_wp2_with (at_builtin; refine Hid.out ?_)
        refine Lib.hid ?_
        refine wpList_append_any rfl (.tmp 30) (.tmp 33) 43 rfl w1.heap.size 54 i0 _ 4 40 Tryz.underlying43 HI0.out HZ0.out HZ1.out HZ2.out rfl (by omega) _ _ _ rfl HO7.out a7 T.length c7 (rowC T) rfl HC7.out HL7.out HR7.out H17.out (by unfold maxLen; omega) (by omega) (by omega) ?_
        intro v8 w8 h8 g8
        obtain ⟨a8, c8, rfl⟩ := Go.Proofs.YtjgcjnkeeiaafaaGreatDoor.B.own_slice h8
        have HO8 : Hid (w8.ownsRow w1.heap.size 54 4 (.slice a8 (TJ.length + T.length) c8) (LJ L (0 + (k + 1))).length (rowC (LJ L (0 + (k + 1))))) := Lib.hid (by rw [← Nat.add_assoc, HLS.out, List.length_append, row_app']; exact h8)
        have HB8 := Lib.hid (HB7.out.grown g8 hs7 (fun q hq => (HO7.out.lt q hq).1))
        clear h8 g8
        go_wp2_with fail
        go_roundw
        case rel => exact ⟨k + 1, hkl, by go_num, HO8, HB8⟩
        case measure => simp [intOf]; omega
      · obtain rfl : k = gs.length := by omega
        have HOL1 : Hid (wo1.ownsRow w1.heap.size 54 4 (.slice va TJ.length vc) (LJ L (gs.length + 0)).length (rowC (LJ L (gs.length + 0)))) := Lib.hid (by have h := HTJ.out; rw [Nat.zero_add] at h; rw [Nat.add_zero, h]; exact HO.out)
        have HBL1 := Lib.hid HB.out
        have hxo := (HB.out.block _ (blk_lt HX1.out)).trans HX1.out
        have u0 := cell_blk (i := 0) hxo rfl
        have u1 := cell_blk (i := 1) hxo rfl
        have u2 := cell_blk (i := 2) hxo rfl
        have u3 := cell_blk (i := 3) hxo rfl
        have hlo := blk_lt hxo
        clear hxo hk hkl HO HB
        go_wp2_with fail
        clear u0 u1 u2 u3 hlo hso hlb
        go_loopw [6, 39] (fun v i wr => ∃ k : Nat, k ≤ es.length ∧ i = .int .i64 k ∧ Hid (wr.ownsRow w1.heap.size 54 4 v (LJ L (gs.length + k)).length (rowC (LJ L (gs.length + k)))) ∧ Hid (Below w1.heap.size w1 wr)) (fun _ i _ => es.length - (intOf i).toNat)
        case atStart => exact ⟨0, Nat.zero_le _, rfl, HOL1, HBL1⟩
        case round =>
          obtain ⟨k, hk, rfl, HO, HB⟩ := hrel
          obtain ⟨wo2, rfl⟩ : ∃ wo, wo = wr := ⟨wr, rfl⟩
          obtain ⟨va, vc, rfl⟩ := Go.Proofs.YtjgcjnkeeiaafaaGreatDoor.B.own_slice HO.out
          have hso := HB.out.size
          have hlb := LB'.out (gs.length + k)
          generalize hTJ : LJ L (gs.length + k) = TJ at *
          have HTJ := Lib.hid hTJ
          clear hTJ
          by_cases hkl : k < es.length
          · obtain ⟨b, off, rfl, hb, hc⟩ := Row.at_ (enc := evC) (k := 6) HG.out.es (fun _ => rfl) (by decide) hkl
            have hlk := L2.out k hkl
            have hxm : es[k]! ∈ es := by rw [getElem!_pos es k hkl]; exact List.getElem_mem _
            generalize es[k]! = x at *
            have e0 := (HB.out.cell (p := ⟨b, off + k * 6, none⟩) hb).trans (hc 0 _ rfl)
            have e1 := (HB.out.cell (p := ⟨b, off + k * 6 + 1, none⟩) hb).trans (hc 1 _ rfl)
            have e2 := (HB.out.cell (p := ⟨b, off + k * 6 + 2, none⟩) hb).trans (hc 2 _ rfl)
            have e3 := (HB.out.cell (p := ⟨b, off + k * 6 + 3, none⟩) hb).trans (hc 3 _ rfl)
            have e4 := (HB.out.cell (p := ⟨b, off + k * 6 + 4, none⟩) hb).trans (hc 4 _ rfl)
            have e5 := (HB.out.cell (p := ⟨b, off + k * 6 + 5, none⟩) hb).trans (hc 5 _ rfl)
            have hb' : b < wo2.heap.size := by omega
            obtain ⟨w5, hw5⟩ : ∃ w5, w5 = wo2.alloc (.cells #[.string x.name, .string x.group, .string x.role, .bool x.inn, .bool x.done, .int .i64 x.due] 40) := ⟨_, rfl⟩
            have h5 : Below wo2.heap.size wo2 w5 := by rw [hw5]; exact (Below.refl _ _).alloc (Nat.le_refl _) _
            have h15 := HB.out.trans (h5.mono hso)
            have h05 := HB1.out.trans (h15.mono HB1.out.size)
            have CW := Lib.hid (event_words w5 x (tab_on HT.out h05) (LE'.out x hxm).2.2.2)
            have HLS : Hid (LJ L (gs.length + k + 1) = TJ ++ lineT (evW x)) := Lib.hid (by rw [lj_succ hlk, HTJ.out])
            have hll := LB'.out (gs.length + k + 1)
            rw [HLS.out, List.length_append] at hll
            have hwl := lineT_len (evW x)
            have H5 := Lib.hid h5
            clear h5 h15 h05 hc hlk hxm hb
            generalize evW x = ws at *
            go_wp2_with fail
            rw [← hw5]
            clear hw5
            refine CW.out.mono ?_
            rintro e w6 ⟨v6, rfl, h6, b6⟩
            obtain ⟨a6, c6, rfl⟩ := Go.Proofs.YtjgcjnkeeiaafaaGreatDoor.B.own_slice h6
            have CL := Lib.hid (line_any w6 a6 c6 ws (Row.of_own h6) (by omega))
            have H6 := Lib.hid (H5.out.trans (b6.mono H5.out.size))
            clear h6 b6 CW H5 e0 e1 e2 e3 e4 e5
            go_wp2_with fail
            refine CL.out.mono ?_
            rintro e w7 ⟨v7, rfl, h7, b7⟩
            obtain ⟨a7, c7, rfl⟩ := Go.Proofs.YtjgcjnkeeiaafaaGreatDoor.B.own_slice h7
            have H7 := Lib.hid (H6.out.trans (b7.mono H6.out.size))
            have HO7 := Lib.hid (Go.Proofs.YtjgcjnkeeiaafaaGreatDoor.B.own_below HO.out H7.out)
            have HB7 := Lib.hid (HB.out.trans (H7.out.mono hso))
            have hs7 := HB7.out.size
            have HR7 := Lib.hid (Row.of_own h7)
            have HC7 := Lib.hid (show a7 = none → (lineT ws).length = 0 ∧ c7 = 0 from fun h => by have := Go.Proofs.YtjgcjnkeeiaafaaGreatDoor.B.own_cap h7; have h2 := this.2 h; omega)
            have HL7 := Lib.hid (rowC_length (lineT ws))
            have H17 := Lib.hid (rowC_one (lineT ws))
            clear h7 b7 CL H6 hwl
            generalize lineT ws = T at *
            go_wp2_with (at_builtin; refine Hid.out ?_)
            refine Lib.hid ?_
            refine wpList_append_any rfl (.tmp 43) (.tmp 46) 43 rfl w1.heap.size 54 i0 _ 4 40 Tryz.underlying43 HI0.out HZ0.out HZ1.out HZ2.out rfl (by omega) _ _ _ rfl HO7.out a7 T.length c7 (rowC T) rfl HC7.out HL7.out HR7.out H17.out (by unfold maxLen; omega) (by omega) (by omega) ?_
            intro v8 w8 h8 g8
            obtain ⟨a8, c8, rfl⟩ := Go.Proofs.YtjgcjnkeeiaafaaGreatDoor.B.own_slice h8
            have HO8 : Hid (w8.ownsRow w1.heap.size 54 4 (.slice a8 (TJ.length + T.length) c8) (LJ L (gs.length + (k + 1))).length (rowC (LJ L (gs.length + (k + 1))))) := Lib.hid (by rw [← Nat.add_assoc, HLS.out, List.length_append, row_app']; exact h8)
            have HB8 := Lib.hid (HB7.out.grown g8 hs7 (fun q hq => (HO7.out.lt q hq).1))
            clear h8 g8
            go_wp2_with fail
            go_roundw
            case rel => exact ⟨k + 1, hkl, by go_num, HO8, HB8⟩
            case measure => simp [intOf]; omega
          · obtain rfl : k = es.length := by omega
            have HOL2 : Hid (wo2.ownsRow w1.heap.size 54 4 (.slice va TJ.length vc) (LJ L (gs.length + es.length + 0)).length (rowC (LJ L (gs.length + es.length + 0)))) := Lib.hid (by have h := HTJ.out; rw [Nat.add_zero, h]; exact HO.out)
            have HBL2 := Lib.hid HB.out
            have hxo := (HB.out.block _ (blk_lt HX1.out)).trans HX1.out
            have u0 := cell_blk (i := 0) hxo rfl
            have u1 := cell_blk (i := 1) hxo rfl
            have u2 := cell_blk (i := 2) hxo rfl
            have u3 := cell_blk (i := 3) hxo rfl
            have hlo := blk_lt hxo
            clear hxo hk hkl HO HB
            go_wp2_with fail
            clear u0 u1 u2 u3 hlo hso hlb
            go_loopw [6, 52] (fun v i wr => ∃ k : Nat, k ≤ rs.length ∧ i = .int .i64 k ∧ Hid (wr.ownsRow w1.heap.size 54 4 v (LJ L (gs.length + es.length + k)).length (rowC (LJ L (gs.length + es.length + k)))) ∧ Hid (Below w1.heap.size w1 wr)) (fun _ i _ => rs.length - (intOf i).toNat)
            case atStart => exact ⟨0, Nat.zero_le _, rfl, HOL2, HBL2⟩
            case round =>
              obtain ⟨k, hk, rfl, HO, HB⟩ := hrel
              obtain ⟨wo3, rfl⟩ : ∃ wo, wo = wr := ⟨wr, rfl⟩
              obtain ⟨va, vc, rfl⟩ := Go.Proofs.YtjgcjnkeeiaafaaGreatDoor.B.own_slice HO.out
              have hso := HB.out.size
              have hlb := LB'.out (gs.length + es.length + k)
              generalize hTJ : LJ L (gs.length + es.length + k) = TJ at *
              have HTJ := Lib.hid hTJ
              clear hTJ
              by_cases hkl : k < rs.length
              · obtain ⟨b, off, rfl, hb, hc⟩ := Row.at_ (enc := rlC) (k := 4) HG.out.rs (fun _ => rfl) (by decide) hkl
                have hlk := L3.out k hkl
                have hxm : rs[k]! ∈ rs := by rw [getElem!_pos rs k hkl]; exact List.getElem_mem _
                generalize rs[k]! = x at *
                have e0 := (HB.out.cell (p := ⟨b, off + k * 4, none⟩) hb).trans (hc 0 _ rfl)
                have e1 := (HB.out.cell (p := ⟨b, off + k * 4 + 1, none⟩) hb).trans (hc 1 _ rfl)
                have e2 := (HB.out.cell (p := ⟨b, off + k * 4 + 2, none⟩) hb).trans (hc 2 _ rfl)
                have e3 := (HB.out.cell (p := ⟨b, off + k * 4 + 3, none⟩) hb).trans (hc 3 _ rfl)
                have hb' : b < wo3.heap.size := by omega
                obtain ⟨w5, hw5⟩ : ∃ w5, w5 = wo3.alloc (.cells #[.int .i64 x.kind, .string x.src, .string x.dst, .int .i64 x.time] 42) := ⟨_, rfl⟩
                have h5 : Below wo3.heap.size wo3 w5 := by rw [hw5]; exact (Below.refl _ _).alloc (Nat.le_refl _) _
                have h15 := HB.out.trans (h5.mono hso)
                have h05 := HB1.out.trans (h15.mono HB1.out.size)
                have CW := Lib.hid (relation_words w5 x (tab_on HT.out h05) (fun _ => ⟨(LR'.out x hxm).2.2.2.2.1, Nat_long x.kind x.time (LR'.out x hxm).2.2.2.2.2⟩))
                have HLS : Hid (LJ L (gs.length + es.length + k + 1) = TJ ++ lineT (rlW x)) := Lib.hid (by rw [lj_succ hlk, HTJ.out])
                have hll := LB'.out (gs.length + es.length + k + 1)
                rw [HLS.out, List.length_append] at hll
                have hwl := lineT_len (rlW x)
                have H5 := Lib.hid h5
                clear h5 h15 h05 hc hlk hxm hb
                generalize rlW x = ws at *
                go_wp2_with fail
                rw [← hw5]
                clear hw5
                refine CW.out.mono ?_
                rintro e w6 ⟨v6, rfl, h6, b6⟩
                obtain ⟨a6, c6, rfl⟩ := Go.Proofs.YtjgcjnkeeiaafaaGreatDoor.B.own_slice h6
                have CL := Lib.hid (line_any w6 a6 c6 ws (Row.of_own h6) (by omega))
                have H6 := Lib.hid (H5.out.trans (b6.mono H5.out.size))
                clear h6 b6 CW H5 e0 e1 e2 e3
                go_wp2_with fail
                refine CL.out.mono ?_
                rintro e w7 ⟨v7, rfl, h7, b7⟩
                obtain ⟨a7, c7, rfl⟩ := Go.Proofs.YtjgcjnkeeiaafaaGreatDoor.B.own_slice h7
                have H7 := Lib.hid (H6.out.trans (b7.mono H6.out.size))
                have HO7 := Lib.hid (Go.Proofs.YtjgcjnkeeiaafaaGreatDoor.B.own_below HO.out H7.out)
                have HB7 := Lib.hid (HB.out.trans (H7.out.mono hso))
                have hs7 := HB7.out.size
                have HR7 := Lib.hid (Row.of_own h7)
                have HC7 := Lib.hid (show a7 = none → (lineT ws).length = 0 ∧ c7 = 0 from fun h => by have := Go.Proofs.YtjgcjnkeeiaafaaGreatDoor.B.own_cap h7; have h2 := this.2 h; omega)
                have HL7 := Lib.hid (rowC_length (lineT ws))
                have H17 := Lib.hid (rowC_one (lineT ws))
                clear h7 b7 CL H6 hwl
                generalize lineT ws = T at *
                go_wp2_with (at_builtin; refine Hid.out ?_)
                refine Lib.hid ?_
                refine wpList_append_any rfl (.tmp 56) (.tmp 59) 43 rfl w1.heap.size 54 i0 _ 4 40 Tryz.underlying43 HI0.out HZ0.out HZ1.out HZ2.out rfl (by omega) _ _ _ rfl HO7.out a7 T.length c7 (rowC T) rfl HC7.out HL7.out HR7.out H17.out (by unfold maxLen; omega) (by omega) (by omega) ?_
                intro v8 w8 h8 g8
                obtain ⟨a8, c8, rfl⟩ := Go.Proofs.YtjgcjnkeeiaafaaGreatDoor.B.own_slice h8
                have HO8 : Hid (w8.ownsRow w1.heap.size 54 4 (.slice a8 (TJ.length + T.length) c8) (LJ L (gs.length + es.length + (k + 1))).length (rowC (LJ L (gs.length + es.length + (k + 1))))) := Lib.hid (by rw [← Nat.add_assoc, HLS.out, List.length_append, row_app']; exact h8)
                have HB8 := Lib.hid (HB7.out.grown g8 hs7 (fun q hq => (HO7.out.lt q hq).1))
                clear h8 g8
                go_wp2_with fail
                go_roundw
                case rel => exact ⟨k + 1, hkl, by go_num, HO8, HB8⟩
                case measure => simp [intOf]; omega
              · obtain rfl : k = rs.length := by omega
                have HOL3 : Hid (wo3.ownsRow w1.heap.size 54 4 (.slice va TJ.length vc) (LJ L (gs.length + es.length + rs.length + 0)).length (rowC (LJ L (gs.length + es.length + rs.length + 0)))) := Lib.hid (by have h := HTJ.out; rw [Nat.add_zero, h]; exact HO.out)
                have HBL3 := Lib.hid HB.out
                have hxo := (HB.out.block _ (blk_lt HX1.out)).trans HX1.out
                have u0 := cell_blk (i := 0) hxo rfl
                have u1 := cell_blk (i := 1) hxo rfl
                have u2 := cell_blk (i := 2) hxo rfl
                have u3 := cell_blk (i := 3) hxo rfl
                have hlo := blk_lt hxo
                clear hxo hk hkl HO HB
                go_wp2_with fail
                clear u0 u1 u2 u3 hlo hso hlb
                go_loopw [6, 65] (fun v i wr => ∃ k : Nat, k ≤ us.length ∧ i = .int .i64 k ∧ Hid (wr.ownsRow w1.heap.size 54 4 v (LJ L (gs.length + es.length + rs.length + k)).length (rowC (LJ L (gs.length + es.length + rs.length + k)))) ∧ Hid (Below w1.heap.size w1 wr)) (fun _ i _ => us.length - (intOf i).toNat)
                case atStart => exact ⟨0, Nat.zero_le _, rfl, HOL3, HBL3⟩
                case round =>
                  obtain ⟨k, hk, rfl, HO, HB⟩ := hrel
                  obtain ⟨wo4, rfl⟩ : ∃ wo, wo = wr := ⟨wr, rfl⟩
                  obtain ⟨va, vc, rfl⟩ := Go.Proofs.YtjgcjnkeeiaafaaGreatDoor.B.own_slice HO.out
                  have hso := HB.out.size
                  have hlb := LB'.out (gs.length + es.length + rs.length + k)
                  generalize hTJ : LJ L (gs.length + es.length + rs.length + k) = TJ at *
                  have HTJ := Lib.hid hTJ
                  clear hTJ
                  by_cases hkl : k < us.length
                  · obtain ⟨b, off, rfl, hb, hc⟩ := Row.at_ (enc := usC) (k := 3) HG.out.us (fun _ => rfl) (by decide) hkl
                    have hlk := L4.out k hkl
                    have hxm : us[k]! ∈ us := by rw [getElem!_pos us k hkl]; exact List.getElem_mem _
                    generalize us[k]! = x at *
                    have e0 := (HB.out.cell (p := ⟨b, off + k * 3, none⟩) hb).trans (hc 0 _ rfl)
                    have e1 := (HB.out.cell (p := ⟨b, off + k * 3 + 1, none⟩) hb).trans (hc 1 _ rfl)
                    have e2 := (HB.out.cell (p := ⟨b, off + k * 3 + 2, none⟩) hb).trans (hc 2 _ rfl)
                    have hb' : b < wo4.heap.size := by omega
                    obtain ⟨w5, hw5⟩ : ∃ w5, w5 = wo4.alloc (.cells #[.string x.name, .slice x.ra x.roles.length x.rc, .string x.sub] 74) := ⟨_, rfl⟩
                    have h5 : Below wo4.heap.size wo4 w5 := by rw [hw5]; exact (Below.refl _ _).alloc (Nat.le_refl _) _
                    have h15 := HB.out.trans (h5.mono hso)
                    have h05 := HB1.out.trans (h15.mono HB1.out.size)
                    have CW := Lib.hid (user_words w5 x (((HG.out.roles x hxm).below (Nat.le_refl _) h15)) (by have := (LU'.out x hxm).2.2.2; omega) (HNI.out x hxm))
                    have HLS : Hid (LJ L (gs.length + es.length + rs.length + k + 1) = TJ ++ lineT (usW x)) := Lib.hid (by rw [lj_succ hlk, HTJ.out])
                    have hll := LB'.out (gs.length + es.length + rs.length + k + 1)
                    rw [HLS.out, List.length_append] at hll
                    have hwl := lineT_len (usW x)
                    have H5 := Lib.hid h5
                    clear h5 h15 h05 hc hlk hxm hb
                    generalize usW x = ws at *
                    go_wp2_with fail
                    rw [← hw5]
                    clear hw5
                    refine CW.out.mono ?_
                    rintro e w6 ⟨v6, rfl, h6, b6⟩
                    obtain ⟨a6, c6, rfl⟩ := Go.Proofs.YtjgcjnkeeiaafaaGreatDoor.B.own_slice h6
                    have CL := Lib.hid (line_any w6 a6 c6 ws (Row.of_own h6) (by omega))
                    have H6 := Lib.hid (H5.out.trans (b6.mono H5.out.size))
                    clear h6 b6 CW H5 e0 e1 e2
                    go_wp2_with fail
                    refine CL.out.mono ?_
                    rintro e w7 ⟨v7, rfl, h7, b7⟩
                    obtain ⟨a7, c7, rfl⟩ := Go.Proofs.YtjgcjnkeeiaafaaGreatDoor.B.own_slice h7
                    have H7 := Lib.hid (H6.out.trans (b7.mono H6.out.size))
                    have HO7 := Lib.hid (Go.Proofs.YtjgcjnkeeiaafaaGreatDoor.B.own_below HO.out H7.out)
                    have HB7 := Lib.hid (HB.out.trans (H7.out.mono hso))
                    have hs7 := HB7.out.size
                    have HR7 := Lib.hid (Row.of_own h7)
                    have HC7 := Lib.hid (show a7 = none → (lineT ws).length = 0 ∧ c7 = 0 from fun h => by have := Go.Proofs.YtjgcjnkeeiaafaaGreatDoor.B.own_cap h7; have h2 := this.2 h; omega)
                    have HL7 := Lib.hid (rowC_length (lineT ws))
                    have H17 := Lib.hid (rowC_one (lineT ws))
                    clear h7 b7 CL H6 hwl
                    generalize lineT ws = T at *
                    go_wp2_with (at_builtin; refine Hid.out ?_)
                    refine Lib.hid ?_
                    refine wpList_append_any rfl (.tmp 69) (.tmp 72) 43 rfl w1.heap.size 54 i0 _ 4 40 Tryz.underlying43 HI0.out HZ0.out HZ1.out HZ2.out rfl (by omega) _ _ _ rfl HO7.out a7 T.length c7 (rowC T) rfl HC7.out HL7.out HR7.out H17.out (by unfold maxLen; omega) (by omega) (by omega) ?_
                    intro v8 w8 h8 g8
                    obtain ⟨a8, c8, rfl⟩ := Go.Proofs.YtjgcjnkeeiaafaaGreatDoor.B.own_slice h8
                    have HO8 : Hid (w8.ownsRow w1.heap.size 54 4 (.slice a8 (TJ.length + T.length) c8) (LJ L (gs.length + es.length + rs.length + (k + 1))).length (rowC (LJ L (gs.length + es.length + rs.length + (k + 1))))) := Lib.hid (by rw [← Nat.add_assoc, HLS.out, List.length_append, row_app']; exact h8)
                    have HB8 := Lib.hid (HB7.out.grown g8 hs7 (fun q hq => (HO7.out.lt q hq).1))
                    clear h8 g8
                    go_wp2_with fail
                    go_roundw
                    case rel => exact ⟨k + 1, hkl, by go_num, HO8, HB8⟩
                    case measure => simp [intOf]; omega
                  · obtain rfl : k = us.length := by omega
                    have HBL4 := Lib.hid HB.out
                    have hTP : TJ = PT := HTJ.out.symm.trans LA.out
                    rw [hTP] at hlb HO ⊢
                    have CJ := join_any va vc PT wo4 (Toks.of_own HO.out) (by omega) (Nat.le_trans LN'.out (by omega))
                    clear hTP
                    have HCJ := Lib.hid CJ
                    clear CJ hk hkl HO
                    go_wp2_with fail
                    refine HCJ.out.mono ?_
                    rintro e w9 ⟨rfl, hb9⟩
                    have HF := Lib.hid ((HPO.out (.returned (.tuple #[sb (joinS true PT), .int .i64 0])) w9).2 ⟨HB1.out.trans ((HBL4.out.trans (hb9.mono hso)).mono HB1.out.size), by simp⟩)
                    clear HPO HCJ hb9
                    go_wp2_with fail
                    first | exact HF.out | (go_ret; exact HF.out)
  · have hq : ((ce : Int) == 0) = false := by rw [beq_eq_false_iff_ne]; omega
    have HF := Lib.hid ((HPO.out (.returned (.tuple #[.string ⟨#[]⟩, .int .i64 (ce : Int)])) w1).2 ⟨HB1.out, by rw [if_neg he]⟩)
    clear HPO
    go_wp2_with fail
    rw [← hw1]
    first | exact HF.out | (go_ret; exact HF.out)
end Go.Proofs.YtjgcjnkeeiaafaaGreatDoor.P3.C
