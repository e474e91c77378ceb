/-
  Contract of All.
-/
import Derived.Test.YtplplkchibefjaaMkJ
namespace Go.Proofs.Ytplplkchibefjaa.M5
open Go.RowKit Go.Shelf Go.Proofs.Ytplplkchibefjaa.B

/-- Which events the first j ties hold up. -/
def heldL (ts : List Ti) (l : List Mk) (j : Nat) : List Bool := (List.range l.length).map (fun (k : Nat) => (ts.take j).any (stopsB l (k : Int)))
theorem held_len (ts : List Ti) (l : List Mk) (j : Nat) : (heldL ts l j).length = l.length := by simp [heldL]
theorem held_zero (ts : List Ti) (l : List Mk) : heldL ts l 0 = List.replicate l.length false := by
  refine List.ext_getElem (by rw [held_len, List.length_replicate]) (fun i h1 h2 => ?_)
  simp [heldL]
theorem held_get {ts : List Ti} {l : List Mk} {j k : Nat} (h : k < (heldL ts l j).length) : (heldL ts l j)[k] = (ts.take j).any (stopsB l k) := by simp [heldL]
theorem held_at {ts : List Ti} {l : List Mk} {j k : Nat} (hk : k < l.length) : (heldL ts l j)[k]! = (ts.take j).any (stopsB l k) := by
  rw [getElem!_pos _ k (by rw [held_len]; exact hk)]; simp [heldL]
theorem held_next {ts : List Ti} {l : List Mk} {j : Nat} (hj : j < ts.length) {k : Nat} : (ts.take (j + 1)).any (stopsB l k) = ((ts.take j).any (stopsB l k) || stopsB l k ts[j]!) := by
  rw [take_next hj, List.any_append]; simp
theorem held_same {ts : List Ti} {l : List Mk} {j : Nat} (hj : j < ts.length) (h : ∀ k : Nat, k < l.length → stopsB l k ts[j]! = false) : heldL ts l (j + 1) = heldL ts l j := by
  unfold heldL
  refine List.map_congr_left (fun k hk => ?_)
  rw [held_next hj, h k (List.mem_range.1 hk), Bool.or_false]
theorem held_set {ts : List Ti} {l : List Mk} {j q : Nat} (hj : j < ts.length) (h1 : ts[j]!.to = (q : Int)) (h2 : holdsB l ts[j]! = true) : heldL ts l (j + 1) = (heldL ts l j).set q true := by
  refine List.ext_getElem (by rw [List.length_set, held_len, held_len]) (fun k hk _ => ?_)
  rw [held_len] at hk
  by_cases e : q = k
  · subst e
    rw [List.getElem_set_self, held_get, held_next hj]
    unfold stopsB
    rw [h1, h2]; simp
  · rw [List.getElem_set_ne e, held_get, held_get, held_next hj]
    have : stopsB l (k : Int) ts[j]! = false := by
      unfold stopsB; rw [h1]
      have : ((q : Int) == (k : Int)) = false := by rw [beq_eq_false_iff_ne]; omega
      rw [this, Bool.false_and]
    rw [this, Bool.or_false]
theorem stops_far {l : List Mk} {t : Ti} (h : hasI l.length t.to = false) {k : Nat} (hk : k < l.length) : stopsB l k t = false := by
  unfold stopsB
  have : (t.to == (k : Int)) = false := by
    rw [beq_eq_false_iff_ne]; intro e; rw [e, has_nat hk] at h; cases h
  rw [this, Bool.false_and]
theorem stops_not {l : List Mk} {t : Ti} (h : holdsB l t = false) {k : Nat} : stopsB l k t = false := by unfold stopsB; rw [h, Bool.and_false]
def allK (ts : List Ti) (l : List Mk) (k : Nat) : List Nat := (List.range k).filter (enB ts l)
theorem allK_yes {ts : List Ti} {l : List Mk} {k : Nat} (h : enB ts l k = true) : allK ts l (k + 1) = allK ts l k ++ [k] := by
  simp only [allK, List.range_succ, List.filter_append, List.filter_cons, h, if_true, List.filter_nil]
theorem allK_no {ts : List Ti} {l : List Mk} {k : Nat} (h : enB ts l k = false) : allK ts l (k + 1) = allK ts l k := by
  simp only [allK, List.range_succ, List.filter_append, List.filter_cons, h, Bool.false_eq_true, if_false, List.filter_nil, List.append_nil]
theorem allK_le (ts : List Ti) (l : List Mk) (k : Nat) : (allK ts l k).length ≤ k := by
  have := List.length_filter_le (enB ts l) (List.range k)
  rw [List.length_range] at this; exact this
def intC (l : List Nat) : List Value := l.map fun (i : Nat) => Value.int .i64 (i : Int)
def boolC (l : List Bool) : List Value := l.map Value.bool
theorem bool_cell {w : World} {B g n cap : Nat} {l : List Bool} {k : Nat} (h : w.ownsRow B 4 1 (.slice (some ⟨g, 0, none⟩) n cap) n (boolC l)) (hl : l.length = n) (hk : k < n) : w.cell? ⟨g, k, none⟩ = some (.bool l[k]!) := by
  rw [h.cellAt k (by omega)]
  unfold boolC
  rw [List.getElem?_map, List.getElem?_eq_getElem (by omega : k < l.length), getElem!_pos l k (by omega)]; rfl
def allI (n : Nat) (ts : List Ti) (l : List Mk) : List Nat := if fitsB n l then allL ts l else []
theorem info_bool : (Try.prog.info? 4).map (fun i => (i.zero, i.size, i.bytes)) = some (some (.bool false), 1, 1) := by kernel_rfl
theorem info_int : (Try.prog.info? 3).map (fun i => (i.zero, i.size, i.bytes)) = some (some (.int .i64 0), 1, 8) := by kernel_rfl
theorem false_row (n : Nat) : (madeCells #[Value.bool false] n).toList = boolC (List.replicate n false) := by
  rw [toList_madeCells_one]; simp [boolC]
set_option maxRecDepth 100000 in
set_option maxHeartbeats 4000000 in
theorem all_any (w : World) (EA TA A : Option Addr) (en ec tc c : Nat) (ts : List Ti) (l : List Mk) (ht : Row w TA (ts.flatMap tiC)) (htl : ts.length * 32 ≤ 140737488351232) (hr : Row w A (l.flatMap mkC)) (hl : l.length * 24 ≤ 140737488351232) :
    Calls Try.prog 29 #[.agg #[.slice EA en ec, .slice TA ts.length tc], .slice A l.length c] w fun e w' => ∃ v, e = .returned v ∧ w'.ownsRow w.heap.size 3 1 v (allI en ts l).length (intC (allI en ts l)) ∧ Below w.heap.size w w' := by
  obtain ⟨i0, hi, hz0, hz1, hz2⟩ := info_parts info_bool
  have HI := Lib.hid hi
  have HZ0 := Lib.hid hz0
  have HZ1 := Lib.hid hz1
  have HZ2 := Lib.hid hz2
  obtain ⟨j0, hj, hy0, hy1, hy2⟩ := info_parts info_int
  have HJ := Lib.hid hj
  have HY0 := Lib.hid hy0
  have HY1 := Lib.hid hy1
  have HY2 := Lib.hid hy2
  have hb := (Below.refl w.heap.size w).alloc (Nat.le_refl _) (.cells #[.slice EA en ec, .slice TA ts.length tc] 32)
  have n0 := heap_new w (.cells #[.slice EA en ec, .slice TA ts.length tc] 32)
  have C := Lib.hid (fits_any (w.alloc (.cells #[.slice EA en ec, .slice TA ts.length tc] 32)) EA TA A en ec ts.length tc c l (hr.below (Nat.le_refl _) hb) hl)
  have HB := Lib.hid hb
  have N0 := Lib.hid n0
  have HT := Lib.hid ht
  have HR := Lib.hid hr
  have HS : Hid (allI en ts l = if fitsB en l then allL ts l else []) := Lib.hid rfl
  clear hb n0 ht hr hi hz0 hz1 hz2 hj hy0 hy1 hy2
  cases hf : fitsB en l with
  | false =>
    rw [hf] at C HS
    clear hf
    go_enter Try.func29, Try.ntmps29
    go_wp2_with fail
    refine C.out.mono ?_
    rintro e w3 ⟨rfl, hb3⟩
    have HB3 := Lib.hid (HB.out.trans (hb3.mono HB.out.size))
    clear hb3
    go_wp2_with fail
    go_ret
    have e1 : allI en ts l = [] := HS.out
    exact ⟨_, rfl, by rw [e1]; exact World.ownsRow_nil _ _ _ _, HB3.out⟩
  | true =>
    rw [hf, if_pos rfl] at HS
    rw [hf] at C
    clear hf
    go_enter Try.func29, Try.ntmps29
    go_wp2_with fail
    refine C.out.mono ?_
    rintro e w3 ⟨rfl, hb3⟩
    have HB3 := Lib.hid (HB.out.trans (hb3.mono HB.out.size))
    have hz3 := hb3.size
    rw [World.size_alloc] at hz3
    have n3 := (hb3.block w.heap.size (by rw [World.size_alloc]; omega)).trans N0.out
    have N3 := Lib.hid n3
    have hz3' := HB3.out.size
    clear hb3 n3 C
    go_wp2_with (at_make; refine wpList_make_full _ rfl (.tmp 16) (.tmp 16) 105 rfl w.heap.size 4 i0 _ 1 Try.underlying105 HI.out HZ0.out HZ1.out .i64 .i64 _ _ l.length rfl rfl rfl rfl ?b2 ?b3 hz3' ?_)
    case b2 => rw [HZ2.out]; omega
    case b3 => unfold maxLen; omega
    intro w4 hown hgrow
    rw [false_row, ← held_zero ts l] at hown
    have HO4 := Lib.hid hown
    have hb4 := HB3.out.grown hgrow hz3' (fun _ e => by cases e)
    have HB4 := Lib.hid hb4
    have n4 := (hgrow.block w.heap.size (by omega) (fun e => by cases e)).trans N3.out
    have c0 : w4.cell? ⟨w.heap.size, 0, none⟩ = some (.slice EA en ec) := cell_blk n4 rfl
    have c1 : w4.cell? ⟨w.heap.size, 1, none⟩ = some (.slice TA ts.length tc) := cell_blk n4 rfl
    have hlt4 := blk_lt n4
    have hg3 : w.heap.size < w3.heap.size := by omega
    generalize w3.heap.size = G at *
    clear hown hgrow hb4 n4 HB3 N3 N0 HB hz3 hz3'
    go_wp2_with fail
    clear c0 c1
    go_loopw [21] (fun i wr => ∃ j : Nat, j ≤ ts.length ∧ i = .int .i64 j ∧ Hid (wr.ownsRow w.heap.size 4 1 (.slice (some ⟨G, 0, none⟩) l.length l.length) l.length (boolC (heldL ts l j))) ∧ Hid (Below w.heap.size w wr)) (fun i _ => ts.length - (intOf i).toNat)
    case atStart => exact ⟨0, Nat.zero_le _, rfl, HO4, HB4⟩
    case round =>
      clear HO4 HB4
      obtain ⟨j, hj, rfl, HO, HB⟩ := hrel
      by_cases hlt : j < ts.length
      · obtain ⟨b, off, rfl, hb, hc⟩ := HT.out.at_ (k := 4) (fun _ => rfl) (by omega) hlt
        have k0 := hc 0 _ rfl
        have k1 := hc 1 _ rfl
        have k2 := hc 2 _ rfl
        have k3 := hc 3 _ rfl
        rw [Nat.add_zero] at k0
        rw [← HB.out.cell (p := ⟨b, _, none⟩) hb] at k0 k1 k2 k3
        have hz := HB.out.size
        have hbz : b < wr.heap.size := by omega
        have HFar := fun h => Lib.hid (held_same (l := l) hlt (fun k hk => stops_far (t := ts[j]!) h hk))
        have HNot := fun h => Lib.hid (held_same (l := l) hlt (fun k _ => stops_not (l := l) (t := ts[j]!) (k := k) h))
        have HSet := fun q h1 h2 => Lib.hid (held_set (l := l) (q := q) hlt h1 h2)
        have D := fun W => Lib.hid (has_any A l.length c ts[j]!.to W)
        generalize ts[j]! = x at *
        have HX := Lib.hid (HB.out.alloc hz (.cells #[.int .i64 x.kind, .int .i64 x.fr, .int .i64 x.to, .int .i64 x.time] 49))
        have HOX := Lib.hid (HO.out.alloc (.cells #[.int .i64 x.kind, .int .i64 x.fr, .int .i64 x.to, .int .i64 x.time] 49))
        have HNX := Lib.hid (heap_new wr (.cells #[.int .i64 x.kind, .int .i64 x.fr, .int .i64 x.to, .int .i64 x.time] 49))
        clear hc
        cases hh : hasI l.length x.to with
        | false =>
          rw [hh] at D
          have e1 := (HFar hh).out
          clear HFar HNot HSet hh
          go_wp2_with fail
          refine (D _).out.mono ?_
          rintro e w9 ⟨rfl, rfl⟩
          clear k0 k1 k2 k3
          go_wp2_with fail
          go_roundw
          case rel => exact ⟨j + 1, hlt, by go_num, by rw [e1]; exact HOX, HX⟩
          case measure => simp [intOf]; omega
        | true =>
          rw [hh] at D
          obtain ⟨q, hq, hx⟩ := has_iff.1 hh
          clear hh HFar
          obtain ⟨xk, xf, xt, xm⟩ := x
          simp only at hx
          subst hx
          simp only at k0 k1 k2 k3
          have E := Lib.hid (holds_any (wr.alloc (.cells #[.int .i64 xk, .int .i64 xf, .int .i64 q, .int .i64 xm] 49)) A c l ⟨xk, xf, q, xm⟩ (HR.out.below (Nat.le_refl _) HX.out))
          have HS2 := HSet q rfl
          clear HSet
          have hq0 : (0 : Int) ≤ (q : Int) := Int.natCast_nonneg _
          have hq1 : (q : Int) < (l.length : Int) := by omega
          cases hd : holdsB l ⟨xk, xf, q, xm⟩ with
          | false =>
            have e1 := (HNot hd).out
            rw [hd] at E
            clear HNot HS2 hd
            go_wp2_with fail
            refine (D _).out.mono ?_
            rintro e w9 ⟨rfl, rfl⟩
            go_wp2_with fail
            refine E.out.mono ?_
            rintro e w9 ⟨rfl, hb9⟩
            have HX9 := Lib.hid (HX.out.trans (hb9.mono HX.out.size))
            have HO9 := Lib.hid (own_below HOX.out hb9)
            clear hb9 k0 k1 k2 k3 HX HOX
            go_wp2_with fail
            go_roundw
            case rel => exact ⟨j + 1, hlt, by go_num, by rw [e1]; exact HO9, HX9⟩
            case measure => simp [intOf]; omega
          | true =>
            have e1 := (HS2 hd).out
            rw [hd] at E
            clear HNot HS2 hd
            go_wp2_with fail
            refine (D _).out.mono ?_
            rintro e w9 ⟨rfl, rfl⟩
            go_wp2_with fail
            refine E.out.mono ?_
            rintro e w9 ⟨rfl, hb9⟩
            have HX9 := Lib.hid (HX.out.trans (hb9.mono HX.out.size))
            have hO9 := own_below HOX.out hb9
            have n9 := (hb9.block wr.heap.size (by rw [World.size_alloc]; omega)).trans HNX.out
            have y2 : w9.cell? ⟨wr.heap.size, 2, none⟩ = some (.int .i64 q) := cell_blk n9 rfl
            have z0 := bool_cell hO9 (held_len ts l j) hq
            have g0 := hO9.frozenAt q
            have hst := hO9.stored q (.bool true)
            have HO10 := Lib.hid hst.1
            have HB10 := Lib.hid (HX9.out.grown hst.2 HX9.out.size (fun j e => by cases e; exact Nat.le_of_lt hg3))
            have e2 : Hid (boolC (heldL ts l (j + 1)) = (boolC (heldL ts l j)).set q (.bool true)) := Lib.hid (by rw [e1, boolC, boolC, List.map_set])
            clear hb9 k0 k1 k2 k3 HX HOX hO9 n9 hst e1 HX9
            go_wp2_with fail
            go_roundw
            case rel => exact ⟨j + 1, hlt, by go_num, by rw [e2.out]; exact HO10, HB10⟩
            case measure => simp [intOf]; omega
      · obtain rfl : j = ts.length := by omega
        go_wp2_with fail
        have hen : ∀ k : Nat, k < l.length → enB ts l k = (l[k]!.inn && !(heldL ts l ts.length)[k]!) := fun k hk => by rw [held_at hk, List.take_length]; rfl
        have HEn := Lib.hid hen
        have hhl := held_len ts l ts.length
        generalize heldL ts l ts.length = H at *
        have e0 : Hid (allL ts l = allK ts l l.length) := Lib.hid rfl
        clear hen
        go_loopw [8, 41] (fun v i wr => ∃ k : Nat, k ≤ l.length ∧ i = .int .i64 k ∧ Hid (wr.ownsRow w.heap.size 4 1 (.slice (some ⟨G, 0, none⟩) l.length l.length) l.length (boolC H)) ∧ Hid (wr.ownsRow w.heap.size 3 1 v (allK ts l k).length (intC (allK ts l k))) ∧ Hid (Below w.heap.size w wr)) (fun _ i _ => l.length - (intOf i).toNat)
        case atStart => exact ⟨0, Nat.zero_le _, rfl, HO, Lib.hid (World.ownsRow_nil _ _ _ _), HB⟩
        case round =>
          clear HO HB
          obtain ⟨k, hk, rfl, HO, HV, HB⟩ := hrel
          by_cases hlt : k < l.length
          · obtain ⟨b, off, rfl, hb, hc⟩ := HR.out.at_ (k := 3) (fun _ => rfl) (by omega) hlt
            have k0 := hc 0 _ rfl
            have k1 := hc 1 _ rfl
            have k2 := hc 2 _ rfl
            rw [Nat.add_zero] at k0
            rw [← HB.out.cell (p := ⟨b, _, none⟩) hb] at k0 k1 k2
            have hz := HB.out.size
            have hbz : b < wr.heap.size := by omega
            have h0 := bool_cell HO.out hhl hlt
            have hen := HEn.out k hlt
            have hGz := HO.out.lt G rfl
            have HYes := fun h => Lib.hid (allK_yes (ts := ts) (l := l) (k := k) h)
            have HNo := fun h => Lib.hid (allK_no (ts := ts) (l := l) (k := k) h)
            have hs := allK_le ts l k
            have hgl : G < wr.heap.size := hGz.2
            obtain ⟨va, vc, rfl⟩ := own_slice HV.out
            generalize H[k]! = hb? at *
            generalize l[k]! = x at *
            have HX := Lib.hid (HB.out.alloc hz (.cells #[.bool x.inn, .int .i64 x.age, .int .i64 x.due] 77))
            have HOX := Lib.hid (HO.out.alloc (.cells #[.bool x.inn, .int .i64 x.age, .int .i64 x.due] 77))
            have HVX := Lib.hid (HV.out.alloc (.cells #[.bool x.inn, .int .i64 x.age, .int .i64 x.due] 77))
            have hne : (Value.slice (some ⟨G, 0, none⟩) l.length l.length).ownBlock ≠ (Value.slice va (allK ts l k).length vc).ownBlock := by
              rcases HO.out.2 with ⟨hv, _⟩ | ⟨g, cap, cur, hv, _, hg, _⟩
              · cases hv
              · cases hv
                intro e
                exact own_far HV.out hg (by decide) e.symm
            have HNE := Lib.hid hne
            clear hc hne
            obtain ⟨xi, xa, xd⟩ := x
            cases xi with
            | false =>
              have e1 := (HNo (hen.trans rfl)).out
              clear HYes HNo hen
              go_wp2_with fail
              go_roundw
              case rel => exact ⟨k + 1, hlt, by go_num, HOX, by rw [e1]; exact HVX, HX⟩
              case measure => simp [intOf]; omega
            | true =>
              cases hb? with
              | true =>
                have e1 := (HNo (hen.trans rfl)).out
                clear HYes HNo hen
                go_wp2_with fail
                go_roundw
                case rel => exact ⟨k + 1, hlt, by go_num, HOX, by rw [e1]; exact HVX, HX⟩
                case measure => simp [intOf]; omega
              | false =>
                have e1 := (HYes (hen.trans rfl)).out
                clear HYes HNo hen
                go_wp2_with (at_builtin; refine wpList_append_own _ rfl (.tmp 55) (.tmp 57) 54 rfl w.heap.size 3 j0 _ 1 8 Try.underlying54 HJ.out HY0.out HY1.out HY2.out rfl (by omega) _ _ _ rfl (HVX.out.alloc _) ⟨wr.heap.size + 1, 0, none⟩ 1 1 [.int .i64 k] rfl rfl ?c1 ?c2 ?c3 ?c4 ?c5 ?_)
                case c2 => first | rfl | (intro u hu; simp at hu; subst hu; rfl)
                case c3 => unfold maxLen; omega
                case c4 => omega
                case c5 => omega
                intro v' w9 hown' hgrow _
                have HB9 : Hid (Below w.heap.size w w9) := Lib.hid ((HX.out.alloc (by rw [World.size_alloc]; omega) _).grown hgrow (by rw [World.size_alloc, World.size_alloc]; omega) (fun j hj => (HVX.out.lt j hj).1))
                have HO9 := Lib.hid ((HOX.out.alloc (.cells #[.int .i64 k] 3)).kept hgrow (.inr HNE.out))
                have HV9 : Hid (w9.ownsRow w.heap.size 3 1 v' (allK ts l (k + 1)).length (intC (allK ts l (k + 1)))) := Lib.hid (by
                  rw [e1, intC, List.map_append, List.length_append]; exact hown')
                clear hown' hgrow e1 HX HVX HOX HNE
                go_wp2_with fail
                go_roundw
                case rel => exact ⟨k + 1, hlt, by go_num, HO9, HV9, HB9⟩
                case measure => simp [intOf]; omega
          · obtain rfl : k = l.length := by omega
            have e1 : allI en ts l = allK ts l l.length := HS.out.trans e0.out
            go_wp2_with fail
            go_ret
            exact ⟨_, rfl, by rw [e1]; exact HV.out, HB.out⟩
end Go.Proofs.Ytplplkchibefjaa.M5
