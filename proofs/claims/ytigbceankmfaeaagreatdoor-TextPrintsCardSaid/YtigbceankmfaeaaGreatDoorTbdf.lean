/-
  Contracts of the document's own digits and event: a line's words, parted by spaces. Contract of the document's own event: its words, parted by spaces. Contracts of the document's own hasGroup, hasEvent, hasUser, there. (made by wip/tools/gen_has.py)
-/
import Derived.Test.YtigbceankmfaeaaGreatDoorTbde
import Derived.Test.YtigbceankmfaeaaGreatDoorTbcg
namespace Go.Proofs.YtigbceankmfaeaaGreatDoor.P3.L
open Go.RowKit Go.Shelf Go.Proofs.YtigbceankmfaeaaGreatDoor Go.Proofs.YtigbceankmfaeaaGreatDoor.P3 Go.Proofs.YtigbceankmfaeaaGreatDoor.P3.C
/-- Words with a space ahead of each but the first. -/
def spW : List (List UInt8) → List UInt8
  | [] => []
  | x :: r => x ++ r.flatMap (fun y => 32 :: y)
theorem line_sp (ws : List (List UInt8)) : lineB ws = spW ws ++ [59, 10] := by
  cases ws with
  | nil => rfl
  | cons x r => simp [lineB, spW]
theorem dig_one : ∀ m, m < 10 → (([48, 49, 50, 51, 52, 53, 54, 55, 56, 57] : List UInt8).drop m).take (m + 1 - m) = [UInt8.ofNat (48 + m)] := by decide
set_option maxRecDepth 100000 in
set_option maxHeartbeats 2000000 in
theorem digits_any : ∀ (f n : Nat), n < f → n ≤ 1048576 → ∀ w : World, Calls Tryz.prog 26 #[.int .i64 n] w fun e w' => ∃ t : ByteArray, e = .returned (.string t) ∧ t.data.toList = digL n ∧ t.size ≤ 7 ∧ w = w'
  | 0, n, h, _, _ => absurd h (Nat.not_lt_zero _)
  | f + 1, n, h, hn, w => by
    have hd : (digL n).length ≤ 7 := digL_len 6 n (by omega)
    by_cases h10 : n < 10
    · have HD := Lib.hid (dig_one n h10)
      have hl : digL n = [UInt8.ofNat (48 + n)] := by rw [digL, dif_pos h10]
      have HL := Lib.hid hl
      clear hd hl
      go_enter Tryz.func26, Tryz.ntmps26
      go_wp2_with fail
      go_ret
      exact ⟨_, rfl, by rw [Lib.extract_data]; exact HD.out.trans HL.out.symm, by show ByteArray.size _ ≤ 7; simp [ByteArray.size_extract]; omega, rfl⟩
    · have q1 : Int.tdiv (n : Int) 10 = ((n / 10 : Nat) : Int) := by rw [Int.tdiv_eq_ediv_of_nonneg (by omega)]; rfl
      have q2 : Int.tmod (n : Int) 10 = ((n % 10 : Nat) : Int) := by rw [Int.tmod_eq_emod_of_nonneg (by omega)]; rfl
      have C1 := Lib.hid (digits_any f (n / 10) (by omega) (by omega))
      have C2 := Lib.hid (digits_any f (n % 10) (by omega) (by omega))
      have hl : digL n = digL (n / 10) ++ digL (n % 10) := by
        rw [digL, dif_neg h10]
        rw [digL.eq_def (n % 10), dif_pos (by omega)]
      rw [hl] at hd
      have HD := Lib.hid hd
      have HL := Lib.hid hl
      clear hd hl
      have ha : n / 10 ≤ 1048576 := by omega
      have hb : n % 10 ≤ 9 := by omega
      generalize n / 10 = a at *
      generalize n % 10 = b at *
      go_enter Tryz.func26, Tryz.ntmps26
      go_wp2_with fail
      refine (C1.out w).mono ?_
      rintro e w' ⟨t, rfl, h1, h1z, hw⟩
      subst hw
      go_wp2_with fail
      refine (C2.out w).mono ?_
      rintro e w' ⟨u, rfl, h2, h2z, hw⟩
      subst hw
      have H1 := Lib.hid h1
      have H2 := Lib.hid h2
      clear h1 h2
      go_wp2_with fail
      go_ret
      exact ⟨_, rfl, by rw [app_list, H1.out, H2.out, HL.out], by rw [Lib.size_eq, app_list, H1.out, H2.out]; exact HD.out, rfl⟩
end Go.Proofs.YtigbceankmfaeaaGreatDoor.P3.L

namespace Go.Proofs.YtigbceankmfaeaaGreatDoor.P3.L
open Go.RowKit Go.Shelf Go.Proofs.YtigbceankmfaeaaGreatDoor Go.Proofs.YtigbceankmfaeaaGreatDoor.P3 Go.Proofs.YtigbceankmfaeaaGreatDoor.P3.C
def evS (v : Ev) : List UInt8 :=
  [101, 118, 101, 110, 116, 32] ++ v.name.data.toList ++ (if v.group.toList = [] then [] else [32, 105, 110, 32] ++ v.group.data.toList) ++ ([32, 114, 111, 108, 101, 32] ++ v.role.data.toList) ++
  (if v.inn then [] else [32, 101, 120, 99, 108, 117, 100, 101, 100]) ++ (if v.done then [32, 100, 111, 110, 101] else []) ++
  (if v.due = -1 then [] else if v.due = 1048576 then [32, 112, 101, 110, 100, 105, 110, 103] else [32, 100, 117, 101, 32] ++ digL v.due.toNat)
theorem ev_sp (v : Ev) : evS v = spW (evW v) := by
  unfold evS evW optB dueW
  have e : ∀ s : ByteArray, s.toList = s.data.toList := fun s => Lib.toList_data s
  simp only [e]
  by_cases hd : v.due = -1
  · simp only [if_pos hd]
    by_cases hg : v.group.data.toList = []
    · simp only [if_pos hg]; cases v.inn <;> cases v.done <;> simp [spW]
    · simp only [if_neg hg]; cases v.inn <;> cases v.done <;> simp [spW]
  · simp only [if_neg hd]
    by_cases hp : v.due = 1048576
    · simp only [if_pos hp]
      by_cases hg : v.group.data.toList = []
      · simp only [if_pos hg]; cases v.inn <;> cases v.done <;> simp [spW]
      · simp only [if_neg hg]; cases v.inn <;> cases v.done <;> simp [spW]
    · simp only [if_neg hp]
      by_cases hg : v.group.data.toList = []
      · simp only [if_pos hg]; cases v.inn <;> cases v.done <;> simp [spW]
      · simp only [if_neg hg]; cases v.inn <;> cases v.done <;> simp [spW]
theorem ev_len (v : Ev) (h0 : v.name.size ≤ 20) (h1 : v.group.size ≤ 20) (h2 : v.role.size ≤ 20) (h4 : v.due ≤ 1048576) : (evS v).length ≤ 200 := by
  rw [Lib.size_eq] at h0 h1 h2
  have hd : (digL v.due.toNat).length ≤ 7 := digL_len 6 _ (by omega)
  have a : (if v.group.toList = [] then [] else [32, 105, 110, 32] ++ v.group.data.toList).length ≤ 24 := by split <;> simp only [List.length_append, List.length_cons, List.length_nil] <;> omega
  have b : (if v.inn then [] else ([32, 101, 120, 99, 108, 117, 100, 101, 100] : List UInt8)).length ≤ 9 := by split <;> simp
  have c : (if v.done then ([32, 100, 111, 110, 101] : List UInt8) else []).length ≤ 9 := by split <;> simp
  have d : (if v.due = -1 then [] else if v.due = 1048576 then [32, 112, 101, 110, 100, 105, 110, 103] else [32, 100, 117, 101, 32] ++ digL v.due.toNat).length ≤ 20 := by
    split
    · simp
    · split
      · simp
      · simp only [List.length_append, List.length_cons, List.length_nil]; omega
  unfold evS
  rw [List.length_append, List.length_append, List.length_append, List.length_append, List.length_append, List.length_append]
  simp only [List.length_append, List.length_cons, List.length_nil] at a b c d ⊢
  omega
def EvP (v : Ev) (w : World) (e : Ending) (w' : World) : Prop := ∃ t : ByteArray, e = .returned (.string t) ∧ t.data.toList = spW (evW v) ∧ t.size ≤ 200 ∧ Below w.heap.size w w'
theorem evp_mk {v : Ev} {w w' : World} {t : ByteArray} (hz : (evS v).length ≤ 200) (h : t.data.toList = evS v) (hb : Below w.heap.size w w') : EvP v w (.returned (.string t)) w' := ⟨t, rfl, h.trans (ev_sp v), by rw [Lib.size_eq, h]; exact hz, hb⟩
set_option maxRecDepth 100000 in
set_option maxHeartbeats 8000000 in
theorem revent_any (w : World) (v : Ev) (h0 : v.name.size ≤ 20) (h1 : v.group.size ≤ 20) (h2 : v.role.size ≤ 20) (h3 : -1 ≤ v.due) (h4 : v.due ≤ 1048576) :
    Calls Tryz.prog 25 #[.agg #[.string v.name, .string v.group, .string v.role, .bool v.inn, .bool v.done, .int .i64 v.due]] w (EvP v w) := by
  have HM := Lib.hid (fun t w' => evp_mk (v := v) (w := w) (w' := w') (t := t) (ev_len v h0 h1 h2 h4))
  unfold evS at HM
  generalize EvP v w = EP at *
  obtain ⟨nm, gr, ro, inn, done, due⟩ := v
  simp only at *
  have hb := (Below.refl w.heap.size w).alloc (Nat.le_refl _) (.cells #[.string nm, .string gr, .string ro, .bool inn, .bool done, .int .i64 due] 46)
  have HB := Lib.hid hb
  clear hb
  cases hg : gr.toList.isEmpty with
  | true =>
    have hg0 : gr.toList = [] := List.isEmpty_iff.1 hg
    have HG := Lib.hid hg0
    clear hg0
    by_cases hm : due = -1
    · have HD := Lib.hid hm
      have d1 : (due == 1048576) = false := by rw [beq_eq_false_iff_ne]; omega
      have d2 : decide (0 ≤ due) = false := by rw [decide_eq_false_iff_not]; omega
      have d3 : ¬ 0 ≤ due := by omega
      clear hm
      cases inn <;> cases done
      all_goals
        go_enter Tryz.func25, Tryz.ntmps25
        go_wp2_with fail
        try go_ret
        refine HM.out _ _ ?_ HB.out
        rw [if_pos HG.out, if_pos HD.out]
        simp
    by_cases hp : due = 1048576
    · have HD := Lib.hid (And.intro hm hp)
      have d1 : (due == 1048576) = true := by rw [beq_iff_eq]; exact hp
      clear hp hm
      cases inn <;> cases done
      all_goals
        go_enter Tryz.func25, Tryz.ntmps25
        go_wp2_with fail
        try go_ret
        refine HM.out _ _ ?_ HB.out
        rw [if_pos HG.out, if_neg HD.out.1, if_pos HD.out.2]
        simp
    · have HD := Lib.hid (And.intro hm hp)
      have d1 : (due == 1048576) = false := by rw [beq_eq_false_iff_ne]; exact hp
      obtain ⟨n, hn⟩ : ∃ n : Nat, due = n := ⟨due.toNat, by omega⟩
      have HN : Hid (due.toNat = n) := Lib.hid (by omega)
      have d2 : (0 : Int) ≤ due := by omega
      have CD0 := digits_any (n + 1) n (by omega) (by omega)
      rw [← hn] at CD0
      have CD := Lib.hid CD0
      clear hp hm hn CD0
      cases inn <;> cases done
      all_goals
        go_enter Tryz.func25, Tryz.ntmps25
        go_wp2_with fail
        refine (CD.out _).mono ?_
        rintro e w1 ⟨u, rfl, hu, huz, hw⟩
        subst hw
        have HU := Lib.hid hu
        clear hu
        go_wp2_with fail
        try go_ret
        refine HM.out _ _ ?_ HB.out
        rw [if_pos HG.out, if_neg HD.out.1, if_neg HD.out.2]
        simp [HU.out, HN.out]
  | false =>
    have hg0 : ¬ gr.toList = [] := fun h => by rw [h] at hg; cases hg
    have HG := Lib.hid hg0
    clear hg0
    by_cases hm : due = -1
    · have HD := Lib.hid hm
      have d1 : (due == 1048576) = false := by rw [beq_eq_false_iff_ne]; omega
      have d2 : decide (0 ≤ due) = false := by rw [decide_eq_false_iff_not]; omega
      have d3 : ¬ 0 ≤ due := by omega
      clear hm
      cases inn <;> cases done
      all_goals
        go_enter Tryz.func25, Tryz.ntmps25
        go_wp2_with fail
        try go_ret
        refine HM.out _ _ ?_ HB.out
        rw [if_neg HG.out, if_pos HD.out]
        simp
    by_cases hp : due = 1048576
    · have HD := Lib.hid (And.intro hm hp)
      have d1 : (due == 1048576) = true := by rw [beq_iff_eq]; exact hp
      clear hp hm
      cases inn <;> cases done
      all_goals
        go_enter Tryz.func25, Tryz.ntmps25
        go_wp2_with fail
        try go_ret
        refine HM.out _ _ ?_ HB.out
        rw [if_neg HG.out, if_neg HD.out.1, if_pos HD.out.2]
        simp
    · have HD := Lib.hid (And.intro hm hp)
      have d1 : (due == 1048576) = false := by rw [beq_eq_false_iff_ne]; exact hp
      obtain ⟨n, hn⟩ : ∃ n : Nat, due = n := ⟨due.toNat, by omega⟩
      have HN : Hid (due.toNat = n) := Lib.hid (by omega)
      have d2 : (0 : Int) ≤ due := by omega
      have CD0 := digits_any (n + 1) n (by omega) (by omega)
      rw [← hn] at CD0
      have CD := Lib.hid CD0
      clear hp hm hn CD0
      cases inn <;> cases done
      all_goals
        go_enter Tryz.func25, Tryz.ntmps25
        go_wp2_with fail
        refine (CD.out _).mono ?_
        rintro e w1 ⟨u, rfl, hu, huz, hw⟩
        subst hw
        have HU := Lib.hid hu
        clear hu
        go_wp2_with fail
        try go_ret
        refine HM.out _ _ ?_ HB.out
        rw [if_neg HG.out, if_neg HD.out.1, if_neg HD.out.2]
        simp [HU.out, HN.out]
end Go.Proofs.YtigbceankmfaeaaGreatDoor.P3.L

namespace Go.Proofs.YtigbceankmfaeaaGreatDoor
open Go.RowKit Go.Shelf
section
variable {α : Type} [Inhabited α] (nm : α → ByteArray)
theorem idx_le (s : ByteArray) : ∀ (l : List α) (k : Nat), k < l.length → ((nm l[k]!).toList == s.toList) = true → (l.map fun x => (nm x).toList).idxOf s.toList ≤ k
  | [], _, h, _ => by simp at h
  | a :: r, 0, _, h => by
    rw [List.map_cons, List.idxOf_cons]
    have h' : ((nm a).toList == s.toList) = true := h
    rw [h']; exact Nat.le_refl _
  | a :: r, k + 1, hk, h => by
    have ih := idx_le s r k (by simpa using hk) h
    rw [List.map_cons, List.idxOf_cons]
    cases ((nm a).toList == s.toList) with
    | true => exact Nat.zero_le _
    | false => exact Nat.succ_le_succ ih
theorem le_idx (s : ByteArray) : ∀ (l : List α) (n : Nat), n ≤ l.length → (∀ j, j < n → ((nm l[j]!).toList == s.toList) = false) → n ≤ (l.map fun x => (nm x).toList).idxOf s.toList
  | _, 0, _, _ => Nat.zero_le _
  | [], n + 1, h, _ => by simp at h
  | a :: r, n + 1, hn, h => by
    have ih := le_idx s r n (by simpa using hn) (fun j hj => h (j + 1) (by omega))
    have h' : ((nm a).toList == s.toList) = false := h 0 (by omega)
    rw [List.map_cons, List.idxOf_cons, h']
    exact Nat.succ_le_succ ih
theorem ahead_hit {s : ByteArray} {l : List α} {k n : Nat} (hk : k < n) (hl : k < l.length) (h : ((nm l[k]!).toList == s.toList) = true) : aheadB (l.map fun x => (nm x).toList) s.toList n = true := by
  have := idx_le nm s l k hl h
  unfold aheadB; rw [decide_eq_true_eq]; omega
theorem ahead_miss {s : ByteArray} {l : List α} {n : Nat} (hn : n ≤ l.length) (h : ∀ j, j < n → ((nm l[j]!).toList == s.toList) = false) : aheadB (l.map fun x => (nm x).toList) s.toList n = false := by
  have := le_idx nm s l n hn h
  unfold aheadB; rw [decide_eq_false_iff_not]; omega
theorem at_hit {s : ByteArray} {l : List α} {k : Nat} (hl : k < l.length) (h : ((nm l[k]!).toList == s.toList) = true) (hm : ∀ j, j < k → ((nm l[j]!).toList == s.toList) = false) : (l.map fun x => (nm x).toList).idxOf s.toList = k := by
  have h1 := idx_le nm s l k hl h
  have h2 := le_idx nm s l k (by omega) hm
  omega
theorem no_more {s : ByteArray} {l : List α} {k : Nat} (h : ∀ j, j < k → ((nm l[j]!).toList == s.toList) = false) (hk : ((nm l[k]!).toList == s.toList) = false) : ∀ j, j < k + 1 → ((nm l[j]!).toList == s.toList) = false := by
  intro j hj
  rcases Nat.lt_or_ge j k with h1 | h1
  · exact h j h1
  · obtain rfl : j = k := by omega
    exact hk
omit [Inhabited α] in
theorem ahead_all {s : ByteArray} {l : List α} : aheadB (l.map fun x => (nm x).toList) s.toList l.length = hasB (l.map fun x => (nm x).toList) s.toList := by
  rw [Bool.eq_iff_iff]
  unfold aheadB hasB
  rw [decide_eq_true_eq, List.contains_iff_mem, ← List.idxOf_lt_length_iff, List.length_map]
end
theorem box_was {w w1 : World} {g : Gr} (hb : Below (w.heap.size + 1) (boxW w g) w1) : Below w.heap.size w w1 :=
  (box_below w g).trans (hb.mono (by omega))
set_option maxRecDepth 100000 in
set_option maxHeartbeats 1000000 in
theorem hasGroup_any (w : World) (g : Gr) (s : ByteArray) (n : Nat) (hI : InG w g) (hz : g.gs.length * 32 ≤ 140737488351232) (hn : n ≤ g.gs.length) :
    Calls Tryz.prog 95 #[.agg #[.slice g.ga g.gs.length g.gc, .slice g.ea g.es.length g.ec, .slice g.ra g.rs.length g.rc, .slice g.ua g.us.length g.uc], .string s, .int .i64 n] w fun e w' => e = .returned (.bool (aheadB (gns g) s.toList n)) ∧ Below w.heap.size w w' := by
  have HI := Lib.hid hI.gs
  clear hI
  go_enter Tryz.func95, Tryz.ntmps95
  go_wp2_with fail
  go_loopw [7] (fun i wr => ∃ k : Nat, k ≤ n ∧ i = .int .i64 k ∧ Hid (∀ j, j < k → ((Gp.name g.gs[j]!).toList == s.toList) = false) ∧ Below (w.heap.size + 1) (boxW w g) wr) (fun i _ => n - (intOf i).toNat)
  case atStart => exact ⟨0, Nat.zero_le _, rfl, Lib.hid (fun j hj => absurd hj (Nat.not_lt_zero _)), by rw [← box_size w g]; exact Below.refl _ _⟩
  case round =>
    obtain ⟨k, hk, rfl, HR, hB⟩ := hrel
    obtain ⟨a0, a1, a2, a3⟩ := box_cells hB
    by_cases hlt : k < n
    · have hll : k < g.gs.length := by omega
      obtain ⟨b, off, hA, hb, hc⟩ := HI.out.at_ (k := 2) (fun _ => rfl) (by omega) hll
      have k0 := hc 0 _ rfl
      rw [Nat.add_zero] at k0
      have k1 := hc 1 _ rfl
      rw [← (box_was hB).cell (p := ⟨b, _, none⟩) hb] at k0 k1
      rw [hA] at a0
      have hk0 : (0 : Int) ≤ (k : Int) := Int.natCast_nonneg _
      have hk1 : (k : Int) < (g.gs.length : Int) := by omega
      have hk2 : (k : Int) < (n : Int) := by omega
      clear hc hA
      cases hq : ((Gp.name g.gs[k]!).toList == s.toList) with
      | true =>
        have HF := Lib.hid (ahead_hit Gp.name hlt hll hq)
        clear HR
        generalize g.gs[k]! = p at *
        go_wp2_with fail
        go_ret
        exact ⟨ret_bool HF.out.symm, box_was hB⟩
      | false =>
        have HR' := Lib.hid (no_more Gp.name HR.out hq)
        clear HR
        generalize g.gs[k]! = p at *
        go_wp2_with fail
        go_roundw
        case rel => exact ⟨k + 1, hlt, by go_num, HR', hB⟩
        case measure => simp [intOf]; omega
    · obtain rfl : k = n := by omega
      have HF := Lib.hid (ahead_miss Gp.name hn HR.out)
      have hk2 : ¬ (k : Int) < (k : Int) := by omega
      clear HR
      go_wp2_with fail
      go_ret
      exact ⟨ret_bool HF.out.symm, box_was hB⟩
set_option maxRecDepth 100000 in
set_option maxHeartbeats 1000000 in
theorem hasEvent_any (w : World) (g : Gr) (s : ByteArray) (n : Nat) (hI : InG w g) (hz : g.es.length * 64 ≤ 140737488351232) (hn : n ≤ g.es.length) :
    Calls Tryz.prog 96 #[.agg #[.slice g.ga g.gs.length g.gc, .slice g.ea g.es.length g.ec, .slice g.ra g.rs.length g.rc, .slice g.ua g.us.length g.uc], .string s, .int .i64 n] w fun e w' => e = .returned (.bool (aheadB (ens g) s.toList n)) ∧ Below w.heap.size w w' := by
  have HI := Lib.hid hI.es
  clear hI
  go_enter Tryz.func96, Tryz.ntmps96
  go_wp2_with fail
  go_loopw [7] (fun i wr => ∃ k : Nat, k ≤ n ∧ i = .int .i64 k ∧ Hid (∀ j, j < k → ((Ev.name g.es[j]!).toList == s.toList) = false) ∧ Below (w.heap.size + 1) (boxW w g) wr) (fun i _ => n - (intOf i).toNat)
  case atStart => exact ⟨0, Nat.zero_le _, rfl, Lib.hid (fun j hj => absurd hj (Nat.not_lt_zero _)), by rw [← box_size w g]; exact Below.refl _ _⟩
  case round =>
    obtain ⟨k, hk, rfl, HR, hB⟩ := hrel
    obtain ⟨a0, a1, a2, a3⟩ := box_cells hB
    by_cases hlt : k < n
    · have hll : k < g.es.length := by omega
      obtain ⟨b, off, hA, hb, hc⟩ := HI.out.at_ (k := 6) (fun _ => rfl) (by omega) hll
      have k0 := hc 0 _ rfl
      rw [Nat.add_zero] at k0
      have k1 := hc 1 _ rfl
      have k2 := hc 2 _ rfl
      have k3 := hc 3 _ rfl
      have k4 := hc 4 _ rfl
      have k5 := hc 5 _ rfl
      rw [← (box_was hB).cell (p := ⟨b, _, none⟩) hb] at k0 k1 k2 k3 k4 k5
      rw [hA] at a1
      have hk0 : (0 : Int) ≤ (k : Int) := Int.natCast_nonneg _
      have hk1 : (k : Int) < (g.es.length : Int) := by omega
      have hk2 : (k : Int) < (n : Int) := by omega
      clear hc hA
      cases hq : ((Ev.name g.es[k]!).toList == s.toList) with
      | true =>
        have HF := Lib.hid (ahead_hit Ev.name hlt hll hq)
        clear HR
        generalize g.es[k]! = p at *
        go_wp2_with fail
        go_ret
        exact ⟨ret_bool HF.out.symm, box_was hB⟩
      | false =>
        have HR' := Lib.hid (no_more Ev.name HR.out hq)
        clear HR
        generalize g.es[k]! = p at *
        go_wp2_with fail
        go_roundw
        case rel => exact ⟨k + 1, hlt, by go_num, HR', hB⟩
        case measure => simp [intOf]; omega
    · obtain rfl : k = n := by omega
      have HF := Lib.hid (ahead_miss Ev.name hn HR.out)
      have hk2 : ¬ (k : Int) < (k : Int) := by omega
      clear HR
      go_wp2_with fail
      go_ret
      exact ⟨ret_bool HF.out.symm, box_was hB⟩
/-- The first user of a name, among some. -/
def userAt (g : Gr) (s : List UInt8) (n : Nat) : Int := if aheadB (uns g) s n then ((uns g).idxOf s : Int) else -1
theorem user_hit {g : Gr} {s : ByteArray} {k n : Nat} (hk : k < n) (hl : k < g.us.length) (h : ((Us.name g.us[k]!).toList == s.toList) = true) (hm : ∀ j, j < k → ((Us.name g.us[j]!).toList == s.toList) = false) : userAt g s.toList n = k := by
  unfold userAt
  rw [if_pos (show aheadB (uns g) s.toList n = true from ahead_hit Us.name hk hl h)]
  exact congrArg _ (at_hit Us.name hl h hm)
theorem user_miss {g : Gr} {s : ByteArray} {n : Nat} (h : aheadB (uns g) s.toList n = false) : userAt g s.toList n = -1 := by
  unfold userAt; rw [h]; rfl
set_option maxRecDepth 100000 in
set_option maxHeartbeats 1000000 in
theorem hasUser_any (w : World) (g : Gr) (s : ByteArray) (n : Nat) (hI : InG w g) (hz : g.us.length * 56 ≤ 140737488351232) (hn : n ≤ g.us.length) :
    Calls Tryz.prog 98 #[.agg #[.slice g.ga g.gs.length g.gc, .slice g.ea g.es.length g.ec, .slice g.ra g.rs.length g.rc, .slice g.ua g.us.length g.uc], .string s, .int .i64 n] w fun e w' => e = .returned (.int .i64 (userAt g s.toList n)) ∧ Below w.heap.size w w' := by
  have HI := Lib.hid hI.us
  clear hI
  go_enter Tryz.func98, Tryz.ntmps98
  go_wp2_with fail
  go_loopw [7] (fun i wr => ∃ k : Nat, k ≤ n ∧ i = .int .i64 k ∧ Hid (∀ j, j < k → ((Us.name g.us[j]!).toList == s.toList) = false) ∧ Below (w.heap.size + 1) (boxW w g) wr) (fun i _ => n - (intOf i).toNat)
  case atStart => exact ⟨0, Nat.zero_le _, rfl, Lib.hid (fun j hj => absurd hj (Nat.not_lt_zero _)), by rw [← box_size w g]; exact Below.refl _ _⟩
  case round =>
    obtain ⟨k, hk, rfl, HR, hB⟩ := hrel
    obtain ⟨a0, a1, a2, a3⟩ := box_cells hB
    by_cases hlt : k < n
    · have hll : k < g.us.length := by omega
      obtain ⟨b, off, hA, hb, hc⟩ := HI.out.at_ (k := 3) (fun _ => rfl) (by omega) hll
      have k0 := hc 0 _ rfl
      rw [Nat.add_zero] at k0
      have k1 := hc 1 _ rfl
      have k2 := hc 2 _ rfl
      rw [← (box_was hB).cell (p := ⟨b, _, none⟩) hb] at k0 k1 k2
      rw [hA] at a3
      have hk0 : (0 : Int) ≤ (k : Int) := Int.natCast_nonneg _
      have hk1 : (k : Int) < (g.us.length : Int) := by omega
      have hk2 : (k : Int) < (n : Int) := by omega
      clear hc hA
      cases hq : ((Us.name g.us[k]!).toList == s.toList) with
      | true =>
        have HF := Lib.hid (user_hit hlt hll hq HR.out)
        clear HR
        generalize g.us[k]! = p at *
        go_wp2_with fail
        go_ret
        exact ⟨ret_i64 HF.out.symm, box_was hB⟩
      | false =>
        have HR' := Lib.hid (no_more Us.name HR.out hq)
        clear HR
        generalize g.us[k]! = p at *
        go_wp2_with fail
        go_roundw
        case rel => exact ⟨k + 1, hlt, by go_num, HR', hB⟩
        case measure => simp [intOf]; omega
    · obtain rfl : k = n := by omega
      have HF := Lib.hid (ahead_miss Us.name hn HR.out)
      have hk2 : ¬ (k : Int) < (k : Int) := by omega
      clear HR
      go_wp2_with fail
      go_ret
      exact ⟨ret_i64 (user_miss HF.out).symm, box_was hB⟩
end Go.Proofs.YtigbceankmfaeaaGreatDoor
