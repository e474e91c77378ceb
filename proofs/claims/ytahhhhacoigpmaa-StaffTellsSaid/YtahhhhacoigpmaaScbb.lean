/-
  Contracts of the looker's leadsBack, and of its look at a user. Contract of the looker's look at the limits.
-/
import Derived.Test.YtahhhhacoigpmaaScba
namespace Go.Proofs.Ytahhhhacoigpmaa
open Go.RowKit Go.Shelf
section
variable {L : Nat} {g : Gr} {bg be br bu : Nat}
theorem back_step {g : Gr} {i n f : Nat} (h1 : (g.us[f]!.sub.toList == []) = false) (h2 : hasB (uns g) g.us[f]!.sub.toList = true) (h3 : ¬ (uns g).idxOf g.us[f]!.sub.toList = i) : backL g i (n + 1) f = backL g i n ((uns g).idxOf g.us[f]!.sub.toList) := by
  rw [backL, h1, h2, if_neg (by decide), if_pos rfl, if_neg h3]
theorem back_hit {g : Gr} {i n f : Nat} (h1 : (g.us[f]!.sub.toList == []) = false) (h2 : hasB (uns g) g.us[f]!.sub.toList = true) (h3 : (uns g).idxOf g.us[f]!.sub.toList = i) : backL g i (n + 1) f = true := by
  rw [backL, h1, h2, if_neg (by decide), if_pos rfl, if_pos h3]
theorem back_none {g : Gr} {i n f : Nat} (h1 : (g.us[f]!.sub.toList == []) = true) : backL g i (n + 1) f = false := by
  rw [backL, h1]; rfl
theorem back_no {g : Gr} {i n f : Nat} (h1 : (g.us[f]!.sub.toList == []) = false) (h2 : hasB (uns g) g.us[f]!.sub.toList = false) : backL g i (n + 1) f = false := by
  rw [backL, h1, h2]; rfl
set_option maxRecDepth 100000 in
set_option maxHeartbeats 2000000 in
theorem leadsBack_any (w : World) (h : LkIn w L g bg be br bu) (hz : SzG g) (i : Nat) (hi : i < g.us.length) :
    Calls Try.prog 69 #[.pointer (some ⟨L, 0, none⟩), .int .i64 i] w fun e w' => e = .returned (.bool (backL g i g.us.length i)) ∧ w = w' := by
  have hgl := hz.us
  have c3 := h.c3
  have c7 := h.c7
  have H := Lib.hid h
  have HZ := Lib.hid hz
  clear h hz
  go_enter Try.func69, Try.ntmps69
  go_wp2_with fail
  go_loop [5, 6, 14] (fun f _ t => ∃ (k q : Nat), k ≤ g.us.length ∧ q < g.us.length ∧ t = .int .i64 k ∧ f = .int .i64 q ∧ Hid (backL g i (g.us.length - k) q = backL g i g.us.length i)) (fun _ _ t => g.us.length - (intOf t).toNat)
  case atStart => exact ⟨0, i, Nat.zero_le _, hi, rfl, rfl, rfl⟩
  case round =>
    obtain ⟨k, q, hk, hq, rfl, rfl, HR⟩ := hrel
    by_cases hlt : k < g.us.length
    · obtain ⟨b, off, hA, hb, hc⟩ := H.out.ing.us.at_ (k := 3) (fun _ => rfl) (by omega) hq
      have k2 := hc 2 _ rfl
      rw [hA] at c3
      obtain ⟨_, hss, _⟩ := HZ.out.ur _ (mem_at hq)
      obtain ⟨r, hlk, hr, _⟩ := look_nm Us.name g.us hss
      have hl := (hlk _ _ H.out.um).2
      have C := Lib.hid (isUser_any w H.out g.us[q]!.sub hss)
      have hn : g.us.length - k = (g.us.length - (k + 1)) + 1 := by omega
      rw [hn] at HR
      clear hc hA hlk hn
      cases h1 : (g.us[q]!.sub.toList == []) with
      | true =>
        have HF : Hid (false = backL g i g.us.length i) := Lib.hid (by rw [← HR.out, back_none h1])
        clear hr HR
        generalize g.us[q]! = u at *
        go_wp2_with fail
        go_ret
        exact ⟨ret_bool HF.out, rfl⟩
      | false =>
        cases h2 : hasB (uns g) g.us[q]!.sub.toList with
        | false =>
          have HF : Hid (false = backL g i g.us.length i) := Lib.hid (by rw [← HR.out, back_no h1 h2])
          rw [h2] at C
          clear hr HR h2
          generalize g.us[q]! = u at *
          go_wp2_with (go_at_call 68; refine C.out.mono ?_; rintro e w' ⟨rfl, rfl⟩)
          go_ret
          exact ⟨ret_bool HF.out, rfl⟩
        | true =>
          obtain ⟨hr1, hr2⟩ := hr h2
          have hr1' : r = (uns g).idxOf g.us[q]!.sub.toList := hr1
          by_cases h3 : r = i
          · have HF : Hid (true = backL g i g.us.length i) := Lib.hid (by rw [← HR.out, back_hit h1 h2 (hr1'.symm.trans h3)])
            rw [h2] at C
            have h3' : ((r : Int) == (i : Int)) = true := by rw [beq_iff_eq]; omega
            clear HR h2 hr1 hr1' h3 hr
            generalize g.us[q]! = u at *
            go_wp2_with (go_at_call 68; refine C.out.mono ?_; rintro e w' ⟨rfl, rfl⟩)
            go_ret
            exact ⟨ret_bool HF.out, rfl⟩
          · have HR' : Hid (backL g i (g.us.length - (k + 1)) r = backL g i g.us.length i) := Lib.hid (by rw [hr1', ← HR.out, back_step h1 h2 (fun e => h3 (hr1'.trans e))])
            rw [h2] at C
            have h3' : ((r : Int) == (i : Int)) = false := by rw [beq_eq_false_iff_ne]; omega
            clear HR h2 hr1 hr1' h3 hr
            generalize g.us[q]! = u at *
            go_wp2_with (go_at_call 68; refine C.out.mono ?_; rintro e w' ⟨rfl, rfl⟩)
            go_round
            case rel => exact ⟨k + 1, r, hlt, hr2, by go_num, rfl, HR'⟩
            case measure => simp [intOf]; omega
    · obtain rfl : k = g.us.length := by omega
      have HF : Hid (false = backL g i g.us.length i) := Lib.hid (by rw [← HR.out, Nat.sub_self]; rfl)
      go_wp2_with fail
      go_ret
      exact ⟨ret_bool HF.out, rfl⟩
set_option maxRecDepth 100000 in
set_option maxHeartbeats 4000000 in
theorem user_any (w : World) (h : LkIn w L g bg be br bu) (hz : SzG g) (hcap : ∀ u ∈ g.us, u.roles.length ≤ u.rc) (i : Nat) (hi : i < g.us.length) :
    Calls Try.prog 43 #[.pointer (some ⟨L, 0, none⟩), .int .i64 i] w fun e w' => e = .returned (.int .i64 (userE g i)) ∧ Below w.heap.size w w' := by
  have hgl := hz.us
  have c3 := h.c3
  have c7 := h.c7
  have hL := h.lt
  obtain ⟨b, off, hA, hb, hc⟩ := h.ing.us.at_ (k := 3) (fun _ => rfl) (by omega) hi
  obtain ⟨hsn, hss, hrl, hrs⟩ := hz.ur _ (mem_at hi)
  have hrc := hcap _ (mem_at hi)
  have k0 := hc 0 _ rfl
  rw [Nat.add_zero] at k0
  have k1 := hc 1 _ rfl
  have k2 := hc 2 _ rfl
  have HE : Hid (userE g i = if nameK g.us[i]!.name.toList && g.us[i]!.roles.all (fun s => nameK s.toList) then
    if aheadB (uns g) g.us[i]!.name.toList i || repeatsL (g.us[i]!.roles.map (·.toList)) g.us[i]!.roles.length then 6
    else if g.us[i]!.sub.toList == [] || hasB (uns g) g.us[i]!.sub.toList then
      if backL g i g.us.length i then 7 else 0
    else 10
    else 5) := Lib.hid rfl
  have hat := has_at Us.name hi
  have hbw : Below w.heap.size w (w.alloc (.cells #[.string g.us[i]!.name, .slice g.us[i]!.ra g.us[i]!.roles.length g.us[i]!.rc, .string g.us[i]!.sub] 52)) := (Below.refl _ _).alloc (Nat.le_refl _) _
  obtain ⟨q, hlk, hq, _⟩ := look_nm Us.name g.us hsn
  have hl := fun n => (hlk _ _ (h.below (below_draws hbw n)).um).2
  have hq' := (hq hat).1
  have HA : Hid (decide (q < i) = aheadB (uns g) g.us[i]!.name.toList i) := Lib.hid (by rw [hq']; rfl)
  have CN := Lib.hid (isName_any g.us[i]!.name (w.alloc (.cells #[.string g.us[i]!.name, .slice g.us[i]!.ra g.us[i]!.roles.length g.us[i]!.rc, .string g.us[i]!.sub] 52)) hsn)
  have CA := Lib.hid (areNames_any g.us[i]!.ra g.us[i]!.rc g.us[i]!.roles _ ((h.ing.roles _ (mem_at hi)).below (Nat.le_refl _) hbw) hrl hrs)
  have CR := fun n => Lib.hid (repeats_any g.us[i]!.ra g.us[i]!.rc g.us[i]!.roles _ ((h.ing.roles _ (mem_at hi)).below (Nat.le_refl _) (below_draws hbw n)) hrl hrc)
  have CU := fun n => Lib.hid (isUser_any _ (h.below (below_draws hbw n)) g.us[i]!.sub hss)
  have CB := fun n => Lib.hid (leadsBack_any _ (h.below (below_draws hbw n)) hz i hi)
  rw [hA] at c3
  clear h hc hA hq hq' hat hlk hz hcap hrs
  generalize g.us[i]! = v at *
  generalize hns : uns g = ns at *
  clear hns
  generalize backL g i g.us.length i = bk at *
  generalize hra : v.roles.all (fun s => nameK s.toList) = ra at *
  generalize hrp : repeatsL (v.roles.map (·.toList)) v.roles.length = rp at *
  clear hra hrp
  cases hn1 : nameK v.name.toList with
  | false =>
    rw [hn1] at CN
    go_enter Try.func43, Try.ntmps43
    go_wp2_with (first | (go_at_call 61; refine CN.out.mono ?_; rintro e w' ⟨rfl, rfl⟩) | (go_at_call 66; refine CA.out.mono ?_; rintro e w' ⟨rfl, rfl⟩))
    go_ret
    exact ⟨ret_i64 (by rw [HE.out, hn1]; rfl), hbw⟩
  | true =>
    rw [hn1] at CN
    cases ra with
    | false =>
      go_enter Try.func43, Try.ntmps43
      go_wp2_with (first | (go_at_call 61; refine CN.out.mono ?_; rintro e w' ⟨rfl, rfl⟩) | (go_at_call 66; refine CA.out.mono ?_; rintro e w' ⟨rfl, rfl⟩))
      go_ret
      exact ⟨ret_i64 (by rw [HE.out, hn1]; rfl), hbw⟩
    | true =>
      by_cases hqi : q < i
      · have hd : decide (q < i) = true := by simpa using hqi
        rw [hd] at HA
        go_enter Try.func43, Try.ntmps43
        go_wp2_with (first | (go_at_call 61; refine CN.out.mono ?_; rintro e w' ⟨rfl, rfl⟩) | (go_at_call 66; refine CA.out.mono ?_; rintro e w' ⟨rfl, rfl⟩))
        go_quiet ((go_at_call 67; exact quiet_left (CR _).out))
        go_wp2_with fail
        go_ret
        exact ⟨ret_i64 (by rw [HE.out, hn1, ← HA.out]; rfl), below_draws hbw _⟩
      · have hd : decide (q < i) = false := by simpa using hqi
        rw [hd] at HA
        cases rp with
        | true =>
          go_enter Try.func43, Try.ntmps43
          go_wp2_with (first | (go_at_call 61; refine CN.out.mono ?_; rintro e w' ⟨rfl, rfl⟩) | (go_at_call 66; refine CA.out.mono ?_; rintro e w' ⟨rfl, rfl⟩))
          go_quiet ((go_at_call 67; exact quiet_left (CR _).out))
          go_wp2_with fail
          go_ret
          exact ⟨ret_i64 (by rw [HE.out, hn1, ← HA.out]; rfl), below_draws hbw _⟩
        | false =>
          cases hs0 : (v.sub.toList == []) with
          | true =>
            cases bk
            · go_enter Try.func43, Try.ntmps43
              go_wp2_with (first | (go_at_call 61; refine CN.out.mono ?_; rintro e w' ⟨rfl, rfl⟩) | (go_at_call 66; refine CA.out.mono ?_; rintro e w' ⟨rfl, rfl⟩))
              go_quiet ((go_at_call 67; exact quiet_left (CR _).out))
              go_wp2_with (first | (go_at_call 68; refine (CU _).out.mono ?_; rintro e w' ⟨rfl, rfl⟩) | (go_at_call 69; refine (CB _).out.mono ?_; rintro e w' ⟨rfl, rfl⟩))
              go_ret
              exact ⟨ret_i64 (by rw [HE.out, hn1, ← HA.out, hs0]; rfl), below_draws hbw _⟩
            · go_enter Try.func43, Try.ntmps43
              go_wp2_with (first | (go_at_call 61; refine CN.out.mono ?_; rintro e w' ⟨rfl, rfl⟩) | (go_at_call 66; refine CA.out.mono ?_; rintro e w' ⟨rfl, rfl⟩))
              go_quiet ((go_at_call 67; exact quiet_left (CR _).out))
              go_wp2_with (first | (go_at_call 68; refine (CU _).out.mono ?_; rintro e w' ⟨rfl, rfl⟩) | (go_at_call 69; refine (CB _).out.mono ?_; rintro e w' ⟨rfl, rfl⟩))
              go_ret
              exact ⟨ret_i64 (by rw [HE.out, hn1, ← HA.out, hs0]; rfl), below_draws hbw _⟩
          | false =>
            cases hu : hasB ns v.sub.toList with
            | false =>
              rw [hu] at CU
              go_enter Try.func43, Try.ntmps43
              go_wp2_with (first | (go_at_call 61; refine CN.out.mono ?_; rintro e w' ⟨rfl, rfl⟩) | (go_at_call 66; refine CA.out.mono ?_; rintro e w' ⟨rfl, rfl⟩))
              go_quiet ((go_at_call 67; exact quiet_left (CR _).out))
              go_wp2_with (first | (go_at_call 68; refine (CU _).out.mono ?_; rintro e w' ⟨rfl, rfl⟩) | (go_at_call 69; refine (CB _).out.mono ?_; rintro e w' ⟨rfl, rfl⟩))
              go_ret
              exact ⟨ret_i64 (by rw [HE.out, hn1, ← HA.out, hs0, hu]; rfl), below_draws hbw _⟩
            | true =>
              rw [hu] at CU
              cases bk
              · go_enter Try.func43, Try.ntmps43
                go_wp2_with (first | (go_at_call 61; refine CN.out.mono ?_; rintro e w' ⟨rfl, rfl⟩) | (go_at_call 66; refine CA.out.mono ?_; rintro e w' ⟨rfl, rfl⟩))
                go_quiet ((go_at_call 67; exact quiet_left (CR _).out))
                go_wp2_with (first | (go_at_call 68; refine (CU _).out.mono ?_; rintro e w' ⟨rfl, rfl⟩) | (go_at_call 69; refine (CB _).out.mono ?_; rintro e w' ⟨rfl, rfl⟩))
                go_ret
                exact ⟨ret_i64 (by rw [HE.out, hn1, ← HA.out, hs0, hu]; rfl), below_draws hbw _⟩
              · go_enter Try.func43, Try.ntmps43
                go_wp2_with (first | (go_at_call 61; refine CN.out.mono ?_; rintro e w' ⟨rfl, rfl⟩) | (go_at_call 66; refine CA.out.mono ?_; rintro e w' ⟨rfl, rfl⟩))
                go_quiet ((go_at_call 67; exact quiet_left (CR _).out))
                go_wp2_with (first | (go_at_call 68; refine (CU _).out.mono ?_; rintro e w' ⟨rfl, rfl⟩) | (go_at_call 69; refine (CB _).out.mono ?_; rintro e w' ⟨rfl, rfl⟩))
                go_ret
                exact ⟨ret_i64 (by rw [HE.out, hn1, ← HA.out, hs0, hu]; rfl), below_draws hbw _⟩
end
end Go.Proofs.Ytahhhhacoigpmaa

namespace Go.Proofs.Ytahhhhacoigpmaa
open Go.RowKit Go.Shelf
set_option maxHeartbeats 400000 in
theorem manyRoles_any (u : Us) (w : World) : Calls Try.prog 52 #[.agg #[.string u.name, .slice u.ra u.roles.length u.rc, .string u.sub]] w fun e w' => e = .returned (.bool (decide (8 < u.roles.length))) ∧ Below w.heap.size w w' := by
  go_enter Try.func52, Try.ntmps52
  go_wp2
  go_ret
  exact ⟨ret_bool (by rw [Bool.eq_iff_iff]; simp; omega), (Below.refl _ _).alloc (Nat.le_refl _) _⟩
def manyB (u : Us) : Bool := decide (8 < u.roles.length)
set_option maxHeartbeats 1000000 in
theorem idxUsers_any (A : Option Addr) (c : Nat) (l : List Us) (w : World) (hr : Row w A (l.flatMap usC)) (hl : l.length * 56 ≤ 140737488351232) :
    Calls Try.prog 76 #[.slice A l.length c, .func (.func 52) #[] #[]] w fun e w' => e = .returned (.int .i64 (idxB manyB l)) ∧ Below w.heap.size w w' := by
  go_enter Try.func76, Try.ntmps76
  go_wp2
  go_loopw [5, 8] (fun _ i wr => ∃ k : Nat, k ≤ l.length ∧ i = .int .i64 k ∧ Hid (∀ j, j < k → manyB l[j]! = false) ∧ Below w.heap.size w wr) (fun _ i _ => l.length - (intOf i).toNat)
  case atStart => exact ⟨0, Nat.zero_le _, rfl, fun j hj => absurd hj (Nat.not_lt_zero _), Below.refl _ _⟩
  case round =>
    obtain ⟨k, hk, rfl, HR, hB⟩ := hrel
    have hBz := hB.size
    by_cases hlt : k < l.length
    · obtain ⟨b, off, rfl, hb, hc⟩ := hr.at_ (k := 3) (fun _ => rfl) (by omega) hlt
      have k0 := hc 0 _ rfl
      rw [Nat.add_zero] at k0
      have k1 := hc 1 _ rfl
      have k2 := hc 2 _ rfl
      rw [← hB.cell (p := ⟨b, _, none⟩) hb] at k0 k1 k2
      clear hc
      have C := fun W => Lib.hid (manyRoles_any l[k]! W)
      cases hn : manyB l[k]! with
      | false =>
        have HR' := Lib.hid (all_step (p := manyB) HR.out hn)
        have hn' : decide (8 < l[k]!.roles.length) = false := hn
        rw [hn'] at C
        clear hn hn' HR
        generalize l[k]! = x at *
        go_wp2_with (go_at_call 52; refine (C _).out.mono ?_; rintro e w' ⟨rfl, hb'⟩)
        go_roundw
        case rel => exact ⟨k + 1, hlt, by go_num, HR', hB.trans (hb'.mono hBz)⟩
        case measure => simp [intOf]; omega
      | true =>
        have HF := Lib.hid (idxB_hit (p := manyB) hlt hn HR.out)
        have hn' : decide (8 < l[k]!.roles.length) = true := hn
        rw [hn'] at C
        clear hn hn' HR
        generalize l[k]! = x at *
        go_wp2_with (go_at_call 52; refine (C _).out.mono ?_; rintro e w' ⟨rfl, hb'⟩)
        go_ret
        exact ⟨ret_i64 HF.out.symm, hB.trans (hb'.mono hBz)⟩
    · obtain rfl : k = l.length := by omega
      have HF := Lib.hid (idxB_miss (p := manyB) HR.out)
      clear HR
      go_wp2_with fail
      go_ret
      exact ⟨ret_i64 HF.out.symm, hB⟩
set_option maxHeartbeats 400000 in
theorem anyMany_any (A : Option Addr) (c : Nat) (l : List Us) (w : World) (hr : Row w A (l.flatMap usC)) (hl : l.length * 56 ≤ 140737488351232) :
    Calls Try.prog 51 #[.slice A l.length c, .func (.func 52) #[] #[]] w fun e w' => e = .returned (.bool (l.any manyB)) ∧ Below w.heap.size w w' := by
  have HA := Lib.hid (idxB_any manyB l)
  go_enter Try.func51, Try.ntmps51
  go_wp2_with (go_at_call 76; refine (idxUsers_any A c l _ hr hl).mono ?_; rintro e w' ⟨rfl, hb'⟩)
  go_ret
  exact ⟨ret_bool HA.out, hb'⟩
/-- The looker ahead of its maps. -/
structure Lk0 (w : World) (L : Nat) (g : Gr) : Prop where
  c0 : w.cell? ⟨L, 0, none⟩ = some (.slice g.ga g.gs.length g.gc)
  c1 : w.cell? ⟨L, 1, none⟩ = some (.slice g.ea g.es.length g.ec)
  c2 : w.cell? ⟨L, 2, none⟩ = some (.slice g.ra g.rs.length g.rc)
  c3 : w.cell? ⟨L, 3, none⟩ = some (.slice g.ua g.us.length g.uc)
  ing : InG w g
theorem limitE_eq (g : Gr) : limitE g = if 40 < g.gs.length then 4 else if 80 < g.es.length then 4 else if 300 < g.rs.length then 4 else if 40 < g.us.length then 4 else if g.us.any manyB then 4 else 0 := rfl
set_option maxRecDepth 100000 in
set_option maxHeartbeats 1000000 in
theorem limits_any (w : World) (L : Nat) (g : Gr) (h : Lk0 w L g) (hz : SzG g) (i : Int) :
    Calls Try.prog 38 #[.pointer (some ⟨L, 0, none⟩), .int .i64 i] w fun e w' => e = .returned (.int .i64 (limitE g)) ∧ Below w.heap.size w w' := by
  have c0 := h.c0
  have c1 := h.c1
  have c2 := h.c2
  have c3 := h.c3
  have hbw : Below w.heap.size w (w.alloc (.cells #[.slice g.ga g.gs.length g.gc, .slice g.ea g.es.length g.ec, .slice g.ra g.rs.length g.rc, .slice g.ua g.us.length g.uc] 27)) := (Below.refl _ _).alloc (Nat.le_refl _) _
  have C := Lib.hid (anyMany_any g.ua g.uc g.us _ (h.ing.us.below (Nat.le_refl _) hbw) hz.us)
  have HE := Lib.hid (limitE_eq g)
  have z1 := hz.gs
  have z2 := hz.es
  have z3 := hz.rs
  have z4 := hz.us
  clear h hz
  by_cases h1 : 40 < g.gs.length
  · go_enter Try.func38, Try.ntmps38
    go_wp2_with fail
    go_ret
    exact ⟨ret_i64 (by rw [HE.out, if_pos h1]; rfl), hbw⟩
  · by_cases h2 : 80 < g.es.length
    · go_enter Try.func38, Try.ntmps38
      go_wp2_with fail
      go_ret
      exact ⟨ret_i64 (by rw [HE.out, if_neg h1, if_pos h2]; rfl), hbw⟩
    · by_cases h3 : 300 < g.rs.length
      · go_enter Try.func38, Try.ntmps38
        go_wp2_with fail
        go_ret
        exact ⟨ret_i64 (by rw [HE.out, if_neg h1, if_neg h2, if_pos h3]; rfl), hbw⟩
      · by_cases h4 : 40 < g.us.length
        · go_enter Try.func38, Try.ntmps38
          go_wp2_with fail
          go_ret
          exact ⟨ret_i64 (by rw [HE.out, if_neg h1, if_neg h2, if_neg h3, if_pos h4]; rfl), hbw⟩
        · cases h5 : g.us.any manyB with
          | true =>
            rw [h5] at C HE
            clear h5
            go_enter Try.func38, Try.ntmps38
            go_wp2_with (go_at_call 51; refine C.out.mono ?_; rintro e w' ⟨rfl, hb'⟩)
            go_ret
            exact ⟨ret_i64 (by rw [HE.out, if_neg h1, if_neg h2, if_neg h3, if_neg h4]; rfl), hbw.trans (hb'.mono hbw.size)⟩
          | false =>
            rw [h5] at C HE
            clear h5
            go_enter Try.func38, Try.ntmps38
            go_wp2_with (go_at_call 51; refine C.out.mono ?_; rintro e w' ⟨rfl, hb'⟩)
            go_ret
            exact ⟨ret_i64 (by rw [HE.out, if_neg h1, if_neg h2, if_neg h3, if_neg h4]; rfl), hbw.trans (hb'.mono hbw.size)⟩
end Go.Proofs.Ytahhhhacoigpmaa
