/-
  The document's own staff: For, Next. The document's own staff: May, Able.
-/
import Derived.Test.YtahhhhacoigpmaaScbg
namespace Go.Proofs.Ytahhhhacoigpmaa.SF
open Go.RowKit Go.Shelf Go.Proofs.Ytahhhhacoigpmaa Go.Proofs.Ytahhhhacoigpmaa.B
attribute [local go_sem] Oper.semAt_some
theorem chain_lt {M : List Mb} (h : OkM M) {s : Key} {x : Nat} (hx : x ∈ chain M (placeL M s)) : x < M.length :=
  chR_lt (chR h _ (place_range _).1 (place_range _).2) x hx
theorem nmC_at {M : List Mb} {l : List Nat} {k : Nat} (h : k < l.length) : (nmC M l)[k]? = some (.string M[l[k]!]!.name) := by
  unfold nmC nmL
  rw [List.getElem?_map, List.getElem?_map, List.getElem?_eq_getElem h, getElem!_pos l k h]; rfl
theorem hereB_at {M : List Mb} (x : Nat) : hereB M (x : Int) = !M[x]!.away := by
  unfold hereB; rw [decide_eq_true (by omega), Int.toNat_natCast]; rfl
theorem for_at {M : List Mb} {p : Int} {k : Nat} (hk : k < (chain M p).length) (h : ∀ j, j < k → (fun x : Nat => !M[x]!.away) (chain M p)[j]! = false) (hh : M[(chain M p)[k]!]!.away = false) : forL M p = M[(chain M p)[k]!]!.name := by
  unfold forL
  have hf : (chain M p).find? (fun i => !M[i]!.away) = some (chain M p)[k]! := by
    rw [getElem!_pos _ k hk] at hh ⊢
    rw [List.find?_eq_some_iff_getElem]
    refine ⟨by rw [hh]; rfl, k, hk, rfl, fun j hj => ?_⟩
    have := h j hj
    rw [getElem!_pos _ j (by omega)] at this
    simp only at this
    rw [this]; rfl
  rw [hf]
theorem for_end {M : List Mb} {p : Int} (h : ∀ j, j < (chain M p).length → (fun x : Nat => !M[x]!.away) (chain M p)[j]! = false) : forL M p = ByteArray.empty :=
  forL_none (fun i hi => by
    obtain ⟨j, hj, rfl⟩ := List.getElem_of_mem hi
    have := h j hj
    rw [getElem!_pos _ j hj] at this
    simpa using this)
set_option maxRecDepth 100000 in
set_option maxHeartbeats 4000000 in
theorem rfor_any (w : World) (rb : Nat) (g : Gr) (aa : Option Addr) (ac B : Nat) (M : List Mb) (h : StR w rb g aa ac B M) (hok : OkM M) (u : ByteArray) :
    Calls Try.prog 21 #[pt rb, .string u] w fun e w' => e = .returned (.string (forL M (placeL M u.toList))) ∧ Below w.heap.size w w' := by
  have hN := hok.few
  have hcl := chain_len M (placeL M u.toList)
  have CC := Lib.hid (rchain_any w rb g aa ac B M h hok u)
  have HLT := Lib.hid (fun x hx => chain_lt hok (s := u.toList) (x := x) hx)
  have HS := Lib.hid h
  have HOK := Lib.hid hok
  clear h hok
  have HFA := Lib.hid (fun k hk => for_at (M := M) (p := placeL M u.toList) (k := k) hk)
  have HFE := Lib.hid (for_end (M := M) (p := placeL M u.toList))
  generalize placeL M u.toList = p at *
  generalize forL M p = fl at *
  generalize chain M p = ch at *
  go_enter Try.func21, Try.ntmps21
  go_wp2_with fail
  refine CC.out.mono ?_
  rintro e w1 ⟨v, rfl, hrow, hb⟩
  obtain ⟨va, vc, rfl⟩ := own_slice hrow
  have HR := Lib.hid hrow
  have HB := Lib.hid hb
  clear hrow hb
  go_wp2_with fail
  go_loopw [6] (fun i wr => ∃ k : Nat, k ≤ ch.length ∧ i = .int .i64 k ∧ wr = w1 ∧ Hid (∀ j, j < k → (fun x : Nat => !M[x]!.away) ch[j]! = false)) (fun i _ => ch.length - (intOf i).toNat)
  case atStart => exact ⟨0, Nat.zero_le _, rfl, rfl, Lib.hid (fun j hj => by omega)⟩
  case round =>
    obtain ⟨k, hk, rfl, hwr, HK⟩ := hrel
    subst hwr
    have hi0 : (0 : Int) ≤ (k : Int) := Int.natCast_nonneg _
    by_cases hlt : k < ch.length
    · obtain ⟨b, cap, hv, hBb, hbl⟩ := own_head HR.out (by omega)
      injection hv with h1 h2 h3
      subst h1 h3
      have ck := (HR.out.cellAt k (by omega)).trans (nmC_at hlt)
      have hxl := HLT.out _ (mem_at hlt)
      have hi1 : (k : Int) < (ch.length : Int) := by omega
      have HSr := Lib.hid (HS.out.below HB.out)
      have CHe := Lib.hid (rhere_any wr rb g aa ac B M HSr.out HOK.out M[ch[k]!]!.name)
      rw [place_at HOK.out hxl, hereB_at] at CHe
      cases hh : M[ch[k]!]!.away with
      | false =>
        have HF := Lib.hid (HFA.out k hlt HK.out hh)
        rw [hh] at CHe
        clear hh h2
        generalize M[ch[k]!]!.name = nm at *
        generalize hcl : ch.length = lc at *
        go_wp2_with fail
        refine CHe.out.mono ?_
        rintro e w' ⟨rfl, hww⟩
        subst hww
        go_wp2_with fail
        go_ret
        exact ⟨by rw [HF.out]; rfl, HB.out⟩
      | true =>
        have HK2 := Lib.hid (all_step (p := fun x : Nat => !M[x]!.away) HK.out (by show (!M[ch[k]!]!.away) = false; rw [hh]; rfl))
        rw [hh] at CHe
        clear hh h2
        generalize M[ch[k]!]!.name = nm at *
        generalize hcl : ch.length = lc at *
        go_wp2_with fail
        refine CHe.out.mono ?_
        rintro e w' ⟨rfl, hww⟩
        subst hww
        go_wp2_with fail
        go_roundw
        case rel => exact ⟨k + 1, hlt, by go_num, trivial, HK2⟩
        case measure => simp [intOf]; omega
    · obtain rfl : k = ch.length := by omega
      have HF := Lib.hid (HFE.out HK.out)
      go_wp2_with fail
      go_ret
      exact ⟨by rw [HF.out]; rfl, HB.out⟩
theorem next_nil {M : List Mb} {p s : Int} (h : (chain M p).length = 0) : nextL M p s = ByteArray.empty := by
  unfold nextL; rw [List.eq_nil_of_length_eq_zero h]; rfl
theorem next_at {M : List Mb} {p s : Int} {j : Nat} (h : j < (chain M p).length) (hj : j = min s.toNat ((chain M p).length - 1)) : nextL M p s = M[(chain M p)[j]!]!.name := by
  unfold nextL; rw [← hj, List.getElem?_eq_getElem h, getElem!_pos _ j h]
set_option maxRecDepth 100000 in
set_option maxHeartbeats 4000000 in
theorem rnext_any (w : World) (rb : Nat) (g : Gr) (aa : Option Addr) (ac B : Nat) (M : List Mb) (h : StR w rb g aa ac B M) (hok : OkM M) (u : ByteArray) (s : Int) (hs1 : -9223372036854775808 ≤ s) (hs2 : s < 9223372036854775808) :
    Calls Try.prog 23 #[pt rb, .string u, .int .i64 s] w fun e w' => e = .returned (.string (nextL M (placeL M u.toList) s)) ∧ Below w.heap.size w w' := by
  have hN := hok.few
  have hcl := chain_len M (placeL M u.toList)
  have CC := Lib.hid (rchain_any w rb g aa ac B M h hok u)
  clear h hok
  have HN0 := Lib.hid (next_nil (M := M) (p := placeL M u.toList) (s := s))
  have HNA := Lib.hid (fun j hj => next_at (M := M) (p := placeL M u.toList) (s := s) (j := j) hj)
  generalize placeL M u.toList = p at *
  generalize nextL M p s = fl at *
  generalize chain M p = ch at *
  go_enter Try.func23, Try.ntmps23
  go_wp2_with fail
  refine CC.out.mono ?_
  rintro e w1 ⟨v, rfl, hrow, hb⟩
  obtain ⟨va, vc, rfl⟩ := own_slice hrow
  have HR := Lib.hid hrow
  have HB := Lib.hid hb
  clear hrow hb
  by_cases h0 : ch.length = 0
  · have HF := Lib.hid (HN0.out h0)
    rw [h0]
    clear HR CC HNA hcl h0
    go_wp2_with fail
    go_ret
    exact ⟨by rw [HF.out]; rfl, HB.out⟩
  · obtain ⟨j, hj⟩ : ∃ j, j = min s.toNat (ch.length - 1) := ⟨_, rfl⟩
    have hjl : j < ch.length := by omega
    have HF := Lib.hid (HNA.out j hjl hj)
    obtain ⟨b, cap, hv, hBb, hbl⟩ := own_head HR.out (by omega)
    injection hv with h1 h2 h3
    subst h1 h3
    have ck := (HR.out.cellAt j (by omega)).trans (nmC_at hjl)
    have hji : (j : Int) = min (max s 0) ((ch.length : Int) - 1) := by omega
    have hi0 : (0 : Int) ≤ (j : Int) := Int.natCast_nonneg _
    have hi1 : (j : Int) < (ch.length : Int) := by omega
    have hne : ((ch.length : Int) == 0) = false := by rw [beq_eq_false_iff_ne]; omega
    have hw : IntKind.i64.wrap ((ch.length : Int) - 1) = (ch.length : Int) - 1 := by rw [IntKind.wrap_i64]; omega
    clear h2 hj CC HNA HN0 HR
    generalize M[ch[j]!]!.name = nm at *
    generalize ch.length = lc at *
    have hc : s < 0 ∨ (0 ≤ s ∧ s ≤ (lc : Int) - 1) ∨ (lc : Int) - 1 < s := by omega
    rcases hc with hs | ⟨hs, hs3⟩ | hs
    · obtain rfl : j = 0 := by omega
      have hs3 : (0 : Int) ≤ (lc : Int) - 1 := by omega
      go_wp2_with fail
      go_ret
      exact ⟨by rw [HF.out]; rfl, HB.out⟩
    · have hj : j = s.toNat := by omega
      rw [hj] at ck
      clear hj hji hi0 hi1 hjl
      have hb0 : s < (lc : Int) := by omega
      have hs4 : ¬ s < 0 := by omega
      go_wp2_with fail
      go_ret
      exact ⟨by rw [HF.out]; rfl, HB.out⟩
    · have hj : j = lc - 1 := by omega
      rw [hj] at ck
      clear hj hji hi0 hi1 hjl
      have hb1 : (0 : Int) ≤ (lc : Int) - 1 := by omega
      have hb0 : (lc : Int) - 1 < (lc : Int) := by omega
      have hs4 : ¬ s < 0 := by omega
      have hs5 : ¬ s ≤ (lc : Int) - 1 := by omega
      go_wp2_with fail
      go_ret
      exact ⟨by rw [HF.out]; rfl, HB.out⟩
end Go.Proofs.Ytahhhhacoigpmaa.SF

namespace Go.Proofs.Ytahhhhacoigpmaa.SF
open Go.RowKit Go.Shelf Go.Proofs.Ytahhhhacoigpmaa Go.Proofs.Ytahhhhacoigpmaa.B
attribute [local go_sem] Oper.semAt_some
/-- Is a place in a chain, so far? -/
theorem name_hit {M : List Mb} (h : OkM M) {x q : Nat} (hx : x < M.length) {u : ByteArray} (hp : placeL M u.toList = (q : Int)) (he : (M[x]!.name.toList == u.toList) = true) : x = q := by
  have := place_hit h hx he
  omega
theorem name_own {M : List Mb} {q : Nat} {u : ByteArray} (hp : placeL M u.toList = (q : Int)) : (M[q]!.name.toList == u.toList) = true := by
  have h := (place_name (M := M) (u := u.toList) (by omega)).2
  rw [hp, Int.toNat_natCast] at h
  rw [h, beq_self_eq_true]
theorem not_in {M : List Mb} {q : Nat} {u : ByteArray} (hp : placeL M u.toList = (q : Int)) {c : List Nat} (h : ∀ j, j < c.length → (fun x : Nat => M[x]!.name.toList == u.toList) c[j]! = false) : c.contains q = false := by
  cases hc : c.contains q with
  | false => rfl
  | true =>
    exfalso
    obtain ⟨j, hj, he⟩ := List.getElem_of_mem (List.contains_iff_mem.1 hc)
    have h1 := h j hj
    rw [getElem!_pos c j hj, he] at h1
    simp only at h1
    rw [name_own hp] at h1; cases h1
theorem may_yes {M : List Mb} {r : Key} {k q : Nat} (hk : k < M.length) (hh : holdB M[k]! r = true) (hc : q ∈ chain M (k : Int)) (ha : hereB M (q : Int) = true) : mayB M (q : Int) r = true := by
  rw [hereB_at] at ha
  unfold mayB ableB
  rw [decide_eq_true (by omega), Int.toNat_natCast, ha, Bool.and_true, Bool.true_and]
  exact List.any_eq_true.2 ⟨k, List.mem_filter.2 ⟨List.mem_range.2 hk, hh⟩, List.contains_iff_mem.2 hc⟩
theorem may_no {M : List Mb} {r : Key} {q : Nat} (h : ∀ k, k < M.length → (fun k : Nat => holdB M[k]! r && (chain M (k : Int)).contains q) k = false) : mayB M (q : Int) r = false := by
  unfold mayB ableB
  rw [Int.toNat_natCast]
  have e : (hold M r).any (fun h => (chain M h).contains q) = false := List.any_eq_false.2 (fun x hx => by
    obtain ⟨h1, h2⟩ := List.mem_filter.1 hx
    have h3 := h x (List.mem_range.1 h1)
    simp only at h3
    rw [h2, Bool.true_and] at h3
    rw [h3]; decide)
  rw [e, Bool.false_and, Bool.and_false]
theorem may_away {M : List Mb} {p : Int} {r : Key} (h : hereB M p = false) : mayB M p r = false := by
  unfold hereB at h
  unfold mayB ableB
  cases hd : decide (0 ≤ p) with
  | false => rw [Bool.false_and]
  | true => rw [hd, Bool.true_and] at h; rw [h, Bool.and_false, Bool.and_false]
set_option maxRecDepth 100000 in
set_option maxHeartbeats 8000000 in
theorem rmay_any (w : World) (rb : Nat) (g : Gr) (aa : Option Addr) (ac B : Nat) (M : List Mb) (h : StR w rb g aa ac B M) (hok : OkM M) (u r : ByteArray) :
    Calls Try.prog 25 #[pt rb, .string u, .string r] w fun e w' => e = .returned (.bool (mayB M (placeL M u.toList) r.toList)) ∧ Below w.heap.size w w' := by
  have hN := hok.few
  have HS := Lib.hid h
  have HOK := Lib.hid hok
  have CHe := fun W hb => Lib.hid (rhere_any W rb g aa ac B M (h.below (w' := W) hb) hok u)
  clear h hok
  cases hhe : hereB M (placeL M u.toList) with
  | false =>
    have HF := Lib.hid (may_away (r := r.toList) hhe)
    rw [hhe] at CHe
    rw [HF.out]
    have c0 := HS.out.c0
    have hl := HS.out.lt
    clear hhe HF
    generalize placeL M u.toList = p at *
    have C0 := CHe w (Below.refl _ _)
    clear CHe
    go_enter Try.func25, Try.ntmps25
    go_wp2_with fail
    go_loopw [7] (fun i wr => i = .int .i64 0 ∧ wr = w) (fun _ _ => 0)
    case atStart => exact ⟨rfl, rfl⟩
    case round =>
      obtain ⟨rfl, hwr⟩ := hrel
      subst hwr
      by_cases h0 : M.length = 0
      · rw [h0] at c0
        go_wp2_with fail
        go_ret
        exact ⟨rfl, Below.refl _ _⟩
      · have h1 : (0 : Int) < (M.length : Int) := by omega
        go_wp2_with fail
        refine C0.out.mono ?_
        rintro e w' ⟨rfl, hww⟩
        subst hww
        go_wp2_with fail
        go_ret
        exact ⟨rfl, Below.refl _ _⟩
  | true =>
    obtain ⟨q, hq⟩ : ∃ q : Nat, placeL M u.toList = (q : Int) := ⟨(placeL M u.toList).toNat, by
      unfold hereB at hhe
      rw [Bool.and_eq_true, decide_eq_true_eq] at hhe
      omega⟩
    rw [hhe] at CHe
    rw [hq] at hhe
    have HHE := Lib.hid hhe
    have HQ := Lib.hid hq
    rw [hq]
    clear hhe hq
    go_enter Try.func25, Try.ntmps25
    go_wp2_with fail
    go_loopw [7] (fun i wr => ∃ k : Nat, k ≤ M.length ∧ i = .int .i64 k ∧ Hid (∀ j, j < k → (fun k : Nat => holdB M[k]! r.toList && (chain M (k : Int)).contains q) j = false) ∧ Hid (Below w.heap.size w wr)) (fun i _ => M.length - (intOf i).toNat)
    case atStart => exact ⟨0, Nat.zero_le _, rfl, Lib.hid (fun j hj => by omega), Lib.hid (Below.refl _ _)⟩
    case round =>
      obtain ⟨k, hk, rfl, HK, HW⟩ := hrel
      have hi0 : (0 : Int) ≤ (k : Int) := Int.natCast_nonneg _
      have HSr := Lib.hid (HS.out.below HW.out)
      have c0 := HSr.out.c0
      have hl := HSr.out.lt
      by_cases hlt : k < M.length
      · have hi1 : (k : Int) < (M.length : Int) := by omega
        have C0 := CHe wr HW.out
        obtain ⟨b, off, ra, rc, sub, hA, hb, n0, n1, n2, hrow, _, _⟩ := HSr.out.at_ hlt
        rw [hA] at c0
        have HRW := Lib.hid hrow
        have CC := Lib.hid (rchain_any wr rb g aa ac B M HSr.out HOK.out M[k]!.name)
        rw [place_at HOK.out hlt] at CC
        have HRL := Lib.hid (HOK.out.roles _ (mem_at hlt))
        clear hA hrow
        have CHo := fun W hb => Lib.hid (rholds_any W M[k]!.name sub ra rc M[k]!.roles (HRW.out.below (Nat.le_refl _) hb) HRL.out r)
        rw [show hasB (M[k]!.roles.map (·.toList)) r.toList = holdB M[k]! r.toList from rfl] at CHo
        have hcl := chain_len M (k : Int)
        have HCL := Lib.hid (fun x hx => chR_lt (chR HOK.out (k : Int) (by omega) (by omega)) x hx)
        obtain ⟨hd, hhd⟩ : ∃ b, holdB M[k]! r.toList = b := ⟨_, rfl⟩
        have HHD := Lib.hid hhd
        rw [hhd] at CHo
        clear hhd
        obtain ⟨ch, hch⟩ : ∃ c, chain M (k : Int) = c := ⟨_, rfl⟩
        have HCH := Lib.hid hch
        rw [hch] at CC hcl HCL
        clear hch
        generalize M[k]!.name = nm at *
        generalize M[k]!.roles = rl at *
        go_wp2_with fail
        refine C0.out.mono ?_
        rintro e w' ⟨rfl, hww⟩
        subst hww
        go_wp2_with fail
        refine CC.out.mono ?_
        rintro e w5 ⟨v, rfl, ho, hb5⟩
        obtain ⟨va, vc, rfl⟩ := own_slice ho
        have HO := Lib.hid ho
        have HB5 := Lib.hid hb5
        clear ho hb5
        go_wp2_with fail
        obtain ⟨wo, rfl⟩ : ∃ wo, wo = wr := ⟨wr, rfl⟩
        go_loopw [9] (fun i wr => ∃ m : Nat, m ≤ ch.length ∧ i = .int .i64 m ∧ Hid (Below w5.heap.size w5 wr) ∧ Hid (∀ j, j < m → (fun x : Nat => M[x]!.name.toList == u.toList) ch[j]! = false)) (fun i _ => ch.length - (intOf i).toNat)
        case atStart => exact ⟨0, Nat.zero_le _, rfl, Lib.hid (Below.refl _ _), Lib.hid (fun j hj => by omega)⟩
        case round =>
          obtain ⟨m, hm, rfl, HW6, HM⟩ := hrel
          have hj0 : (0 : Int) ≤ (m : Int) := Int.natCast_nonneg _
          have HB6 := Lib.hid (HB5.out.trans (HW6.out.mono HB5.out.size))
          have HWW := Lib.hid (HW.out.trans (HB6.out.mono HW.out.size))
          have HRK : Hid (hd = false ∨ m = ch.length → ∀ j, j < k + 1 → (fun k : Nat => holdB M[k]! r.toList && (chain M (k : Int)).contains q) j = false) := Lib.hid (fun hor j hj => by
            by_cases e : j = k
            · subst e
              show (holdB M[j]! r.toList && (chain M (j : Int)).contains q) = false
              rcases hor with h1 | h1
              · rw [HHD.out, h1, Bool.false_and]
              · rw [HCH.out, not_in HQ.out (fun i hi => HM.out i (by omega)), Bool.and_false]
            · exact HK.out j (by omega))
          by_cases hmt : m < ch.length
          · have hj1 : (m : Int) < (ch.length : Int) := by omega
            have hxl := HCL.out _ (mem_at hmt)
            have hxm : ch[m]! ∈ ch := mem_at hmt
            obtain ⟨b6, cap, hv, hBb, hbl⟩ := own_head HO.out (by omega)
            injection hv with h1 h2 h3
            subst h1 h3
            have ck := (HO.out.cellAt m (by omega)).trans (nmC_at hmt)
            have CH6 := CHo _ HB6.out
            have hz6 := HB6.out.size
            rw [← HB6.out.cell (p := ⟨b, _, none⟩) hb] at n0 n1 n2
            rw [← HB6.out.cell (p := ⟨rb, 0, none⟩) hl] at c0
            have hb6 : b < wr.heap.size := by omega
            have hl6 : rb < wr.heap.size := by omega
            have HCK := Lib.hid ck
            have HBL := Lib.hid hbl
            clear h2 hb hl CHo CHe C0 CC ck hbl
            cases hd with
            | false =>
              generalize hcl2 : ch.length = lc at *
              clear hcl2
              go_wp2_with fail
              refine CH6.out.mono ?_
              rintro e w7 ⟨rfl, hb7⟩
              have HW7 := Lib.hid (HWW.out.trans (hb7.mono HWW.out.size))
              clear hb7 c0 n0 n1 n2 hb6 hl6
              go_wp2_with fail
              go_roundw
              case rel => exact ⟨k + 1, hlt, by go_num, Lib.hid (HRK.out (.inl trivial)), HW7⟩
              case measure => simp [intOf]; omega
            | true =>
              cases he : (M[ch[m]!]!.name.toList == u.toList) with
              | true =>
                have hq2 := name_hit HOK.out hxl HQ.out he
                rw [hq2] at hxm
                have HF := Lib.hid (may_yes (r := r.toList) hlt HHD.out (by rw [HCH.out]; exact hxm) HHE.out)
                clear hq2 hxm
                generalize M[ch[m]!]!.name = nm2 at *
                generalize hcl2 : ch.length = lc at *
                clear hcl2
                go_wp2_with fail
                refine CH6.out.mono ?_
                rintro e w7 ⟨rfl, hb7⟩
                have ck : w7.cell? ⟨b6, m, none⟩ = some (.string nm2) := ((HW6.out.trans (hb7.mono HW6.out.size)).cell (p := ⟨b6, m, none⟩) HBL.out).trans HCK.out
                have HW7 := Lib.hid (HWW.out.trans (hb7.mono HWW.out.size))
                clear hb7 c0 n0 n1 n2 hb6 hl6
                go_wp2_with fail
                go_ret
                exact ⟨ret_bool HF.out.symm, HW7.out⟩
              | false =>
                have HM2 := Lib.hid (all_step (p := fun x : Nat => M[x]!.name.toList == u.toList) HM.out he)
                clear hxm
                generalize M[ch[m]!]!.name = nm2 at *
                generalize hcl2 : ch.length = lc at *
                clear hcl2
                go_wp2_with fail
                refine CH6.out.mono ?_
                rintro e w7 ⟨rfl, hb7⟩
                have HB7 := Lib.hid (HW6.out.trans (hb7.mono HW6.out.size))
                have ck : w7.cell? ⟨b6, m, none⟩ = some (.string nm2) := (HB7.out.cell (p := ⟨b6, m, none⟩) HBL.out).trans HCK.out
                clear hb7 c0 n0 n1 n2 hb6 hl6
                go_wp2_with fail
                go_roundw
                case rel => exact ⟨m + 1, hmt, by go_num, HB7, HM2⟩
                case measure => simp [intOf]; omega
          · obtain rfl : m = ch.length := by omega
            go_wp2_with fail
            go_roundw
            case rel => exact ⟨k + 1, hlt, by go_num, Lib.hid (HRK.out (.inr rfl)), HWW⟩
            case measure => simp [intOf]; omega
      · obtain rfl : k = M.length := by omega
        have HF := Lib.hid (may_no HK.out)
        go_wp2_with fail
        go_ret
        exact ⟨ret_bool HF.out.symm, HW.out⟩
set_option maxRecDepth 100000 in
set_option maxHeartbeats 4000000 in
theorem rableAll_any (w : World) (rb : Nat) (g : Gr) (aa : Option Addr) (ac B : Nat) (M : List Mb) (h : StR w rb g aa ac B M) (hok : OkM M) (r : ByteArray) :
    Calls Try.prog 27 #[pt rb, .string r] w (NmP w M (ableL M r.toList)) := by
  have hN := hok.few
  have HS := Lib.hid h
  have HOK := Lib.hid hok
  have HLL : Hid (ableL M r.toList = ableK M r.toList M.length) := Lib.hid rfl
  rw [HLL.out]
  clear h
  obtain ⟨ii, hii0, hii1, hii2, hii3⟩ := info_parts info_st
  have HII0 := Lib.hid hii0
  have HII1 := Lib.hid hii1
  have HII2 := Lib.hid hii2
  have HII3 := Lib.hid hii3
  clear hii0 hii1 hii2 hii3
  have V0 := Lib.hid (own_emp0 w 9 1 (Nat.le_refl _))
  have HB0 := Lib.hid ((Below.refl w.heap.size w).alloc (Nat.le_refl _) (.cells #[] 9))
  go_enter Try.func27, Try.ntmps27
  go_wp2_with fail
  go_loopw [5, 6] (fun v i wr => ∃ k : Nat, k ≤ M.length ∧ i = .int .i64 k ∧ Hid (wr.ownsRow w.heap.size 9 1 v (ableK M r.toList k).length (nmC M (ableK M r.toList k))) ∧ Hid (Below w.heap.size w wr)) (fun _ i _ => M.length - (intOf i).toNat)
  case atStart => exact ⟨0, Nat.zero_le _, rfl, V0, HB0⟩
  case round =>
    clear V0 HB0
    obtain ⟨k, hk, rfl, HV, HW⟩ := hrel
    have HSr := Lib.hid (HS.out.below HW.out)
    have c0 := HSr.out.c0
    have hl := HSr.out.lt
    by_cases hlt : k < M.length
    · have hi0 : (0 : Int) ≤ (k : Int) := Int.natCast_nonneg _
      have hi1 : (k : Int) < (M.length : Int) := by omega
      have HKS := Lib.hid (ableK_succ M r.toList k)
      obtain ⟨b, off, ra, rc, sub, hA, hb, n0, n1, n2, _, _, _⟩ := HSr.out.at_ hlt
      have HA := Lib.hid hA
      rw [hA] at c0
      have hkl := ableK_len M r.toList k
      obtain ⟨va, vc, hv⟩ := own_slice HV.out
      subst hv
      have CH := Lib.hid (rmay_any wr rb g aa ac B M HSr.out HOK.out M[k]!.name r)
      rw [place_at HOK.out hlt] at CH
      clear hA
      have hHB : mayB M (k : Int) r.toList = ableB M r.toList k := by unfold mayB; rw [decide_eq_true hi0, Int.toNat_natCast]; rfl
      rw [hHB] at CH
      clear hHB
      cases hh : ableB M r.toList k with
      | false =>
        rw [hh] at CH HKS
        rw [if_neg (by decide), List.append_nil] at HKS
        clear hh
        generalize M[k]!.name = nm at *
        clear n1 n2
        generalize hak : ableK M r.toList k = ak at *
        clear hak
        go_wp2_with fail
        refine CH.out.mono ?_
        rintro e w5 ⟨rfl, hb5⟩
        have HW5 := Lib.hid (HW.out.trans (hb5.mono HW.out.size))
        have HV5 := Lib.hid (own_below HV.out hb5)
        clear hb5 HW HSr c0 n0 hl hb
        go_wp2_with fail
        go_roundw
        case rel => exact ⟨k + 1, hlt, by go_num, by rw [HKS.out]; exact HV5, HW5⟩
        case measure => simp [intOf]; omega
      | true =>
        rw [hh] at CH HKS
        rw [if_pos rfl] at HKS
        clear hh
        have HSN : Hid (nmC M (ableK M r.toList (k + 1)) = nmC M (ableK M r.toList k) ++ [.string M[k]!.name]) := Lib.hid (by rw [HKS.out, nmC_snoc])
        have HSL : Hid ((ableK M r.toList (k + 1)).length = (ableK M r.toList k).length + 1) := Lib.hid (by rw [HKS.out, List.length_append, List.length_singleton])
        generalize M[k]!.name = nm at *
        clear n1 n2
        generalize nmC M (ableK M r.toList k) = nk at *
        generalize (ableK M r.toList k).length = lk at *
        go_wp2_with fail
        refine CH.out.mono ?_
        rintro e w5 ⟨rfl, hb5⟩
        have HW5 := Lib.hid (HW.out.trans (hb5.mono HW.out.size))
        have HV5 := Lib.hid (own_below HV.out hb5)
        have hz5 := hb5.size
        rw [← hb5.cell (p := ⟨b, off + k * 3, none⟩) hb] at n0
        rw [← hb5.cell (p := ⟨rb, 0, none⟩) hl] at c0
        have hb' : b < w5.heap.size := by omega
        have hl' : rb < w5.heap.size := by omega
        have hzw := HW5.out.size
        clear hb5 HW HSr hl hb HV
        go_wp2_with (at_builtin; refine wpList_append_own_at _ rfl (.tmp 28) (.tmp 37) 43 rfl w.heap.size 9 ii _ 1 16 Try.underlying43 HII0.out HII1.out HII2.out HII3.out rfl (by omega) _ _ _ rfl (HV5.out.alloc _) ⟨w5.heap.size, 0, none⟩ 1 1 [.string nm] rfl rfl (fun j u hj => by rw [Addr.add_lit, Nat.zero_add]; exact cell_blk (heap_new _ _) (by simpa using hj)) (by intro u hu; simp at hu; subst hu; rfl) (by unfold maxLen; omega) (by omega) (by rw [World.size_alloc]; omega) ?_; intro v' w1 hown' hgrow _ _; obtain ⟨pa, pc, rfl⟩ := own_slice hown'; have HG := Lib.hid hgrow; have HO := Lib.hid hown'; clear hown' hgrow)
        have HWN := Lib.hid ((HW5.out.alloc hzw (.cells #[.string nm] 9)).grown HG.out (by rw [World.size_alloc]; omega) (fun q hq => (HV5.out.lt q hq).1))
        go_roundw
        case rel => exact ⟨k + 1, hlt, by go_num, by rw [HSN.out, HSL.out]; exact HO, HWN⟩
        case measure => simp [intOf]; omega
    · obtain rfl : k = M.length := by omega
      go_wp2_with fail
      go_ret
      exact ⟨_, rfl, HV.out, HW.out⟩
end Go.Proofs.Ytahhhhacoigpmaa.SF
