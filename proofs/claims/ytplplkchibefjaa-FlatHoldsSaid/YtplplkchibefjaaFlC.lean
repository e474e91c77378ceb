/-
  Contract of flat.membersByName.
-/
import Derived.Test.YtplplkchibefjaaFlB
namespace Go.Proofs.Ytplplkchibefjaa
open Go.RowKit Go.Shelf

abbrev nilS : Value := .slice none 0 0
/-- The box of a graph, and all that came in, stand as they did. -/
abbrev GB (w : World) (g : Gr) (W : World) : Prop := Below (w.heap.size + 1) (boxW w g) W
theorem gb_old {w W : World} {g : Gr} (h : GB w g W) : Below w.heap.size w W := (box_below w g).trans (h.mono (by omega))
theorem gb_more {w w1 w2 : World} {g : Gr} (h1 : GB w g w1) (h2 : Below w1.heap.size w1 w2) : GB w g w2 := h1.trans (h2.mono (by have := h1.size; rw [box_size] at this; exact this))
theorem gb_size {w W : World} {g : Gr} (h : GB w g W) : w.heap.size + 1 ≤ W.heap.size := by have := h.size; rw [box_size] at this; exact this
/-- What a name's key holds: its events' places. -/
def MemV (B : Nat) (g : Gr) (W : World) (l : Lit) (v : Value) : Prop := ∃ s A c, l = litS s ∧ v = .slice A (memL g s).length c ∧ W.ownsRow B 3 1 v (memL g s).length (intC (memL g s))
theorem MemV.below {B : Nat} {g : Gr} {W W' : World} {l : Lit} {v : Value} (h : MemV B g W l v) (hb : Below W.heap.size W W') : MemV B g W' l v := by
  obtain ⟨s, A, c, h1, h2, h3⟩ := h; exact ⟨s, A, c, h1, h2, own_below h3 hb⟩
theorem mapV_ne_own {w : World} {B e z n b m : Nat} {v zz : Value} {xs : List Value} {K : TypeId} {f : Lit → Option Value} (h : w.ownsRow B e z v n xs) (hm : MapV w Try.prog K zz b m f) : v.ownBlock = none ∨ v.ownBlock ≠ some b := by
  obtain ⟨D, ⟨es, clock, hh, _⟩, _⟩ := hm
  rcases h.2 with ⟨rfl, _⟩ | ⟨g, cap, cur, rfl, _, hg, _⟩
  · exact .inl rfl
  · right
    intro hb; cases hb; rw [hh] at hg; cases hg
/-- The map of names, as far as it is filled. -/
structure MB (w : World) (g : Gr) (names : List ByteArray) (n : Nat) (W : World) : Prop where
  b : GB w g W
  m : ∃ f, MapV W Try.prog 9 nilS (w.heap.size + 1) n f ∧ (∀ l v, f l = some v → MemV w.heap.size g W l v) ∧ ∀ s ∈ names, (f (litS s)).isSome = true
theorem MB.below {w : World} {g : Gr} {names : List ByteArray} {n : Nat} {W W' : World} (h : MB w g names n W) (hb : Below W.heap.size W W') : MB w g names n W' := by
  obtain ⟨f, h1, h2, h3⟩ := h.m
  exact ⟨gb_more h.b hb, f, h1.below (Nat.le_refl _) hb, fun l v hl => (h2 l v hl).below hb, h3⟩
theorem MB.start {w : World} {g : Gr} : MB w g [] 0 ((boxW w g).alloc (.map #[] 0)) := by
  refine ⟨(Below.refl _ _).alloc (by rw [box_size]; omega) _, fun _ => none, ?_, (fun l v h => by cases h), (fun s h => by cases h)⟩
  have := MapV.made (boxW w g) Try.prog 9 nilS
  rw [box_size] at this; exact this

set_option maxRecDepth 100000 in
set_option maxHeartbeats 4000000 in
theorem names_any (w : World) (g : Gr) (hI : InG w g) (hz : SzG g) (hcap : ∀ u ∈ g.us, u.roles.length ≤ u.rc) :
    Calls Try.prog 83 #[.agg #[.slice g.ga g.gs.length g.gc, .slice g.ea g.es.length g.ec, .slice g.ra g.rs.length g.rc, .slice g.ua g.us.length g.uc]] w fun e w' =>
      e = .returned (.map (some (w.heap.size + 1))) ∧ ∃ n, MB w g (g.rs.flatMap fun r => [r.src, r.dst]) n w' := by
  have HI := Lib.hid hI
  have HZ := Lib.hid hz
  have HC := Lib.hid hcap
  have z3 := hz.rs
  have hs0 := box_size w g
  have HS0 := Lib.hid hs0
  have hmm := @run_makeMap Try.prog
  have M0 := Lib.hid (MB.start (w := w) (g := g))
  obtain ⟨a0, a1, a2, a3⟩ := box_cells M0.out.b
  clear hI hz hcap hs0
  unfold boxW at a0 a1 a2 a3
  go_enter Try.func83, Try.ntmps83
  go_wp2_with fail
  clear hmm
  obtain ⟨ra, hra⟩ : ∃ ra, g.ra = ra := ⟨_, rfl⟩
  rw [hra]
  have HRA := Lib.hid hra
  clear hra a0 a1 a2 a3
  go_loopw [14] (fun i wr => ∃ k n : Nat, k ≤ g.rs.length ∧ n ≤ 2 * k ∧ i = .int .i64 k ∧ Hid (MB w g ((g.rs.take k).flatMap fun r => [r.src, r.dst]) n wr)) (fun i _ => g.rs.length - (intOf i).toNat)
  case atStart => exact ⟨0, 0, Nat.zero_le _, Nat.le_refl _, rfl, Lib.hid (by rw [← HRA.out]; exact M0.out)⟩
  case round =>
    clear M0
    obtain ⟨k, n, hk, hn, rfl, HM⟩ := hrel
    by_cases hlt : k < g.rs.length
    · obtain ⟨b, off, hA, hb, hc⟩ := HI.out.rs.at_ (k := 4) (fun _ => rfl) (by omega) hlt
      obtain rfl : ra = some ⟨b, off, none⟩ := HRA.out.symm.trans hA
      have k0 := hc 0 _ rfl
      rw [Nat.add_zero] at k0
      have k1 := hc 1 _ rfl
      have k2 := hc 2 _ rfl
      have k3 := hc 3 _ rfl
      rw [← (gb_old HM.out.b).cell (p := ⟨b, _, none⟩) hb] at k0 k1 k2 k3
      obtain ⟨hs1, hs2, _⟩ := HZ.out.rl _ (mem_at hlt)
      have hbw : b < wr.heap.size := by have := (gb_old HM.out.b).size; omega
      have hk0 : (0 : Int) ≤ (k : Int) := Int.natCast_nonneg _
      have hk1 : (k : Int) < (g.rs.length : Int) := by omega
      have HNS : Hid (((g.rs.take (k + 1)).flatMap fun r => [r.src, r.dst]) = ((g.rs.take k).flatMap fun r => [r.src, r.dst]) ++ [g.rs[k]!.src, g.rs[k]!.dst]) := Lib.hid (by
        rw [List.take_succ_eq_append_getElem hlt, List.flatMap_append, getElem!_pos g.rs k hlt]; simp)
      clear hc hA
      generalize g.rs[k]! = p at *
      obtain ⟨names, hnm⟩ : ∃ l, ((g.rs.take k).flatMap fun r => [r.src, r.dst]) = l := ⟨_, rfl⟩
      rw [hnm] at HM HNS
      clear hnm
      have hB1 : Below wr.heap.size wr ((wr.alloc (.cells #[.int .i64 p.kind, .string p.src, .string p.dst, .int .i64 p.time] 53)).alloc (.cells #[.string p.src, .string p.dst] 9)) := ((Below.refl _ _).alloc (Nat.le_refl _) _).alloc (by rw [World.size_alloc]; omega) _
      have HM1 : Hid (MB w g (names ++ [p.src, p.dst].take 0) n ((wr.alloc (.cells #[.int .i64 p.kind, .string p.src, .string p.dst, .int .i64 p.time] 53)).alloc (.cells #[.string p.src, .string p.dst] 9))) := Lib.hid (by rw [List.take_zero, List.append_nil]; exact HM.out.below hB1)
      have HQ1 : Hid (((wr.alloc (.cells #[.int .i64 p.kind, .string p.src, .string p.dst, .int .i64 p.time] 53)).alloc (.cells #[.string p.src, .string p.dst] 9)).heap[wr.heap.size + 1]? = some (.cells #[.string p.src, .string p.dst] 9 (0, 0))) := Lib.hid (by
        have := heap_new (wr.alloc (.cells #[.int .i64 p.kind, .string p.src, .string p.dst, .int .i64 p.time] 53)) (.cells #[.string p.src, .string p.dst] 9)
        rw [World.size_alloc] at this; exact this)
      have hwz := gb_size HM.out.b
      have HW1 : Hid (wr.heap.size + 1 < ((wr.alloc (.cells #[.int .i64 p.kind, .string p.src, .string p.dst, .int .i64 p.time] 53)).alloc (.cells #[.string p.src, .string p.dst] 9)).heap.size) := Lib.hid (by rw [World.size_alloc, World.size_alloc]; omega)
      clear hB1 HM
      go_wp2_with fail
      clear k0 k1 k2 k3
      obtain ⟨wo, hwo⟩ : ∃ wo : World, wo = wr := ⟨_, rfl⟩
      subst hwo
      go_loopw [24] (fun i wx => ∃ j m : Nat, j ≤ 2 ∧ m ≤ n + j ∧ i = .int .i64 j ∧ Hid (MB w g (names ++ [p.src, p.dst].take j) m wx) ∧ Hid (wx.heap[wo.heap.size + 1]? = some (.cells #[.string p.src, .string p.dst] 9 (0, 0)))) (fun i _ => 2 - (intOf i).toNat)
      case atStart => exact ⟨0, n, by omega, Nat.le_refl _, rfl, HM1, HQ1⟩
      case round =>
        clear HM1 HQ1 HW1
        obtain ⟨j, m, hj, hm, rfl, HM, HQ⟩ := hrel
        have hj0 : (0 : Int) ≤ (j : Int) := Int.natCast_nonneg _
        by_cases hjt : j < 2
        · have hj1 : (j : Int) < (2 : Int) := by omega
          have hql := (Array.getElem?_eq_some_iff.1 HQ.out).1
          have c0 : wr.cell? ⟨wo.heap.size + 1, j, none⟩ = some (.string [p.src, p.dst][j]!) := cell_blk HQ.out (by
            match j, hjt with
            | 0, _ => rfl
            | 1, _ => rfl)
          have hss : ([p.src, p.dst][j]!).size ≤ 140737488351232 := by
            match j, hjt with
            | 0, _ => exact hs1
            | 1, _ => exact hs2
          have HNJ : Hid (names ++ [p.src, p.dst].take (j + 1) = (names ++ [p.src, p.dst].take j) ++ [[p.src, p.dst][j]!]) := Lib.hid (by
            rw [List.take_succ_eq_append_getElem (show j < [p.src, p.dst].length from hjt), getElem!_pos _ j (show j < [p.src, p.dst].length from hjt), List.append_assoc])
          generalize [p.src, p.dst][j]! = s at *
          obtain ⟨f, hf, hv, hns⟩ := HM.out.m
          have HX := Lib.hid HM.out.b
          obtain ⟨a0, a1, a2, a3⟩ := box_cells HX.out
          have hlk := hf.look_ok lawS Try.underlying121 (Try.zeroValue54 wr) (keyS hss)
          cases hs : (f (litS s)).isSome with
          | true =>
            have HM' : Hid (MB w g (names ++ [p.src, p.dst].take (j + 1)) m wr) := Lib.hid (by
              rw [HNJ.out]
              exact ⟨HX.out, f, hf, hv, fun t ht => by
                rcases List.mem_append.1 ht with h | h
                · exact hns t h
                · rw [List.mem_singleton] at h; rw [h]; exact hs⟩)
            rw [hs] at hlk
            generalize (f (litS s)).getD nilS = v0 at *
            clear hf hv hns hs HM
            go_wp2_with fail
            go_roundw
            case rel => exact ⟨j + 1, m, hjt, by omega, by go_num, HM', HQ⟩
            case measure => simp [intOf]; omega
          | false =>
            rw [hs] at hlk
            generalize (f (litS s)).getD nilS = v0 at *
            have HF := Lib.hid hf
            have HV := Lib.hid hv
            have HN := Lib.hid hns
            have C := Lib.hid (members_any wr g s (HI.out.below (Nat.le_refl _) (gb_old HX.out)) HZ.out HC.out)
            rw [HRA.out] at a2 C
            clear hf hv hns hs HM
            go_wp2_with fail
            refine C.out.mono ?_
            rintro e w5 ⟨v5, rfl, ho5, hb5⟩
            have hf5 := HF.out.below (Nat.le_refl _) hb5
            obtain ⟨w6, hup, hf6, hg6⟩ := hf5.update lawS Try.underlying121 (by unfold maxLen; omega) (keyS hss) v5
            have hz5 := hb5.size
            have HM' : Hid (MB w g (names ++ [p.src, p.dst].take (j + 1)) (m + 1) w6) := Lib.hid (by
              rw [HNJ.out]
              have hne : ∀ (v : Value) {n : Nat} {xs : List Value}, w5.ownsRow w.heap.size 3 1 v n xs → w6.ownsRow w.heap.size 3 1 v n xs := fun v n xs h => h.kept hg6 (mapV_ne_own h hf5)
              refine ⟨(gb_more HX.out hb5).grown hg6 (gb_size (gb_more HX.out hb5)) (fun k e => by cases e; omega), _, hf6, fun l v hl => ?_, fun t ht => ?_⟩
              · by_cases e : l = litS s
                · rw [if_pos e] at hl
                  cases hl
                  obtain ⟨A5, c5, h5⟩ := own_slice ho5
                  exact ⟨s, A5, c5, e, h5, hne _ (own_base ho5 (by have := (gb_old HX.out).size; omega))⟩
                · rw [if_neg e] at hl
                  obtain ⟨s', A', c', e1, e2, e3⟩ := (HV.out l v hl).below hb5
                  exact ⟨s', A', c', e1, e2, hne _ e3⟩
              · by_cases e : litS t = litS s
                · simp only [e, if_true]; rfl
                · simp only [if_neg e]
                  rcases List.mem_append.1 ht with h | h
                  · exact HN.out t h
                  · rw [List.mem_singleton] at h; rw [h] at e; exact absurd rfl e)
            have HQ' : Hid (w6.heap[wo.heap.size + 1]? = some (.cells #[.string p.src, .string p.dst] 9 (0, 0))) := Lib.hid (by
              refine (hg6.block _ (by omega) ?_).trans ((hb5.block _ hql).trans HQ.out)
              intro e
              have h1 : wo.heap.size + 1 = w.heap.size + 1 := by injection e
              omega)
            clear hf5 hf6 hg6 ho5 HF HV HN C a0 a1 a2 a3
            go_wp2_with fail
            go_roundw
            case rel => exact ⟨j + 1, m + 1, hjt, by omega, by go_num, HM', HQ'⟩
            case measure => simp [intOf]; omega
        · obtain rfl : j = 2 := by omega
          go_wp2_with fail
          go_roundw
          case rel => exact ⟨k + 1, m, hlt, by omega, by go_num, Lib.hid (by rw [HNS.out]; exact HM.out)⟩
          case measure => simp [intOf]; omega
    · obtain rfl : k = g.rs.length := by omega
      go_wp2_with fail
      go_ret
      exact ⟨rfl, n, by have h := HM.out; rw [List.take_length] at h; exact h⟩
end Go.Proofs.Ytplplkchibefjaa
