/-
  Contract of the document's own look at a relation. (made by wip/tools/gen_rrel.py)
-/
import Derived.Test.YtahhhhacoigpmaaSccb
namespace Go.Proofs.Ytahhhhacoigpmaa
open Go.RowKit Go.Shelf
theorem kidx_le {α β : Type} [Inhabited α] [BEq β] [LawfulBEq β] (f : α → β) (b : β) : ∀ (l : List α) (k : Nat), k < l.length → f l[k]! = b → (l.map f).idxOf b ≤ k
  | [], _, h, _ => by simp at h
  | a :: r, 0, _, h => by
    have h' : f a = b := h
    rw [List.map_cons, h', List.idxOf_cons_self]; exact Nat.le_refl _
  | a :: r, k + 1, hk, h => by
    have ih := kidx_le f b r k (by simpa using hk) h
    rw [List.map_cons, List.idxOf_cons]
    cases (f a == b) with
    | true => exact Nat.zero_le _
    | false => exact Nat.succ_le_succ ih
theorem le_kidx {α β : Type} [Inhabited α] [BEq β] [LawfulBEq β] (f : α → β) (b : β) : ∀ (l : List α) (n : Nat), n ≤ l.length → (∀ j, j < n → f l[j]! ≠ b) → n ≤ (l.map f).idxOf b
  | _, 0, _, _ => Nat.zero_le _
  | [], n + 1, h, _ => by simp at h
  | a :: r, n + 1, hn, h => by
    have ih := le_kidx f b r n (by simpa using hn) (fun j hj => h (j + 1) (by omega))
    have h' : f a ≠ b := h 0 (by omega)
    rw [List.map_cons, List.idxOf_cons, beq_eq_false_iff_ne.2 h']
    exact Nat.succ_le_succ ih
theorem rk_hit {g : Gr} {r : Rl} {k n : Nat} (hk : k < n) (hl : k < g.rs.length) (h : rkey g.rs[k]! = rkey r) : aheadB (rks g) (rkey r) n = true := by
  have := kidx_le rkey (rkey r) g.rs k hl h
  unfold aheadB rks; rw [decide_eq_true_eq]; omega
theorem rk_miss {g : Gr} {r : Rl} {n : Nat} (hn : n ≤ g.rs.length) (h : ∀ j, j < n → rkey g.rs[j]! ≠ rkey r) : aheadB (rks g) (rkey r) n = false := by
  have := le_kidx rkey (rkey r) g.rs n hn h
  unfold aheadB rks; rw [decide_eq_false_iff_not]; omega
theorem rk_more {g : Gr} {r : Rl} {k : Nat} (h : ∀ j, j < k → rkey g.rs[j]! ≠ rkey r) (hk : rkey g.rs[k]! ≠ rkey r) : ∀ j, j < k + 1 → rkey g.rs[j]! ≠ rkey r := by
  intro j hj
  rcases Nat.lt_or_ge j k with h1 | h1
  · exact h j h1
  · obtain rfl : j = k := by omega
    exact hk
theorem rk_eq {a b : Rl} (h1 : (a.kind == b.kind) = true) (h2 : (a.src.toList == b.src.toList) = true) (h3 : (a.dst.toList == b.dst.toList) = true) : rkey a = rkey b := by
  unfold rkey; rw [eq_of_beq h1, eq_of_beq h2, eq_of_beq h3]
theorem rk_ne1 {a b : Rl} (h : (a.kind == b.kind) = false) : rkey a ≠ rkey b := fun e => by
  unfold rkey at e; rw [(Prod.mk.inj e).1, beq_self_eq_true] at h; cases h
theorem rk_ne2 {a b : Rl} (h : (a.src.toList == b.src.toList) = false) : rkey a ≠ rkey b := fun e => by
  unfold rkey at e; rw [(Prod.mk.inj (Prod.mk.inj e).2).1, beq_self_eq_true] at h; cases h
theorem rk_ne3 {a b : Rl} (h : (a.dst.toList == b.dst.toList) = false) : rkey a ≠ rkey b := fun e => by
  unfold rkey at e; rw [(Prod.mk.inj (Prod.mk.inj e).2).2, beq_self_eq_true] at h; cases h
set_option maxRecDepth 100000 in
set_option maxHeartbeats 4000000 in
theorem rrel_any (w : World) (g : Gr) (i : Nat) (hI : InG w g) (hz : SzG g) (hi : i < g.rs.length) :
    Calls Try.prog 46 #[.agg #[.slice g.ga g.gs.length g.gc, .slice g.ea g.es.length g.ec, .slice g.ra g.rs.length g.rc, .slice g.ua g.us.length g.uc], .int .i64 i] w fun e w' => e = .returned (.int .i64 (relE g i)) ∧ Below w.heap.size w w' := by
  obtain ⟨b, off, hA, hb, hc⟩ := hI.rs.at_ (k := 4) (fun _ => rfl) (by omega) hi
  have k0 := hc 0 _ rfl
  rw [Nat.add_zero] at k0
  have k1 := hc 1 _ rfl
  have k2 := hc 2 _ rfl
  have k3 := hc 3 _ rfl
  have HI := Lib.hid hI
  clear hc
  have z3 := hz.rs
  rw [← (box_below w g).cell (p := ⟨b, _, none⟩) hb] at k0 k1 k2 k3
  have i0 : (0 : Int) ≤ (i : Int) := Int.natCast_nonneg _
  have i1 : (i : Int) < (g.rs.length : Int) := by omega
  have HE : Hid (relE g i = if g.rs[i]!.kind < 1 then 1 else if 5 < g.rs[i]!.kind then 1
    else if thereB g g.rs[i]!.src.toList && thereB g g.rs[i]!.dst.toList then
      if g.rs[i]!.time < 0 then 3 else if longL g.rs[i]!.kind < g.rs[i]!.time then 3
      else if aheadB (rks g) (rkey g.rs[i]!) i then 6 else 0
    else 10) := Lib.hid rfl
  have C1 := fun W hW => Lib.hid (rthere_any W g g.rs[i]!.src hW hz)
  have C2 := fun W hW => Lib.hid (rthere_any W g g.rs[i]!.dst hW hz)
  clear hz
  generalize g.rs[i]! = p at *
  have hbx : Below w.heap.size w ((boxW w g).alloc (.cells #[.int .i64 p.kind, .string p.src, .string p.dst, .int .i64 p.time] 60)) := (box_below w g).alloc (by rw [box_size]; omega) _
  replace C1 := C1 _ (hI.below (Nat.le_refl _) hbx)
  clear hI
  unfold boxW at k0 k1 k2 k3 hbx C1
  rw [hA] at k0 k1 k2 k3 hbx C1 ⊢
  have HA := Lib.hid hA
  clear hA
  go_enter Try.func46, Try.ntmps46
  by_cases d1 : p.kind < 1
  · rw [if_pos d1] at HE
    go_wp2_with fail
    go_ret
    exact ⟨ret_i64 (by rw [HE.out]; rfl), hbx⟩
  rw [if_neg d1] at HE
  by_cases d2 : 5 < p.kind
  · rw [if_pos d2] at HE
    go_wp2_with fail
    go_ret
    exact ⟨ret_i64 (by rw [HE.out]; rfl), hbx⟩
  rw [if_neg d2] at HE
  clear hbx
  go_wp2_with fail
  refine (C1).out.mono ?_
  rintro e w1 ⟨rfl, hb⟩
  rw [← HA.out] at hb
  rw [show ((w.alloc _).alloc _).heap.size = w.heap.size + 2 from rbox_size w g _] at hb
  have hB1 : Below (w.heap.size + 2) ((boxW w g).alloc _) w1 := hb
  clear hb k0 k1 k2 k3
  cases h1 : thereB g p.src.toList with
  | false =>
    rw [h1] at HE
    clear h1
    obtain ⟨⟨a0, a1, a2, a3⟩, hx⟩ := rbox hB1
    have x0 : w1.cell? ⟨w.heap.size + 1, 0, none⟩ = some (.int .i64 p.kind) := hx 0 _ rfl
    have x1 : w1.cell? ⟨w.heap.size + 1, 1, none⟩ = some (.string p.src) := hx 1 _ rfl
    have x2 : w1.cell? ⟨w.heap.size + 1, 2, none⟩ = some (.string p.dst) := hx 2 _ rfl
    have x3 : w1.cell? ⟨w.heap.size + 1, 3, none⟩ = some (.int .i64 p.time) := hx 3 _ rfl
    clear hx
    go_wp2_with fail
    go_ret
    exact ⟨ret_i64 (by rw [HE.out]; rfl), rbox_old hB1⟩
  | true =>
    rw [h1] at HE
    clear h1
    obtain ⟨⟨a0, a1, a2, a3⟩, hx⟩ := rbox hB1
    have x0 : w1.cell? ⟨w.heap.size + 1, 0, none⟩ = some (.int .i64 p.kind) := hx 0 _ rfl
    have x1 : w1.cell? ⟨w.heap.size + 1, 1, none⟩ = some (.string p.src) := hx 1 _ rfl
    have x2 : w1.cell? ⟨w.heap.size + 1, 2, none⟩ = some (.string p.dst) := hx 2 _ rfl
    have x3 : w1.cell? ⟨w.heap.size + 1, 3, none⟩ = some (.int .i64 p.time) := hx 3 _ rfl
    clear hx
    go_wp2_with fail
    refine (C2 _ (HI.out.below (Nat.le_refl _) (rbox_old hB1))).out.mono ?_
    rintro e w2 ⟨rfl, hb⟩
    have hB2 := rbox_more hB1 hb
    clear hb hB1 a0 a1 a2 a3 x0 x1 x2 x3
    cases h2 : thereB g p.dst.toList with
    | false =>
      rw [h2] at HE
      clear h2
      obtain ⟨⟨a0, a1, a2, a3⟩, hx⟩ := rbox hB2
      have x0 : w2.cell? ⟨w.heap.size + 1, 0, none⟩ = some (.int .i64 p.kind) := hx 0 _ rfl
      have x1 : w2.cell? ⟨w.heap.size + 1, 1, none⟩ = some (.string p.src) := hx 1 _ rfl
      have x2 : w2.cell? ⟨w.heap.size + 1, 2, none⟩ = some (.string p.dst) := hx 2 _ rfl
      have x3 : w2.cell? ⟨w.heap.size + 1, 3, none⟩ = some (.int .i64 p.time) := hx 3 _ rfl
      clear hx
      go_wp2_with fail
      go_ret
      exact ⟨ret_i64 (by rw [HE.out]; rfl), rbox_old hB2⟩
    | true =>
      rw [h2] at HE
      clear h2
      obtain ⟨⟨a0, a1, a2, a3⟩, hx⟩ := rbox hB2
      have x0 : w2.cell? ⟨w.heap.size + 1, 0, none⟩ = some (.int .i64 p.kind) := hx 0 _ rfl
      have x1 : w2.cell? ⟨w.heap.size + 1, 1, none⟩ = some (.string p.src) := hx 1 _ rfl
      have x2 : w2.cell? ⟨w.heap.size + 1, 2, none⟩ = some (.string p.dst) := hx 2 _ rfl
      have x3 : w2.cell? ⟨w.heap.size + 1, 3, none⟩ = some (.int .i64 p.time) := hx 3 _ rfl
      clear hx
      rw [if_pos (show (true && true) = true from rfl)] at HE
      obtain ⟨top, htop⟩ : ∃ top, top = longL p.kind := ⟨_, rfl⟩
      rw [← htop] at HE
      unfold longL at htop
      by_cases e1 : p.kind = 1
      · rw [if_pos e1] at htop
        have f1 : (p.kind == 1) = true := beq_iff_eq.2 e1
        have f2 : (p.kind == 2) = false := beq_eq_false_iff_ne.2 (by omega)
        clear e1
        by_cases t1 : p.time < 0
        · rw [if_pos t1] at HE
          go_wp2_with fail
          go_ret
          exact ⟨ret_i64 (by rw [HE.out]; rfl), rbox_old hB2⟩
        rw [if_neg t1] at HE
        by_cases t2 : top < p.time
        · rw [if_pos t2] at HE
          subst htop
          go_wp2_with fail
          go_ret
          exact ⟨ret_i64 (by rw [HE.out]; rfl), rbox_old hB2⟩
        rw [if_neg t2] at HE
        subst htop
        go_wp2_with fail
        clear a0 a1 a2 a3 x0 x1 x2 x3
        go_loopw [7] (fun j wr => ∃ k : Nat, k ≤ i ∧ j = .int .i64 k ∧ Hid (∀ j, j < k → rkey g.rs[j]! ≠ rkey p) ∧ Below (w.heap.size + 2) ((boxW w g).alloc (.cells #[.int .i64 p.kind, .string p.src, .string p.dst, .int .i64 p.time] 60)) wr) (fun j _ => i - (intOf j).toNat)
        case atStart => exact ⟨0, Nat.zero_le _, rfl, Lib.hid (fun j hj => absurd hj (Nat.not_lt_zero _)), hB2⟩
        case round =>
          clear hB2
          obtain ⟨k, hk, rfl, HR, hB3⟩ := hrel
          obtain ⟨⟨a0, a1, a2, a3⟩, hx⟩ := rbox hB3
          have x0 : wr.cell? ⟨w.heap.size + 1, 0, none⟩ = some (.int .i64 p.kind) := hx 0 _ rfl
          have x1 : wr.cell? ⟨w.heap.size + 1, 1, none⟩ = some (.string p.src) := hx 1 _ rfl
          have x2 : wr.cell? ⟨w.heap.size + 1, 2, none⟩ = some (.string p.dst) := hx 2 _ rfl
          have x3 : wr.cell? ⟨w.heap.size + 1, 3, none⟩ = some (.int .i64 p.time) := hx 3 _ rfl
          clear hx
          have hs1 : w.heap.size + 2 ≤ wr.heap.size := by have := hB3.size; rw [World.size_alloc, box_size] at this; exact this
          have hs2 : w.heap.size < wr.heap.size := by omega
          have hs3 : w.heap.size + 1 < wr.heap.size := by omega
          by_cases hlt : k < i
          · have hll : k < g.rs.length := by omega
            obtain ⟨b, off, hA, hb, hc⟩ := HI.out.rs.at_ (k := 4) (fun _ => rfl) (by omega) hll
            have k0 := hc 0 _ rfl
            have k1 := hc 1 _ rfl
            have k2 := hc 2 _ rfl
            have k3 := hc 3 _ rfl
            rw [Nat.add_zero] at k0
            rw [← (rbox_old hB3).cell (p := ⟨b, _, none⟩) hb] at k0 k1 k2 k3
            rw [hA] at a2
            clear hA hc
            have j0 : (0 : Int) ≤ (k : Int) := Int.natCast_nonneg _
            have j1 : (k : Int) < (g.rs.length : Int) := by omega
            have j2 : (k : Int) < (i : Int) := by omega
            have hbz : b < wr.heap.size := by omega
            have hB4 : ∀ o, Below (w.heap.size + 2) ((boxW w g).alloc (.cells #[.int .i64 p.kind, .string p.src, .string p.dst, .int .i64 p.time] 60)) (wr.alloc o) := fun o => hB3.alloc hs1 o
            cases c1 : (g.rs[k]!.kind == p.kind) with
            | false =>
              have HR' := Lib.hid (rk_more HR.out (rk_ne1 c1))
              clear HR
              generalize g.rs[k]! = q at *
              go_wp2_with fail
              go_roundw
              case rel => exact ⟨k + 1, hlt, by go_num, HR', hB4 _⟩
              case measure => simp [intOf]; omega
            | true =>
              cases c2 : (g.rs[k]!.src.toList == p.src.toList) with
              | false =>
                have HR' := Lib.hid (rk_more HR.out (rk_ne2 c2))
                clear HR
                generalize g.rs[k]! = q at *
                go_wp2_with fail
                go_roundw
                case rel => exact ⟨k + 1, hlt, by go_num, HR', hB4 _⟩
                case measure => simp [intOf]; omega
              | true =>
                cases c3 : (g.rs[k]!.dst.toList == p.dst.toList) with
                | false =>
                  have HR' := Lib.hid (rk_more HR.out (rk_ne3 c3))
                  clear HR
                  generalize g.rs[k]! = q at *
                  go_wp2_with fail
                  go_roundw
                  case rel => exact ⟨k + 1, hlt, by go_num, HR', hB4 _⟩
                  case measure => simp [intOf]; omega
                | true =>
                  rw [rk_hit hlt hll (rk_eq c1 c2 c3)] at HE
                  clear HR
                  generalize g.rs[k]! = q at *
                  go_wp2_with fail
                  go_ret
                  exact ⟨ret_i64 (by rw [HE.out]; rfl), rbox_old (hB4 _)⟩
          · obtain rfl : k = i := by omega
            rw [rk_miss (Nat.le_of_lt hi) HR.out] at HE
            have j2 : ¬ (k : Int) < (k : Int) := by omega
            clear HR
            go_wp2_with fail
            go_ret
            exact ⟨ret_i64 (by rw [HE.out]; rfl), rbox_old hB3⟩
      · rw [if_neg e1] at htop
        have f1 : (p.kind == 1) = false := beq_eq_false_iff_ne.2 e1
        by_cases e2 : p.kind = 2
        · rw [if_pos e2] at htop
          have f2 : (p.kind == 2) = true := beq_iff_eq.2 e2
          clear e1 e2
          by_cases t1 : p.time < 0
          · rw [if_pos t1] at HE
            go_wp2_with fail
            go_ret
            exact ⟨ret_i64 (by rw [HE.out]; rfl), rbox_old hB2⟩
          rw [if_neg t1] at HE
          by_cases t2 : top < p.time
          · rw [if_pos t2] at HE
            subst htop
            go_wp2_with fail
            go_ret
            exact ⟨ret_i64 (by rw [HE.out]; rfl), rbox_old hB2⟩
          rw [if_neg t2] at HE
          subst htop
          go_wp2_with fail
          clear a0 a1 a2 a3 x0 x1 x2 x3
          go_loopw [7] (fun j wr => ∃ k : Nat, k ≤ i ∧ j = .int .i64 k ∧ Hid (∀ j, j < k → rkey g.rs[j]! ≠ rkey p) ∧ Below (w.heap.size + 2) ((boxW w g).alloc (.cells #[.int .i64 p.kind, .string p.src, .string p.dst, .int .i64 p.time] 60)) wr) (fun j _ => i - (intOf j).toNat)
          case atStart => exact ⟨0, Nat.zero_le _, rfl, Lib.hid (fun j hj => absurd hj (Nat.not_lt_zero _)), hB2⟩
          case round =>
            clear hB2
            obtain ⟨k, hk, rfl, HR, hB3⟩ := hrel
            obtain ⟨⟨a0, a1, a2, a3⟩, hx⟩ := rbox hB3
            have x0 : wr.cell? ⟨w.heap.size + 1, 0, none⟩ = some (.int .i64 p.kind) := hx 0 _ rfl
            have x1 : wr.cell? ⟨w.heap.size + 1, 1, none⟩ = some (.string p.src) := hx 1 _ rfl
            have x2 : wr.cell? ⟨w.heap.size + 1, 2, none⟩ = some (.string p.dst) := hx 2 _ rfl
            have x3 : wr.cell? ⟨w.heap.size + 1, 3, none⟩ = some (.int .i64 p.time) := hx 3 _ rfl
            clear hx
            have hs1 : w.heap.size + 2 ≤ wr.heap.size := by have := hB3.size; rw [World.size_alloc, box_size] at this; exact this
            have hs2 : w.heap.size < wr.heap.size := by omega
            have hs3 : w.heap.size + 1 < wr.heap.size := by omega
            by_cases hlt : k < i
            · have hll : k < g.rs.length := by omega
              obtain ⟨b, off, hA, hb, hc⟩ := HI.out.rs.at_ (k := 4) (fun _ => rfl) (by omega) hll
              have k0 := hc 0 _ rfl
              have k1 := hc 1 _ rfl
              have k2 := hc 2 _ rfl
              have k3 := hc 3 _ rfl
              rw [Nat.add_zero] at k0
              rw [← (rbox_old hB3).cell (p := ⟨b, _, none⟩) hb] at k0 k1 k2 k3
              rw [hA] at a2
              clear hA hc
              have j0 : (0 : Int) ≤ (k : Int) := Int.natCast_nonneg _
              have j1 : (k : Int) < (g.rs.length : Int) := by omega
              have j2 : (k : Int) < (i : Int) := by omega
              have hbz : b < wr.heap.size := by omega
              have hB4 : ∀ o, Below (w.heap.size + 2) ((boxW w g).alloc (.cells #[.int .i64 p.kind, .string p.src, .string p.dst, .int .i64 p.time] 60)) (wr.alloc o) := fun o => hB3.alloc hs1 o
              cases c1 : (g.rs[k]!.kind == p.kind) with
              | false =>
                have HR' := Lib.hid (rk_more HR.out (rk_ne1 c1))
                clear HR
                generalize g.rs[k]! = q at *
                go_wp2_with fail
                go_roundw
                case rel => exact ⟨k + 1, hlt, by go_num, HR', hB4 _⟩
                case measure => simp [intOf]; omega
              | true =>
                cases c2 : (g.rs[k]!.src.toList == p.src.toList) with
                | false =>
                  have HR' := Lib.hid (rk_more HR.out (rk_ne2 c2))
                  clear HR
                  generalize g.rs[k]! = q at *
                  go_wp2_with fail
                  go_roundw
                  case rel => exact ⟨k + 1, hlt, by go_num, HR', hB4 _⟩
                  case measure => simp [intOf]; omega
                | true =>
                  cases c3 : (g.rs[k]!.dst.toList == p.dst.toList) with
                  | false =>
                    have HR' := Lib.hid (rk_more HR.out (rk_ne3 c3))
                    clear HR
                    generalize g.rs[k]! = q at *
                    go_wp2_with fail
                    go_roundw
                    case rel => exact ⟨k + 1, hlt, by go_num, HR', hB4 _⟩
                    case measure => simp [intOf]; omega
                  | true =>
                    rw [rk_hit hlt hll (rk_eq c1 c2 c3)] at HE
                    clear HR
                    generalize g.rs[k]! = q at *
                    go_wp2_with fail
                    go_ret
                    exact ⟨ret_i64 (by rw [HE.out]; rfl), rbox_old (hB4 _)⟩
            · obtain rfl : k = i := by omega
              rw [rk_miss (Nat.le_of_lt hi) HR.out] at HE
              have j2 : ¬ (k : Int) < (k : Int) := by omega
              clear HR
              go_wp2_with fail
              go_ret
              exact ⟨ret_i64 (by rw [HE.out]; rfl), rbox_old hB3⟩
        · rw [if_neg e2] at htop
          have f2 : (p.kind == 2) = false := beq_eq_false_iff_ne.2 e2
          clear e1 e2
          by_cases t1 : p.time < 0
          · rw [if_pos t1] at HE
            go_wp2_with fail
            go_ret
            exact ⟨ret_i64 (by rw [HE.out]; rfl), rbox_old hB2⟩
          rw [if_neg t1] at HE
          by_cases t2 : top < p.time
          · rw [if_pos t2] at HE
            subst htop
            go_wp2_with fail
            go_ret
            exact ⟨ret_i64 (by rw [HE.out]; rfl), rbox_old hB2⟩
          rw [if_neg t2] at HE
          subst htop
          go_wp2_with fail
          clear a0 a1 a2 a3 x0 x1 x2 x3
          go_loopw [7] (fun j wr => ∃ k : Nat, k ≤ i ∧ j = .int .i64 k ∧ Hid (∀ j, j < k → rkey g.rs[j]! ≠ rkey p) ∧ Below (w.heap.size + 2) ((boxW w g).alloc (.cells #[.int .i64 p.kind, .string p.src, .string p.dst, .int .i64 p.time] 60)) wr) (fun j _ => i - (intOf j).toNat)
          case atStart => exact ⟨0, Nat.zero_le _, rfl, Lib.hid (fun j hj => absurd hj (Nat.not_lt_zero _)), hB2⟩
          case round =>
            clear hB2
            obtain ⟨k, hk, rfl, HR, hB3⟩ := hrel
            obtain ⟨⟨a0, a1, a2, a3⟩, hx⟩ := rbox hB3
            have x0 : wr.cell? ⟨w.heap.size + 1, 0, none⟩ = some (.int .i64 p.kind) := hx 0 _ rfl
            have x1 : wr.cell? ⟨w.heap.size + 1, 1, none⟩ = some (.string p.src) := hx 1 _ rfl
            have x2 : wr.cell? ⟨w.heap.size + 1, 2, none⟩ = some (.string p.dst) := hx 2 _ rfl
            have x3 : wr.cell? ⟨w.heap.size + 1, 3, none⟩ = some (.int .i64 p.time) := hx 3 _ rfl
            clear hx
            have hs1 : w.heap.size + 2 ≤ wr.heap.size := by have := hB3.size; rw [World.size_alloc, box_size] at this; exact this
            have hs2 : w.heap.size < wr.heap.size := by omega
            have hs3 : w.heap.size + 1 < wr.heap.size := by omega
            by_cases hlt : k < i
            · have hll : k < g.rs.length := by omega
              obtain ⟨b, off, hA, hb, hc⟩ := HI.out.rs.at_ (k := 4) (fun _ => rfl) (by omega) hll
              have k0 := hc 0 _ rfl
              have k1 := hc 1 _ rfl
              have k2 := hc 2 _ rfl
              have k3 := hc 3 _ rfl
              rw [Nat.add_zero] at k0
              rw [← (rbox_old hB3).cell (p := ⟨b, _, none⟩) hb] at k0 k1 k2 k3
              rw [hA] at a2
              clear hA hc
              have j0 : (0 : Int) ≤ (k : Int) := Int.natCast_nonneg _
              have j1 : (k : Int) < (g.rs.length : Int) := by omega
              have j2 : (k : Int) < (i : Int) := by omega
              have hbz : b < wr.heap.size := by omega
              have hB4 : ∀ o, Below (w.heap.size + 2) ((boxW w g).alloc (.cells #[.int .i64 p.kind, .string p.src, .string p.dst, .int .i64 p.time] 60)) (wr.alloc o) := fun o => hB3.alloc hs1 o
              cases c1 : (g.rs[k]!.kind == p.kind) with
              | false =>
                have HR' := Lib.hid (rk_more HR.out (rk_ne1 c1))
                clear HR
                generalize g.rs[k]! = q at *
                go_wp2_with fail
                go_roundw
                case rel => exact ⟨k + 1, hlt, by go_num, HR', hB4 _⟩
                case measure => simp [intOf]; omega
              | true =>
                cases c2 : (g.rs[k]!.src.toList == p.src.toList) with
                | false =>
                  have HR' := Lib.hid (rk_more HR.out (rk_ne2 c2))
                  clear HR
                  generalize g.rs[k]! = q at *
                  go_wp2_with fail
                  go_roundw
                  case rel => exact ⟨k + 1, hlt, by go_num, HR', hB4 _⟩
                  case measure => simp [intOf]; omega
                | true =>
                  cases c3 : (g.rs[k]!.dst.toList == p.dst.toList) with
                  | false =>
                    have HR' := Lib.hid (rk_more HR.out (rk_ne3 c3))
                    clear HR
                    generalize g.rs[k]! = q at *
                    go_wp2_with fail
                    go_roundw
                    case rel => exact ⟨k + 1, hlt, by go_num, HR', hB4 _⟩
                    case measure => simp [intOf]; omega
                  | true =>
                    rw [rk_hit hlt hll (rk_eq c1 c2 c3)] at HE
                    clear HR
                    generalize g.rs[k]! = q at *
                    go_wp2_with fail
                    go_ret
                    exact ⟨ret_i64 (by rw [HE.out]; rfl), rbox_old (hB4 _)⟩
            · obtain rfl : k = i := by omega
              rw [rk_miss (Nat.le_of_lt hi) HR.out] at HE
              have j2 : ¬ (k : Int) < (k : Int) := by omega
              clear HR
              go_wp2_with fail
              go_ret
              exact ⟨ret_i64 (by rw [HE.out]; rfl), rbox_old hB3⟩
end Go.Proofs.Ytahhhhacoigpmaa
