/-
  Contracts of package heap: Pop, Remove.
-/
import Derived.Test.YtcipgjelbnmdiaaHpN
namespace Go.Proofs.Ytcipgjelbnmdiaa.HP
open Go.RowKit Go.Shelf Go.Proofs.Ytcipgjelbnmdiaa.B Go.ChangeMaps
attribute [local go_sem] Oper.semAt_some

/-- What Pop leaves. -/
def PopR (L L' : List It) : Prop := (L = [] → L' = []) ∧ (0 < L.length → (L[0]! :: L').Perm L)
/-- What Remove leaves. -/
def RemR (L : List It) (i : Int) (L' : List It) : Prop := (hasB L i = true → (getI L i :: L').Perm L) ∧ (hasB L i = false → L' = L)
set_option maxRecDepth 100000 in
set_option maxHeartbeats 4000000 in
theorem pop_any (F : FW) (w : World) (hb : Nat) (A : HA) (s : Int) (L : List It) (h : HW F w hb A s L) (hO : HO s L) :
    Calls Try.prog 14 #[pt hb] w fun e w' => e = .returned (.tuple #[itV L[0]!, .bool (decide (0 < L.length))]) ∧ ∃ L', PopR L L' ∧ HO s L' ∧ HW F w' hb A s L' := by
  have hH := Lib.hid h
  have hO' := Lib.hid hO
  have hbl := h.h.lt
  obtain ⟨W1, hW1⟩ : ∃ W1, W1 = w.alloc (.cells #[.int .i64 0, .int .i64 0, .int .i64 0] 32) := ⟨_, rfl⟩
  have hB1 : Below w.heap.size w W1 := (by rw [hW1]; exact (Below.refl _ _).alloc (Nat.le_refl _) _)
  have HB1 := Lib.hid hB1
  have HZ1 : Hid (W1.heap.size = w.heap.size + 1) := Lib.hid (by rw [hW1, World.size_alloc])
  have H2 : Hid (W1.heap[w.heap.size]? = some (.cells #[.int .i64 0, .int .i64 0, .int .i64 0] 32 (0, 0))) := Lib.hid (by rw [hW1]; exact heap_new w _)
  have CP := Lib.hid (peek_any W1 hb A s L (h.call hB1).h)
  obtain ⟨x, hx⟩ : ∃ x, x = L[0]! := ⟨_, rfl⟩
  rw [← hx] at CP ⊢
  have HX := Lib.hid hx
  clear hx h hO hB1
  obtain ⟨xi, xb, xs⟩ := x
  by_cases hl : 0 < L.length
  · have hd : decide (0 < L.length) = true := decide_eq_true hl
    have hne : ¬ L = [] := (by intro e; rw [e] at hl; exact absurd hl (by simp))
    rw [hd] at CP ⊢
    obtain ⟨n, hn⟩ : ∃ n, L.length = n + 1 := ⟨L.length - 1, by omega⟩
    have HN := Lib.hid hn
    clear hd hne hl hn
    go_enter Try.func14, Try.ntmps14
    go_upto_region 1 with fail
    rw [← hW1]
    clear hW1
    go_wp2_with fail
    refine CP.out.mono ?_
    rintro e W2 ⟨rfl, hb2⟩
    obtain ⟨W3, hW3⟩ : ∃ W3, W3 = W2.alloc (.cells #[.int .i64 xi, .int .i64 xb, .int .i64 xs] 32) := ⟨_, rfl⟩
    have hb3 : Below w.heap.size w W3 := (by rw [hW3]; exact (HB1.out.trans (hb2.mono HB1.out.size)).alloc (Nat.le_trans HB1.out.size hb2.size) _)
    have h32 : W3.heap[w.heap.size]? = some (.cells #[.int .i64 0, .int .i64 0, .int .i64 0] 32 (0, 0)) := (by rw [hW3]; exact (Below.heap_alloc _ _ _ (by have := hb2.size; have := HZ1.out; omega)).trans ((hb2.block _ (by have := HZ1.out; omega)).trans H2.out))
    have h34 : W3.heap[W2.heap.size]? = some (.cells #[.int .i64 xi, .int .i64 xb, .int .i64 xs] 32 (0, 0)) := (by rw [hW3]; exact heap_new W2 _)
    have HZ3 : Hid (W3.heap.size = W2.heap.size + 1) := Lib.hid (by rw [hW3, World.size_alloc])
    have HZ2 : Hid (w.heap.size + 1 ≤ W2.heap.size) := Lib.hid (by have := hb2.size; have := HZ1.out; omega)
    have HB3 := Lib.hid hb3
    have H32 := Lib.hid h32
    have H34 := Lib.hid h34
    have CT := Lib.hid (take_any (F.inn w W3) W3 hb A s L (hH.out.inner hb3) hO'.out n HN.out 0 (by omega))
    rw [← HX.out] at CT
    clear hb2 hb3 h32 h34
    go_upto_region 3 with fail
    rw [← hW3]
    clear hW3
    go_wp2_with fail
    refine CT.out.mono ?_
    rintro e W4 ⟨rfl, L4, hpm, hO4, hH4⟩
    have HPM := Lib.hid hpm
    have HO4 := Lib.hid hO4
    have HH4 := Lib.hid (hH.out.outer HB3.out hH4)
    have h42 : W4.heap[w.heap.size]? = some (.cells #[.int .i64 0, .int .i64 0, .int .i64 0] 32 (0, 0)) := (hH4.b.mid (Nat.le_refl _) (by have := HZ2.out; have := HZ3.out; omega)).trans H32.out
    have h44 : W4.heap[W2.heap.size]? = some (.cells #[.int .i64 xi, .int .i64 xb, .int .i64 xs] 32 (0, 0)) := (hH4.b.mid (by have := HZ2.out; omega) (by have := HZ3.out; omega)).trans H34.out
    have hl2 := blk_lt h42
    have hl4 := blk_lt h44
    have y0 : W4.cell? ⟨w.heap.size, 0, none⟩ = some (.int .i64 0) := cell_blk (i := 0) h42 rfl
    have y1 : W4.cell? ⟨w.heap.size, 1, none⟩ = some (.int .i64 0) := cell_blk (i := 1) h42 rfl
    have y2 : W4.cell? ⟨w.heap.size, 2, none⟩ = some (.int .i64 0) := cell_blk (i := 2) h42 rfl
    have e0 : W4.cell? ⟨W2.heap.size, 0, none⟩ = some (.int .i64 xi) := cell_blk (i := 0) h44 rfl
    have e1 : W4.cell? ⟨W2.heap.size, 1, none⟩ = some (.int .i64 xb) := cell_blk (i := 1) h44 rfl
    have e2 : W4.cell? ⟨W2.heap.size, 2, none⟩ = some (.int .i64 xs) := cell_blk (i := 2) h44 rfl
    have f0 := frozen_blk (i := 0) h42
    have f1 := frozen_blk (i := 1) h42
    have f2 := frozen_blk (i := 2) h42
    have z : (((W4.setCell ⟨w.heap.size, 0, none⟩ (.int .i64 xi)).setCell ⟨w.heap.size, 1, none⟩ (.int .i64 xb)).setCell ⟨w.heap.size, 2, none⟩ (.int .i64 xs)).heap[w.heap.size]? = some (.cells #[.int .i64 xi, .int .i64 xb, .int .i64 xs] 32 (0, 0)) := put3_blk (x := ⟨xi, xb, xs⟩) h42
    have z0 : (((W4.setCell ⟨w.heap.size, 0, none⟩ (.int .i64 xi)).setCell ⟨w.heap.size, 1, none⟩ (.int .i64 xb)).setCell ⟨w.heap.size, 2, none⟩ (.int .i64 xs)).cell? ⟨w.heap.size, 0, none⟩ = some (.int .i64 xi) := cell_blk (i := 0) z rfl
    have z1 : (((W4.setCell ⟨w.heap.size, 0, none⟩ (.int .i64 xi)).setCell ⟨w.heap.size, 1, none⟩ (.int .i64 xb)).setCell ⟨w.heap.size, 2, none⟩ (.int .i64 xs)).cell? ⟨w.heap.size, 1, none⟩ = some (.int .i64 xb) := cell_blk (i := 1) z rfl
    have z2 : (((W4.setCell ⟨w.heap.size, 0, none⟩ (.int .i64 xi)).setCell ⟨w.heap.size, 1, none⟩ (.int .i64 xb)).setCell ⟨w.heap.size, 2, none⟩ (.int .i64 xs)).cell? ⟨w.heap.size, 2, none⟩ = some (.int .i64 xs) := cell_blk (i := 2) z rfl
    clear hpm hO4 hH4 h42 h44 z
    go_wp2_with fail
    exact bodyPost_ret (v := .tuple #[itV ⟨xi, xb, xs⟩, .bool true]) (by simp [results, Try.results14, go_sem, z0, z1, z2]) rfl ⟨rfl, _, ⟨fun e => (by have := HN.out; rw [e] at this; cases this), fun _ => by rw [← HX.out]; exact HPM.out⟩, HO4.out, HH4.out.put3 (q := w.heap.size) (.inr hH.out.b.size) (by omega) (by have := hH.out.h.pl; omega) (fun g' off e => by have := hH.out.h.il e; omega) 0 ⟨xi, xb, xs⟩⟩
  · have hd : decide (0 < L.length) = false := decide_eq_false hl
    have he : L = [] := List.eq_nil_of_length_eq_zero (by omega)
    rw [hd] at CP ⊢
    have HE := Lib.hid he
    clear hd hl he
    go_enter Try.func14, Try.ntmps14
    go_upto_region 1 with fail
    rw [← hW1]
    clear hW1
    go_wp2_with fail
    refine CP.out.mono ?_
    rintro e W2 ⟨rfl, hb2⟩
    have HB2 := Lib.hid (HB1.out.trans (hb2.mono HB1.out.size))
    have h22 : W2.heap[w.heap.size]? = some (.cells #[.int .i64 0, .int .i64 0, .int .i64 0] 32 (0, 0)) := (hb2.block _ (by have := HZ1.out; omega)).trans H2.out
    obtain ⟨W3, hW3⟩ : ∃ W3, W3 = W2.alloc (.cells #[.int .i64 xi, .int .i64 xb, .int .i64 xs] 32) := ⟨_, rfl⟩
    have HB3 : Hid (Below w.heap.size w W3) := Lib.hid (by rw [hW3]; exact HB2.out.alloc HB2.out.size _)
    have hl22 := blk_lt h22
    have h42 : W3.heap[w.heap.size]? = some (.cells #[.int .i64 0, .int .i64 0, .int .i64 0] 32 (0, 0)) := (by rw [hW3]; exact (Below.heap_alloc _ _ _ hl22).trans h22)
    have h44 : W3.heap[W2.heap.size]? = some (.cells #[.int .i64 xi, .int .i64 xb, .int .i64 xs] 32 (0, 0)) := (by rw [hW3]; exact heap_new W2 _)
    have hl2 := blk_lt h42
    have hl4 := blk_lt h44
    have y0 : W3.cell? ⟨w.heap.size, 0, none⟩ = some (.int .i64 0) := cell_blk (i := 0) h42 rfl
    have y1 : W3.cell? ⟨w.heap.size, 1, none⟩ = some (.int .i64 0) := cell_blk (i := 1) h42 rfl
    have y2 : W3.cell? ⟨w.heap.size, 2, none⟩ = some (.int .i64 0) := cell_blk (i := 2) h42 rfl
    have e0 : W3.cell? ⟨W2.heap.size, 0, none⟩ = some (.int .i64 xi) := cell_blk (i := 0) h44 rfl
    have e1 : W3.cell? ⟨W2.heap.size, 1, none⟩ = some (.int .i64 xb) := cell_blk (i := 1) h44 rfl
    have e2 : W3.cell? ⟨W2.heap.size, 2, none⟩ = some (.int .i64 xs) := cell_blk (i := 2) h44 rfl
    have f0 := frozen_blk (i := 0) h42
    have f1 := frozen_blk (i := 1) h42
    have f2 := frozen_blk (i := 2) h42
    have z : (((W3.setCell ⟨w.heap.size, 0, none⟩ (.int .i64 xi)).setCell ⟨w.heap.size, 1, none⟩ (.int .i64 xb)).setCell ⟨w.heap.size, 2, none⟩ (.int .i64 xs)).heap[w.heap.size]? = some (.cells #[.int .i64 xi, .int .i64 xb, .int .i64 xs] 32 (0, 0)) := put3_blk (x := ⟨xi, xb, xs⟩) h42
    have z0 : (((W3.setCell ⟨w.heap.size, 0, none⟩ (.int .i64 xi)).setCell ⟨w.heap.size, 1, none⟩ (.int .i64 xb)).setCell ⟨w.heap.size, 2, none⟩ (.int .i64 xs)).cell? ⟨w.heap.size, 0, none⟩ = some (.int .i64 xi) := cell_blk (i := 0) z rfl
    have z1 : (((W3.setCell ⟨w.heap.size, 0, none⟩ (.int .i64 xi)).setCell ⟨w.heap.size, 1, none⟩ (.int .i64 xb)).setCell ⟨w.heap.size, 2, none⟩ (.int .i64 xs)).cell? ⟨w.heap.size, 1, none⟩ = some (.int .i64 xb) := cell_blk (i := 1) z rfl
    have z2 : (((W3.setCell ⟨w.heap.size, 0, none⟩ (.int .i64 xi)).setCell ⟨w.heap.size, 1, none⟩ (.int .i64 xb)).setCell ⟨w.heap.size, 2, none⟩ (.int .i64 xs)).cell? ⟨w.heap.size, 2, none⟩ = some (.int .i64 xs) := cell_blk (i := 2) z rfl
    clear hb2 h22 hl22 h42 h44 z
    go_upto_region 4 with fail
    rw [← hW3]
    clear hW3
    go_wp2_with fail
    exact bodyPost_ret (v := .tuple #[itV ⟨xi, xb, xs⟩, .bool false]) (by simp [results, Try.results14, go_sem, z0, z1, z2]) rfl ⟨rfl, L, ⟨fun _ => HE.out, fun h0 => (by rw [HE.out] at h0; exact absurd h0 (by simp))⟩, hO'.out, (hH.out.call HB3.out).put3 (q := w.heap.size) (.inr hH.out.b.size) (by omega) (by have := hH.out.h.pl; omega) (fun g' off e => by have := hH.out.h.il e; omega) 0 ⟨xi, xb, xs⟩⟩
/-- What Remove tells. -/
def remI (L : List It) (i : Int) : It := if hasB L i = true then getI L i else ⟨0, 0, 0⟩
set_option maxRecDepth 100000 in
set_option maxHeartbeats 4000000 in
theorem remove_any (F : FW) (w : World) (hb : Nat) (A : HA) (s : Int) (L : List It) (h : HW F w hb A s L) (hO : HO s L) (i : Int) (hi : (Lit.int .i64 i).wf = true) :
    Calls Try.prog 17 #[pt hb, .int .i64 i] w fun e w' => e = .returned (.tuple #[itV (remI L i), .bool (hasB L i)]) ∧ ∃ L', RemR L i L' ∧ HO s L' ∧ HW F w' hb A s L' := by
  have hH := Lib.hid h
  have hO' := Lib.hid hO
  obtain ⟨W1, hW1⟩ : ∃ W1, W1 = w.alloc (.cells #[.int .i64 0, .int .i64 0, .int .i64 0] 32) := ⟨_, rfl⟩
  have hB1 : Below w.heap.size w W1 := (by rw [hW1]; exact (Below.refl _ _).alloc (Nat.le_refl _) _)
  have HB1 := Lib.hid hB1
  have HZ1 : Hid (W1.heap.size = w.heap.size + 1) := Lib.hid (by rw [hW1, World.size_alloc])
  have h12 : W1.heap[w.heap.size]? = some (.cells #[.int .i64 0, .int .i64 0, .int .i64 0] 32 (0, 0)) := (by rw [hW1]; exact heap_new w _)
  have H2 := Lib.hid h12
  have hH1 := (h.call hB1).h
  have hbl := hH1.lt
  have hbl0 := h.h.lt
  have c2 : W1.cell? ⟨hb, 2, none⟩ = some (.map (some A.pb)) := cell_blk (i := 2) hH1.box rfl
  obtain ⟨f, hm, hp⟩ := hH1.map
  obtain ⟨q, hlk, hq⟩ := hm.look hi
  have hhas := hp.has i
  have hl2 := blk_lt h12
  unfold remI
  cases hb' : hasB L i with
  | false =>
    rw [hhas, hb'] at hlk
    rw [if_neg (by decide)]
    have HBV := Lib.hid hb'
    have y0 : W1.cell? ⟨w.heap.size, 0, none⟩ = some (.int .i64 0) := cell_blk (i := 0) h12 rfl
    have y1 : W1.cell? ⟨w.heap.size, 1, none⟩ = some (.int .i64 0) := cell_blk (i := 1) h12 rfl
    have y2 : W1.cell? ⟨w.heap.size, 2, none⟩ = some (.int .i64 0) := cell_blk (i := 2) h12 rfl
    have f0 := frozen_blk (i := 0) h12
    have f1 := frozen_blk (i := 1) h12
    have f2 := frozen_blk (i := 2) h12
    have z : (((W1.setCell ⟨w.heap.size, 0, none⟩ (.int .i64 0)).setCell ⟨w.heap.size, 1, none⟩ (.int .i64 0)).setCell ⟨w.heap.size, 2, none⟩ (.int .i64 0)).heap[w.heap.size]? = some (.cells #[.int .i64 0, .int .i64 0, .int .i64 0] 32 (0, 0)) := put3_blk (x := ⟨0, 0, 0⟩) h12
    have z0 : (((W1.setCell ⟨w.heap.size, 0, none⟩ (.int .i64 0)).setCell ⟨w.heap.size, 1, none⟩ (.int .i64 0)).setCell ⟨w.heap.size, 2, none⟩ (.int .i64 0)).cell? ⟨w.heap.size, 0, none⟩ = some (.int .i64 0) := cell_blk (i := 0) z rfl
    have z1 : (((W1.setCell ⟨w.heap.size, 0, none⟩ (.int .i64 0)).setCell ⟨w.heap.size, 1, none⟩ (.int .i64 0)).setCell ⟨w.heap.size, 2, none⟩ (.int .i64 0)).cell? ⟨w.heap.size, 1, none⟩ = some (.int .i64 0) := cell_blk (i := 1) z rfl
    have z2 : (((W1.setCell ⟨w.heap.size, 0, none⟩ (.int .i64 0)).setCell ⟨w.heap.size, 1, none⟩ (.int .i64 0)).setCell ⟨w.heap.size, 2, none⟩ (.int .i64 0)).cell? ⟨w.heap.size, 2, none⟩ = some (.int .i64 0) := cell_blk (i := 2) z rfl
    clear h hO hB1 h12 hH1 hm hp hq hhas hb' z
    go_enter Try.func17, Try.ntmps17
    go_upto_region 1 with fail
    rw [← hW1]
    clear hW1
    go_wp2_with fail
    exact bodyPost_ret (v := .tuple #[itV ⟨0, 0, 0⟩, .bool false]) (by simp [results, Try.results17, go_sem, z0, z1, z2]) rfl ⟨rfl, L, ⟨fun h => (by rw [HBV.out] at h; cases h), fun _ => rfl⟩, hO'.out, (hH.out.call HB1.out).put3 (q := w.heap.size) (.inr hH.out.b.size) (by omega) (by have := hH.out.h.pl; omega) (fun g' off e => by have := hH.out.h.il e; omega) 0 ⟨0, 0, 0⟩⟩
  | true =>
    rw [hhas, hb'] at hlk
    rw [if_pos rfl]
    have HBV := Lib.hid hb'
    rw [hb'] at hhas
    obtain ⟨p, hpl, hpi, hfp⟩ := hp.some hhas
    obtain rfl := hq p hfp
    have hgx : getI L i = L[p]! := by rw [← hpi]; exact hp.get hpl
    rw [hgx]
    obtain ⟨n, hn⟩ : ∃ n, L.length = n + 1 := ⟨L.length - 1, by omega⟩
    have CT := Lib.hid (take_any (F.inn w W1) W1 hb A s L (h.inner hB1) hO n hn p (by omega))
    obtain ⟨x, hx⟩ : ∃ x, x = L[p]! := ⟨_, rfl⟩
    rw [← hx] at CT ⊢
    have HX := Lib.hid hx
    have HGX := Lib.hid hgx
    clear hx h hO hB1 h12 hH1 hm hp hq hhas hb' hgx hpi hfp hpl hn
    obtain ⟨xi, xb, xs⟩ := x
    go_enter Try.func17, Try.ntmps17
    go_upto_region 1 with fail
    rw [← hW1]
    clear hW1
    go_wp2_with fail
    refine CT.out.mono ?_
    rintro e W4 ⟨rfl, L4, hpm, hO4, hH4⟩
    have HPM := Lib.hid hpm
    have HO4 := Lib.hid hO4
    have HH4 := Lib.hid (hH.out.outer HB1.out hH4)
    have h42 : W4.heap[w.heap.size]? = some (.cells #[.int .i64 0, .int .i64 0, .int .i64 0] 32 (0, 0)) := (hH4.b.mid (Nat.le_refl _) (by have := HZ1.out; omega)).trans H2.out
    have hl4 := blk_lt h42
    have y0 : W4.cell? ⟨w.heap.size, 0, none⟩ = some (.int .i64 0) := cell_blk (i := 0) h42 rfl
    have y1 : W4.cell? ⟨w.heap.size, 1, none⟩ = some (.int .i64 0) := cell_blk (i := 1) h42 rfl
    have y2 : W4.cell? ⟨w.heap.size, 2, none⟩ = some (.int .i64 0) := cell_blk (i := 2) h42 rfl
    have f0 := frozen_blk (i := 0) h42
    have f1 := frozen_blk (i := 1) h42
    have f2 := frozen_blk (i := 2) h42
    have z : (((W4.setCell ⟨w.heap.size, 0, none⟩ (.int .i64 xi)).setCell ⟨w.heap.size, 1, none⟩ (.int .i64 xb)).setCell ⟨w.heap.size, 2, none⟩ (.int .i64 xs)).heap[w.heap.size]? = some (.cells #[.int .i64 xi, .int .i64 xb, .int .i64 xs] 32 (0, 0)) := put3_blk (x := ⟨xi, xb, xs⟩) h42
    have z0 : (((W4.setCell ⟨w.heap.size, 0, none⟩ (.int .i64 xi)).setCell ⟨w.heap.size, 1, none⟩ (.int .i64 xb)).setCell ⟨w.heap.size, 2, none⟩ (.int .i64 xs)).cell? ⟨w.heap.size, 0, none⟩ = some (.int .i64 xi) := cell_blk (i := 0) z rfl
    have z1 : (((W4.setCell ⟨w.heap.size, 0, none⟩ (.int .i64 xi)).setCell ⟨w.heap.size, 1, none⟩ (.int .i64 xb)).setCell ⟨w.heap.size, 2, none⟩ (.int .i64 xs)).cell? ⟨w.heap.size, 1, none⟩ = some (.int .i64 xb) := cell_blk (i := 1) z rfl
    have z2 : (((W4.setCell ⟨w.heap.size, 0, none⟩ (.int .i64 xi)).setCell ⟨w.heap.size, 1, none⟩ (.int .i64 xb)).setCell ⟨w.heap.size, 2, none⟩ (.int .i64 xs)).cell? ⟨w.heap.size, 2, none⟩ = some (.int .i64 xs) := cell_blk (i := 2) z rfl
    clear hpm hO4 hH4 h42 z
    go_wp2_with fail
    exact bodyPost_ret (v := .tuple #[itV ⟨xi, xb, xs⟩, .bool true]) (by simp [results, Try.results17, go_sem, z0, z1, z2]) rfl ⟨rfl, _, ⟨fun _ => (by rw [HGX.out, ← HX.out]; exact HPM.out), fun h => (by rw [HBV.out] at h; cases h)⟩, HO4.out, HH4.out.put3 (q := w.heap.size) (.inr hH.out.b.size) (by omega) (by have := hH.out.h.pl; omega) (fun g' off e => by have := hH.out.h.il e; omega) 0 ⟨xi, xb, xs⟩⟩
end Go.Proofs.Ytcipgjelbnmdiaa.HP
