/-
  Members of a graph that may be: their names are apart, their chains end; the laws' staff as it goes on. Contract of layer 10's awake: it answers true. Contract of the document's own Large, of every graph: where it answers false, the graph has few parts.
-/
import Derived.Test.YtahhhhacoigpmaaScbd
import Derived.Test.YtahhhhacoigpmaaScbc
namespace Go.Proofs.Ytahhhhacoigpmaa.SF
open Go.RowKit Go.Shelf Go.Proofs.Ytahhhhacoigpmaa.B
theorem placeG_range (g : Gr) (k : Key) : -1 ≤ placeG g k ∧ placeG g k < g.us.length := by
  unfold placeG
  cases hh : hasB (uns g) k with
  | false => exact ⟨by simp, by simp; omega⟩
  | true =>
    rw [if_pos rfl]
    have := List.idxOf_lt_length_iff.2 (List.contains_iff_mem.1 hh)
    unfold uns at this ⊢
    rw [List.length_map] at this
    omega
/-- Members as New makes them. -/
structure MkM (g : Gr) (M : List Mb) : Prop where
  len : M.length = g.us.length
  name : ∀ i : Nat, i < M.length → M[i]!.name = g.us[i]!.name
  roles : ∀ i : Nat, i < M.length → M[i]!.roles = g.us[i]!.roles
  sub : ∀ i : Nat, i < M.length → M[i]!.sub = placeG g g.us[i]!.sub.toList
  away : ∀ i : Nat, i < M.length → M[i]!.away = false
theorem MkM.of {g : Gr} {M : List Mb} {w' : World} (hl : M.length = g.us.length) (h : ∀ i, i < M.length → ∃ B, MbO g B w' i M[i]!) : MkM g M :=
  ⟨hl, fun i hi => (h i hi).choose_spec.name, fun i hi => (h i hi).choose_spec.roles, fun i hi => (h i hi).choose_spec.sub, fun i hi => (h i hi).choose_spec.away⟩
theorem MkM.nms {g : Gr} {M : List Mb} (h : MkM g M) : nms M = uns g := by
  unfold SF.nms uns
  refine List.ext_getElem (by simpa using h.len) (fun i h1 h2 => ?_)
  rw [List.getElem_map, List.getElem_map]
  have h7 := h.name i (by simpa using h1)
  rw [getElem!_pos M i (by simpa using h1), getElem!_pos g.us i (by simpa using h2)] at h7
  rw [h7]
theorem MkM.place {g : Gr} {M : List Mb} (h : MkM g M) (k : Key) : placeL M k = placeG g k := by unfold placeL placeG; rw [h.nms]
theorem name_not_nil {g : Gr} (h : mayL g = true) : hasB (uns g) [] = false := by
  obtain ⟨_, _, _, _, h4⟩ := may_iff.1 h
  cases hh : hasB (uns g) [] with
  | false => rfl
  | true =>
    exfalso
    have hm : ([] : Key) ∈ uns g := List.contains_iff_mem.1 hh
    unfold uns at hm
    obtain ⟨u, hu, he⟩ := List.mem_map.1 hm
    obtain ⟨i, hi, rfl⟩ := List.getElem_of_mem hu
    have h5 := h4 i hi
    unfold userE at h5
    rw [getElem!_pos g.us i hi, he, show nameK [] = false by kernel_rfl, Bool.false_and, if_neg (by decide)] at h5
    cases h5
theorem back_it {g : Gr} {M : List Mb} (h : MkM g M) (hm : mayL g = true) (i : Nat) : ∀ (n f : Nat), f < M.length → backL g i n f = false → ∀ j, j < n → itN M (j + 1) (f : Int) ≠ (i : Int)
  | 0, _, _, _, j, hj => by omega
  | n + 1, f, hf, hb, j, hj => by
    have e : itN M (j + 1) (f : Int) = itN M j (placeG g g.us[f]!.sub.toList) := by
      show (if (f : Int) < 0 then -1 else itN M j M[(f : Int).toNat]!.sub) = _
      rw [if_neg (by omega), Int.toNat_natCast, h.sub f hf]
    rw [e]
    unfold backL at hb
    by_cases h0 : (g.us[f]!.sub.toList == []) = true
    · have e0 : g.us[f]!.sub.toList = [] := eq_of_beq h0
      unfold placeG
      rw [e0, name_not_nil hm, if_neg (by decide), it_neg]; omega
    · rw [if_neg h0] at hb
      cases hh : hasB (uns g) g.us[f]!.sub.toList with
      | false =>
        unfold placeG
        rw [hh, if_neg (by decide), it_neg]; omega
      | true =>
        rw [hh, if_pos rfl] at hb
        have hp : placeG g g.us[f]!.sub.toList = (((uns g).idxOf g.us[f]!.sub.toList : Nat) : Int) := by unfold placeG; rw [hh, if_pos rfl]
        rw [hp]
        have hr := placeG_range g g.us[f]!.sub.toList
        rw [hp] at hr
        by_cases hi : (uns g).idxOf g.us[f]!.sub.toList = i
        · rw [if_pos hi] at hb; cases hb
        · rw [if_neg hi] at hb
          cases j with
          | zero => show (((uns g).idxOf g.us[f]!.sub.toList : Nat) : Int) ≠ (i : Int); omega
          | succ j => exact back_it h hm i n _ (by rw [h.len]; omega) hb j (by omega)
theorem uns_nodup {g : Gr} (h : mayL g = true) : (uns g).Nodup := by
  rw [List.nodup_iff_pairwise_ne, List.pairwise_iff_getElem]
  intro i j hi hj hij e
  unfold uns at hi hj e
  rw [List.length_map] at hi hj
  rw [List.getElem_map, List.getElem_map] at e
  refine uns_apart h hj (List.mem_map.2 ⟨g.us[i], ?_, ?_⟩)
  · have h1 : (g.us.take j)[i]'(by rw [List.length_take]; omega) = g.us[i] := List.getElem_take
    rw [← h1]; exact List.getElem_mem _
  · rw [getElem!_pos g.us j hj]
    unfold litS
    rw [Lib.toList_data, Lib.toList_data] at e
    rw [e]
theorem MkM.ok {g : Gr} {M : List Mb} (h : MkM g M) (hm : mayL g = true) (hz : SzG g) : OkM M := by
  have hmi := may_iff.1 hm
  have h0 := hmi.1
  have hu := hmi.2.2.2.2
  unfold limitE at h0
  split at h0; · cases h0
  split at h0; · cases h0
  split at h0; · cases h0
  split at h0; · cases h0
  rename_i hfew
  have hr8 : ∀ u ∈ g.us, u.roles.length ≤ 8 := by
    intro u hu
    by_cases hh : 8 < u.roles.length
    · rw [List.any_eq_true.2 ⟨u, hu, decide_eq_true hh⟩, if_pos rfl] at h0; cases h0
    · omega
  refine ⟨by rw [h.len]; omega, by rw [h.nms]; exact uns_nodup hm, fun x hx => ?_, fun x hx j hj => ?_, fun m hmm => ?_, fun m hmm => ?_⟩
  · rw [h.sub x hx, h.len]; exact placeG_range g _
  · have hux := hu x (by rw [← h.len]; exact hx)
    refine back_it h hm x g.us.length x hx ?_ j (by rw [← h.len]; exact hj)
    cases hb : backL g x g.us.length x with
    | false => rfl
    | true =>
      exfalso
      unfold userE at hux
      rw [hb] at hux
      split at hux
      · split at hux
        · cases hux
        · split at hux
          · cases hux
          · cases hux
      · cases hux
  · obtain ⟨i, hi, rfl⟩ := List.getElem_of_mem hmm
    have h7 := h.name i hi
    rw [getElem!_pos M i hi] at h7
    rw [h7]
    exact (hz.ur _ (mem_at (by rw [← h.len]; exact hi))).1
  · obtain ⟨i, hi, rfl⟩ := List.getElem_of_mem hmm
    have h7 := h.roles i hi
    rw [getElem!_pos M i hi] at h7
    rw [h7]
    exact hr8 _ (mem_at (by rw [← h.len]; exact hi))
/-- A staff of the call's own (from w0 on). -/
structure SW (w0 w : World) (sb : Nat) (A : SA) (M : List Mb) : Prop where
  b : Below w0.heap.size w0 w
  st : StI w sb A M
  base : ∀ b off, A.ma = some ⟨b, off, none⟩ → w0.heap.size ≤ b
theorem SW.call {w0 w w' : World} {sb : Nat} {A : SA} {M : List Mb} (h : SW w0 w sb A M) (hb : Below w.heap.size w w') : SW w0 w' sb A M :=
  ⟨h.b.trans (hb.mono h.b.size), h.st.below hb, h.base⟩
theorem SW.away {w0 w w' : World} {sb : Nat} {A : SA} {M M' : List Mb} (h : SW w0 w sb A M) (ha : AwP w sb A M' w') : SW w0 w' sb A M' :=
  ⟨h.b.trans (ha.below _ h.base), ha.st, h.base⟩
/-- What New says, of a graph that may be. -/
theorem new_may (w : World) (g : Gr) (hI : InG w g) (hz : SzG g) (hcap : ∀ u ∈ g.us, u.roles.length ≤ u.rc) (hm : mayL g = true) :
    Calls Try.prog 9 #[.agg #[.slice g.ga g.gs.length g.gc, .slice g.ea g.es.length g.ec, .slice g.ra g.rs.length g.rc, .slice g.ua g.us.length g.uc]] w fun e w' =>
      ∃ (sb : Nat) (A : SA) (M : List Mb), e = .returned (.tuple #[pt sb, .int .i64 0]) ∧ SW w w' sb A M ∧ MkM g M := by
  have hc : (checkL g).2.2 = 0 := by unfold mayL at hm; simpa using hm
  refine (new_any w g hI hz hcap).mono fun e w' ⟨hb, h⟩ => ?_
  rw [if_pos hc] at h
  obtain ⟨sb, A, M, rfl, h1, h2, h3, h4⟩ := h
  exact ⟨sb, A, M, rfl, ⟨hb, h1, h2⟩, MkM.of h3 h4⟩
theorem new_not (w : World) (g : Gr) (hI : InG w g) (hz : SzG g) (hcap : ∀ u ∈ g.us, u.roles.length ≤ u.rc) (hm : mayL g = false) :
    Calls Try.prog 9 #[.agg #[.slice g.ga g.gs.length g.gc, .slice g.ea g.es.length g.ec, .slice g.ra g.rs.length g.rc, .slice g.ua g.us.length g.uc]] w fun e w' =>
      e = .returned (.tuple #[.pointer none, .int .i64 ((checkL g).2.2 : Int)]) ∧ Below w.heap.size w w' := by
  have hc : ¬ (checkL g).2.2 = 0 := by unfold mayL at hm; simpa using hm
  refine (new_any w g hI hz hcap).mono fun e w' ⟨hb, h⟩ => ?_
  rw [if_neg hc] at h
  exact ⟨h, hb⟩
def gA (n : Nat) : Gr := ⟨[], [], [], [⟨⟨#[117]⟩, some ⟨n, 0, none⟩, 1, [⟨#[114]⟩], ⟨#[118]⟩⟩, ⟨⟨#[118]⟩, none, 0, [], ⟨#[119]⟩⟩, ⟨⟨#[119]⟩, none, 0, [], ⟨#[]⟩⟩], none, 0, none, 0, none, 0, some ⟨n + 1, 0, none⟩, 3⟩
def gE (n : Nat) : Gr := ⟨[], [], [], [⟨⟨#[]⟩, none, 0, [], ⟨#[]⟩⟩], none, 0, none, 0, none, 0, some ⟨n, 0, none⟩, 1⟩
theorem mayA (n : Nat) : mayL (gA n) = true := by kernel_rfl
theorem mayE (n : Nat) : mayL (gE n) = false := by kernel_rfl
theorem chE (n : Nat) : (checkL (gE n)).2.2 = 5 := by kernel_rfl
theorem szA (n : Nat) : SzG (gA n) := ⟨by simp [gA], by simp [gA], by simp [gA], by simp [gA], by simp [gA], by simp [gA], by simp [gA], by simp [gA]; decide⟩
theorem szE (n : Nat) : SzG (gE n) := ⟨by simp [gE], by simp [gE], by simp [gE], by simp [gE], by simp [gE], by simp [gE], by simp [gE], by simp [gE]; decide⟩
theorem Row.of_blk {W : World} {b : Nat} {cs : Array Value} {T : TypeId} {xs : List Value} (h : W.heap[b]? = some (.cells cs T (0, 0))) (hx : cs.toList = xs) : Row W (some ⟨b, 0, none⟩) xs := fun _ =>
  ⟨b, 0, rfl, (Array.getElem?_eq_some_iff.1 h).1, fun j u hj => by rw [Nat.zero_add]; exact cell_blk h (by rw [← hx] at hj; simpa using hj)⟩
theorem Row.empty (W : World) (A : Option Addr) : Row W A [] := fun h => absurd rfl h
theorem inA {W : World} {n : Nat} (h0 : W.heap[n]? = some (.cells #[.string ⟨#[114]⟩] 9 (0, 0)))
    (h1 : W.heap[n + 1]? = some (.cells #[.string ⟨#[117]⟩, .slice (some ⟨n, 0, none⟩) 1 1, .string ⟨#[118]⟩, .string ⟨#[118]⟩, .slice none 0 0, .string ⟨#[119]⟩, .string ⟨#[119]⟩, .slice none 0 0, .string ⟨#[]⟩] 52 (0, 0))) : InG W (gA n) :=
  ⟨Row.empty _ _, Row.empty _ _, Row.empty _ _, Row.of_blk h1 rfl, fun u hu => by
    simp only [gA, List.mem_cons, List.not_mem_nil, or_false] at hu
    rcases hu with rfl | rfl | rfl
    · exact Row.of_blk h0 rfl
    · exact Row.empty _ _
    · exact Row.empty _ _⟩
theorem inE {W : World} {n : Nat} (h1 : W.heap[n]? = some (.cells #[.string ⟨#[]⟩, .slice none 0 0, .string ⟨#[]⟩] 52 (0, 0))) : InG W (gE n) :=
  ⟨Row.empty _ _, Row.empty _ _, Row.empty _ _, Row.of_blk h1 rfl, fun u hu => by
    simp only [gE, List.mem_cons, List.not_mem_nil, or_false] at hu
    subst hu
    exact Row.empty _ _⟩
/-- Awake's members. -/
def mA (a0 a1 a2 : Option Addr) (c0 c1 c2 : Nat) (b : Bool) : List Mb := [⟨⟨#[117]⟩, a0, c0, [⟨#[114]⟩], 1, b⟩, ⟨⟨#[118]⟩, a1, c1, [], 2, false⟩, ⟨⟨#[119]⟩, a2, c2, [], -1, false⟩]
theorem mA_of {n : Nat} {M : List Mb} (h : MkM (gA n) M) : ∃ a0 a1 a2 c0 c1 c2, M = mA a0 a1 a2 c0 c1 c2 false := by
  obtain ⟨hl, h1, h2, h3, h4⟩ := h
  match M, hl with
  | [m0, m1, m2], _ =>
    have e0 : placeG (gA n) (ByteArray.mk #[118]).toList = 1 := by kernel_rfl
    have e1 : placeG (gA n) (ByteArray.mk #[119]).toList = 2 := by kernel_rfl
    have e2 : placeG (gA n) (ByteArray.mk #[]).toList = -1 := by kernel_rfl
    obtain ⟨n0, a0, c0, r0, s0, w0⟩ := m0
    obtain ⟨n1, a1, c1, r1, s1, w1⟩ := m1
    obtain ⟨n2, a2, c2, r2, s2, w2⟩ := m2
    obtain rfl : n0 = ⟨#[117]⟩ := h1 0 (by simp)
    obtain rfl : n1 = ⟨#[118]⟩ := h1 1 (by simp)
    obtain rfl : n2 = ⟨#[119]⟩ := h1 2 (by simp)
    obtain rfl : r0 = [⟨#[114]⟩] := h2 0 (by simp)
    obtain rfl : r1 = [] := h2 1 (by simp)
    obtain rfl : r2 = [] := h2 2 (by simp)
    obtain rfl : s0 = 1 := (h3 0 (by simp)).trans e0
    obtain rfl : s1 = 2 := (h3 1 (by simp)).trans e1
    obtain rfl : s2 = -1 := (h3 2 (by simp)).trans e2
    obtain rfl : w0 = false := h4 0 (by simp)
    obtain rfl : w1 = false := h4 1 (by simp)
    obtain rfl : w2 = false := h4 2 (by simp)
    exact ⟨a0, a1, a2, c0, c1, c2, rfl⟩
theorem mA_ok (a0 a1 a2 : Option Addr) (c0 c1 c2 : Nat) : OkM (mA a0 a1 a2 c0 c1 c2 false) := by
  have h := (MkM.mk (g := gA 0) (M := mA a0 a1 a2 c0 c1 c2 false) rfl ?_ ?_ ?_ ?_).ok (mayA 0) (szA 0)
  · exact h
  all_goals
    intro i hi
    obtain rfl | rfl | rfl : i = 0 ∨ i = 1 ∨ i = 2 := by simp [mA] at hi; omega
    all_goals kernel_rfl
end Go.Proofs.Ytahhhhacoigpmaa.SF

namespace Go.Proofs.Ytahhhhacoigpmaa.SF
open Go.RowKit Go.Shelf Go.Proofs.Ytahhhhacoigpmaa.B
section
variable (a0 a1 a2 : Option Addr) (c0 c1 c2 : Nat)
theorem fA1 : forL (mA a0 a1 a2 c0 c1 c2 false) (placeL (mA a0 a1 a2 c0 c1 c2 false) (ByteArray.mk #[117]).toList) = ⟨#[117]⟩ := by kernel_rfl
theorem wA1 : awayL (mA a0 a1 a2 c0 c1 c2 false) (placeL (mA a0 a1 a2 c0 c1 c2 false) (ByteArray.mk #[117]).toList) true = mA a0 a1 a2 c0 c1 c2 true := by kernel_rfl
theorem pA1 : placeL (mA a0 a1 a2 c0 c1 c2 false) (ByteArray.mk #[117]).toList = 0 := by kernel_rfl
theorem wA2 : awayL (mA a0 a1 a2 c0 c1 c2 true) (placeL (mA a0 a1 a2 c0 c1 c2 true) (ByteArray.mk #[120]).toList) true = mA a0 a1 a2 c0 c1 c2 true := by kernel_rfl
theorem pA2 : placeL (mA a0 a1 a2 c0 c1 c2 true) (ByteArray.mk #[120]).toList = -1 := by kernel_rfl
theorem fA2 : forL (mA a0 a1 a2 c0 c1 c2 true) (placeL (mA a0 a1 a2 c0 c1 c2 true) (ByteArray.mk #[117]).toList) = ⟨#[118]⟩ := by kernel_rfl
theorem cA : chain (mA a0 a1 a2 c0 c1 c2 true) (placeL (mA a0 a1 a2 c0 c1 c2 true) (ByteArray.mk #[117]).toList) = [0, 1, 2] := by kernel_rfl
theorem lA : ableL (mA a0 a1 a2 c0 c1 c2 true) (ByteArray.mk #[114]).toList = [1, 2] := by kernel_rfl
theorem oA : hold (mA a0 a1 a2 c0 c1 c2 true) (ByteArray.mk #[114]).toList = [0] := by kernel_rfl
theorem n0A : nmC (mA a0 a1 a2 c0 c1 c2 true) [0, 1, 2] = [.string ⟨#[117]⟩, .string ⟨#[118]⟩, .string ⟨#[119]⟩] := by kernel_rfl
theorem n1A : nmC (mA a0 a1 a2 c0 c1 c2 true) [1, 2] = [.string ⟨#[118]⟩, .string ⟨#[119]⟩] := by kernel_rfl
theorem n2A : nmC (mA a0 a1 a2 c0 c1 c2 true) [0] = [.string ⟨#[117]⟩] := by kernel_rfl
theorem hA1 : hereB (mA a0 a1 a2 c0 c1 c2 true) (placeL (mA a0 a1 a2 c0 c1 c2 true) (ByteArray.mk #[117]).toList) = false := by kernel_rfl
theorem hA2 : hereB (mA a0 a1 a2 c0 c1 c2 true) (placeL (mA a0 a1 a2 c0 c1 c2 true) (ByteArray.mk #[118]).toList) = true := by kernel_rfl
theorem yA1 : mayB (mA a0 a1 a2 c0 c1 c2 true) (placeL (mA a0 a1 a2 c0 c1 c2 true) (ByteArray.mk #[119]).toList) (ByteArray.mk #[114]).toList = true := by kernel_rfl
theorem yA2 : mayB (mA a0 a1 a2 c0 c1 c2 true) (placeL (mA a0 a1 a2 c0 c1 c2 true) (ByteArray.mk #[117]).toList) (ByteArray.mk #[114]).toList = false := by kernel_rfl
theorem xA1 : nextL (mA a0 a1 a2 c0 c1 c2 true) (placeL (mA a0 a1 a2 c0 c1 c2 true) (ByteArray.mk #[117]).toList) 1 = ⟨#[118]⟩ := by kernel_rfl
theorem xA2 : nextL (mA a0 a1 a2 c0 c1 c2 true) (placeL (mA a0 a1 a2 c0 c1 c2 true) (ByteArray.mk #[117]).toList) 9 = ⟨#[119]⟩ := by kernel_rfl
theorem xA3 : nextL (mA a0 a1 a2 c0 c1 c2 true) (placeL (mA a0 a1 a2 c0 c1 c2 true) (ByteArray.mk #[120]).toList) 0 = ⟨#[]⟩ := by kernel_rfl
theorem mA_ok2 : OkM (mA a0 a1 a2 c0 c1 c2 true) := by rw [← wA1 a0 a1 a2 c0 c1 c2]; exact awayL_ok (mA_ok a0 a1 a2 c0 c1 c2) _ _
end
theorem SW.from {w w0 w' : World} {sb : Nat} {A : SA} {M : List Mb} (h : SW w0 w' sb A M) (hb : Below w.heap.size w w0) : SW w w' sb A M :=
  ⟨hb.trans (h.b.mono hb.size), h.st, fun b off e => Nat.le_trans hb.size (h.base b off e)⟩
/-- A list of names that a call made, in later worlds. -/
structure NV (W : World) (v : Value) (xs : List Value) : Prop where
  r : ∃ B, W.ownsRow B 9 1 v xs.length xs
theorem nv_mk {W : World} {B n : Nat} {v : Value} {xs : List Value} (h : W.ownsRow B 9 1 v n xs) : NV W v xs := ⟨B, by have e := h.1; rw [Nat.mul_one] at e; rw [e]; exact h⟩
theorem NV.call {W W' : World} {v : Value} {xs : List Value} (h : NV W v xs) (hb : Below W.heap.size W W') : NV W' v xs := by obtain ⟨B, h⟩ := h.r; exact ⟨B, own_below h hb⟩
theorem NV.sl {W : World} {v : Value} {xs : List Value} (h : NV W v xs) (h0 : 0 < xs.length) : ∃ g c, v = .slice (some ⟨g, 0, none⟩) xs.length c ∧ g < W.heap.size ∧ ∀ i u, xs[i]? = some u → W.cell? ⟨g, i, none⟩ = some u := by
  obtain ⟨B, h⟩ := h.r
  obtain ⟨g, c, rfl, _, hl⟩ := own_head h h0
  exact ⟨g, c, rfl, hl, fun i u hu => by
    have h1 := h.cells (g := g) rfl i u hu
    rw [Addr.add_lit, Nat.zero_add] at h1
    exact h1⟩
set_option maxRecDepth 100000 in
set_option maxHeartbeats 8000000 in
theorem awake_any (w : World) : Calls Try.prog 7 #[] w fun e w' => e = .returned (.bool true) ∧ Below w.heap.size w w' := by
  go_enter Try.func7, Try.ntmps7
  go_wp2_with fail
  obtain ⟨W3, hW3⟩ : ∃ W3, W3 = (((w.alloc (.cells #[.string ⟨#[114]⟩] 9)).alloc (.cells #[.string ⟨#[117]⟩, .slice (some ⟨w.heap.size, 0, none⟩) 1 1, .string ⟨#[118]⟩, .string ⟨#[118]⟩, .slice none 0 0, .string ⟨#[119]⟩, .string ⟨#[119]⟩, .slice none 0 0, .string ⟨#[]⟩] 52)).alloc (.cells #[.slice none 0 0, .slice none 0 0, .slice none 0 0, .slice (some ⟨w.heap.size + 1, 0, none⟩) 3 3] 27)) := ⟨_, rfl⟩
  have hal : W3 = [Obj.cells #[.string ⟨#[114]⟩] 9, .cells #[.string ⟨#[117]⟩, .slice (some ⟨w.heap.size, 0, none⟩) 1 1, .string ⟨#[118]⟩, .string ⟨#[118]⟩, .slice none 0 0, .string ⟨#[119]⟩, .string ⟨#[119]⟩, .slice none 0 0, .string ⟨#[]⟩] 52, .cells #[.slice none 0 0, .slice none 0 0, .slice none 0 0, .slice (some ⟨w.heap.size + 1, 0, none⟩) 3 3] 27].foldl World.alloc w := hW3
  have hb3 : Below w.heap.size w W3 := by rw [hal]; exact allocs_below _ _ (Nat.le_refl _)
  have b0 : W3.heap[w.heap.size + 0]? = some (.cells #[.string ⟨#[114]⟩] 9 (0, 0)) := by rw [hal]; exact allocs_at _ w 0 (by simp)
  have b1 : W3.heap[w.heap.size + 1]? = some (.cells #[.string ⟨#[117]⟩, .slice (some ⟨w.heap.size, 0, none⟩) 1 1, .string ⟨#[118]⟩, .string ⟨#[118]⟩, .slice none 0 0, .string ⟨#[119]⟩, .string ⟨#[119]⟩, .slice none 0 0, .string ⟨#[]⟩] 52 (0, 0)) := by rw [hal]; exact allocs_at _ w 1 (by simp)
  have HB3 := Lib.hid hb3
  have CN := Lib.hid (new_may W3 (gA w.heap.size) (inA b0 b1) (szA _) (by simp [gA]) (mayA _))
  clear hal b0 b1 hb3
  rw [← hW3]
  clear hW3
  refine CN.out.mono ?_
  rintro e w1 ⟨sb, A, M, rfl, hS, hM⟩
  obtain ⟨a0, a1, a2, c0, c1, c2, rfl⟩ := mA_of hM
  have HW := Lib.hid (hS.from HB3.out)
  have HOK := Lib.hid (mA_ok a0 a1 a2 c0 c1 c2)
  have HOK2 := Lib.hid (mA_ok2 a0 a1 a2 c0 c1 c2)
  clear hS hM HB3 CN
  go_wp2_with fail
  have CN := Lib.hid (new_not _ (gE w1.heap.size) (inE (heap_new w1 (.cells #[.string ⟨#[]⟩, .slice none 0 0, .string ⟨#[]⟩] 52))) (szE _) (by simp [gE]) (mayE _))
  rw [chE] at CN
  have hba := (Below.refl w1.heap.size w1).alloc (Nat.le_refl _) (.cells #[.string ⟨#[]⟩, .slice none 0 0, .string ⟨#[]⟩] 52)
  have HWa := Lib.hid (HW.out.call hba)
  clear hba HW
  refine CN.out.mono ?_
  rintro e w2 ⟨rfl, hb⟩
  have HW := Lib.hid (HWa.out.call hb)
  clear CN HWa hb
  go_wp2_with fail
  refine (for_any _ sb A _ HW.out.st HOK.out ⟨#[117]⟩ (of_decide_eq_true (by kernel_rfl))).mono ?_
  rintro e v0 ⟨rfl, hb⟩
  rw [fA1]
  have HW := Lib.hid (HW.out.call hb)
  clear hb
  go_wp2_with fail
  refine (away_any _ sb A _ HW.out.st ⟨#[117]⟩ (of_decide_eq_true (by kernel_rfl)) true).mono ?_
  rintro e v1 ⟨rfl, hb⟩
  rw [wA1] at hb
  rw [pA1]
  have HW := Lib.hid (HW.out.away hb)
  clear hb
  go_wp2_with fail
  refine (away_any _ sb A _ HW.out.st ⟨#[120]⟩ (of_decide_eq_true (by kernel_rfl)) true).mono ?_
  rintro e v2 ⟨rfl, hb⟩
  rw [wA2] at hb
  rw [pA2]
  have HW := Lib.hid (HW.out.away hb)
  clear hb
  go_wp2_with fail
  refine (for_any _ sb A _ HW.out.st HOK2.out ⟨#[117]⟩ (of_decide_eq_true (by kernel_rfl))).mono ?_
  rintro e v3 ⟨rfl, hb⟩
  rw [fA2]
  have HW := Lib.hid (HW.out.call hb)
  clear hb
  go_wp2_with fail
  refine (chain_any _ sb A _ HW.out.st HOK2.out ⟨#[117]⟩ (of_decide_eq_true (by kernel_rfl))).mono ?_
  rintro e v4 ⟨x1, rfl, ho, hb⟩
  rw [cA] at ho
  rw [n0A] at ho
  have HL1 := Lib.hid (nv_mk ho)
  have HW := Lib.hid (HW.out.call hb)
  clear ho hb
  obtain ⟨g1, d1, rfl, hl1, _⟩ := HL1.out.sl (by decide)
  clear hl1
  go_wp2_with fail
  refine (ableAll_any _ sb A _ HW.out.st HOK2.out ⟨#[114]⟩).mono ?_
  rintro e v5 ⟨x2, rfl, ho, hb⟩
  rw [lA] at ho
  rw [n1A] at ho
  have HL2 := Lib.hid (nv_mk ho)
  have HW := Lib.hid (HW.out.call hb)
  have HL1 := Lib.hid (HL1.out.call hb)
  clear ho hb
  obtain ⟨g2, d2, rfl, hl2, _⟩ := HL2.out.sl (by decide)
  clear hl2
  go_wp2_with fail
  refine (holders_any _ sb A _ HW.out.st HOK2.out.few HOK2.out.roles ⟨#[114]⟩).mono ?_
  rintro e v6 ⟨x3, rfl, ho, hb⟩
  rw [oA] at ho
  rw [n2A] at ho
  have HL3 := Lib.hid (nv_mk ho)
  have HW := Lib.hid (HW.out.call hb)
  have HL1 := Lib.hid (HL1.out.call hb)
  have HL2 := Lib.hid (HL2.out.call hb)
  clear ho hb
  obtain ⟨g3, d3, rfl, hl3, _⟩ := HL3.out.sl (by decide)
  clear hl3
  obtain ⟨g1', d1', e1, hl1, hc1⟩ := HL1.out.sl (by decide)
  injection e1 with e1 _ _
  injection e1 with e1
  injection e1 with e1
  subst e1
  have k1 := hc1 2 _ rfl
  clear hc1
  obtain ⟨g2', d2', e2, hl2, hc2⟩ := HL2.out.sl (by decide)
  injection e2 with e2 _ _
  injection e2 with e2
  injection e2 with e2
  subst e2
  have k2 := hc2 0 _ rfl
  clear hc2
  obtain ⟨g3', d3', e3, hl3, hc3⟩ := HL3.out.sl (by decide)
  injection e3 with e3 _ _
  injection e3 with e3
  injection e3 with e3
  subst e3
  have k3 := hc3 0 _ rfl
  clear hc3
  go_wp2_with fail
  refine (here_any _ sb A _ HW.out.st ⟨#[117]⟩ (of_decide_eq_true (by kernel_rfl))).mono ?_
  rintro e v7 ⟨rfl, rfl⟩
  rw [hA1]
  go_wp2_with fail
  refine (here_any _ sb A _ HW.out.st ⟨#[118]⟩ (of_decide_eq_true (by kernel_rfl))).mono ?_
  rintro e v8 ⟨rfl, rfl⟩
  rw [hA2]
  go_wp2_with fail
  refine (may_any _ sb A _ HW.out.st HOK2.out ⟨#[119]⟩ ⟨#[114]⟩ (of_decide_eq_true (by kernel_rfl))).mono ?_
  rintro e v9 ⟨rfl, hb⟩
  rw [yA1]
  have HW := Lib.hid (HW.out.call hb)
  clear hb
  go_wp2_with fail
  refine (may_any _ sb A _ HW.out.st HOK2.out ⟨#[117]⟩ ⟨#[114]⟩ (of_decide_eq_true (by kernel_rfl))).mono ?_
  rintro e v10 ⟨rfl, hb⟩
  rw [yA2]
  have HW := Lib.hid (HW.out.call hb)
  clear hb
  go_wp2_with fail
  refine (next_any _ sb A _ HW.out.st HOK2.out ⟨#[117]⟩ (of_decide_eq_true (by kernel_rfl)) 1 (by omega) (by omega)).mono ?_
  rintro e v11 ⟨rfl, hb⟩
  rw [xA1]
  have HW := Lib.hid (HW.out.call hb)
  clear hb
  go_wp2_with fail
  refine (next_any _ sb A _ HW.out.st HOK2.out ⟨#[117]⟩ (of_decide_eq_true (by kernel_rfl)) 9 (by omega) (by omega)).mono ?_
  rintro e v12 ⟨rfl, hb⟩
  rw [xA2]
  have HW := Lib.hid (HW.out.call hb)
  clear hb
  go_wp2_with fail
  refine (next_any _ sb A _ HW.out.st HOK2.out ⟨#[120]⟩ (of_decide_eq_true (by kernel_rfl)) 0 (by omega) (by omega)).mono ?_
  rintro e v13 ⟨rfl, hb⟩
  rw [xA3]
  have HW := Lib.hid (HW.out.call hb)
  clear hb
  go_wp2_with fail
  go_ret
  exact ⟨rfl, HW.out.b⟩
end Go.Proofs.Ytahhhhacoigpmaa.SF

namespace Go.Proofs.Ytahhhhacoigpmaa
open Go.RowKit Go.Shelf
/-- A graph of few parts. -/
def SmallG (g : Gr) : Prop := g.gs.length ≤ 50 ∧ g.es.length ≤ 90 ∧ g.rs.length ≤ 320 ∧ g.us.length ≤ 50
def LargeOf (g : Gr) (w : World) (e : Ending) (w' : World) : Prop := ∃ b : Bool, e = .returned (.bool b) ∧ (b = false → SmallG g) ∧ Below w.heap.size w w'
def LgRel (w : World) (g : Gr) (len : Nat) (n i : Value) (wr : World) : Prop :=
  ∃ (k : Nat) (x : Int), k ≤ len ∧ i = .int .i64 k ∧ n = .int .i64 x ∧ Below (w.heap.size + 1) (boxW w g) wr
theorem box_old {w w1 : World} {g : Gr} (hb : Below (w.heap.size + 1) (boxW w g) w1) : Below w.heap.size w w1 :=
  (box_below w g).trans (hb.mono (by omega))
set_option maxRecDepth 100000 in
set_option maxHeartbeats 8000000 in
theorem large_any (w : World) (g : Gr) (hI : InG w g) (hz : SzG g) :
    Calls Try.prog 8 #[.agg #[.slice g.ga g.gs.length g.gc, .slice g.ea g.es.length g.ec, .slice g.ra g.rs.length g.rc, .slice g.ua g.us.length g.uc]] w (LargeOf g w) := by
  have z1 := hz.gs
  have z2 := hz.es
  have z3 := hz.rs
  have z4 := hz.us
  have HI := Lib.hid hI
  have HZ := Lib.hid hz
  clear hI hz
  go_enter Try.func8, Try.ntmps8
  go_wp2_with fail
  go_loopw [3, 4] (fun n i wr => LgRel w g g.gs.length n i wr) (fun _ i _ => g.gs.length - (intOf i).toNat)
  case atStart => exact ⟨0, 0, Nat.zero_le _, rfl, rfl, by rw [← box_size w g]; exact Below.refl _ _⟩
  case round =>
    obtain ⟨k, x, hk, rfl, rfl, hB⟩ := hrel
    obtain ⟨a0, a1, a2, a3⟩ := box_cells hB
    by_cases hlt : k < g.gs.length
    · obtain ⟨b, off, hA, hb, hc⟩ := HI.out.gs.at_ (k := 2) (fun _ => rfl) (by omega) hlt
      have k0 := hc 0 _ rfl
      rw [Nat.add_zero] at k0
      have k1 := hc 1 _ rfl
      rw [← (box_old hB).cell (p := ⟨b, _, none⟩) hb] at k0 k1
      rw [hA] at a0
      obtain ⟨hs1, hs2⟩ := HZ.out.gp _ (mem_at hlt)
      clear hc hA
      generalize g.gs[k]! = p at *
      have hk0 : (0 : Int) ≤ (k : Int) := Int.natCast_nonneg _
      have hk1 : (k : Int) < (g.gs.length : Int) := by omega
      go_wp2_with fail
      go_quiet (fail)
      go_wp2_with fail
      go_roundw
      case rel => exact ⟨k + 1, _, hlt, by go_num, rfl, below_draws hB _⟩
      case measure => simp [intOf]; omega
    · obtain rfl : k = g.gs.length := by omega
      go_wp2_with fail
      clear hk a0 a1 a2 a3
      go_loopw [3, 5] (fun n i wr => LgRel w g g.es.length n i wr) (fun _ i _ => g.es.length - (intOf i).toNat)
      case atStart => exact ⟨0, _, Nat.zero_le _, rfl, rfl, hB⟩
      case round =>
        clear hB
        obtain ⟨k, y, hk, rfl, rfl, hB⟩ := hrel
        obtain ⟨a0, a1, a2, a3⟩ := box_cells hB
        by_cases hlt : k < g.es.length
        · obtain ⟨b, off, hA, hb, hc⟩ := HI.out.es.at_ (k := 6) (fun _ => rfl) (by omega) hlt
          have k0 := hc 0 _ rfl
          rw [Nat.add_zero] at k0
          have k1 := hc 1 _ rfl
          have k2 := hc 2 _ rfl
          have k3 := hc 3 _ rfl
          have k4 := hc 4 _ rfl
          have k5 := hc 5 _ rfl
          rw [← (box_old hB).cell (p := ⟨b, _, none⟩) hb] at k0 k1 k2 k3 k4 k5
          rw [hA] at a1
          obtain ⟨hs1, hs2, hs3, _⟩ := HZ.out.ev _ (mem_at hlt)
          clear hc hA
          generalize g.es[k]! = p at *
          have hk0 : (0 : Int) ≤ (k : Int) := Int.natCast_nonneg _
          have hk1 : (k : Int) < (g.es.length : Int) := by omega
          go_wp2_with fail
          go_quiet (fail)
          go_wp2_with fail
          go_roundw
          case rel => exact ⟨k + 1, _, hlt, by go_num, rfl, below_draws hB _⟩
          case measure => simp [intOf]; omega
        · obtain rfl : k = g.es.length := by omega
          go_wp2_with fail
          clear hk a0 a1 a2 a3
          go_loopw [3, 6] (fun n i wr => LgRel w g g.rs.length n i wr) (fun _ i _ => g.rs.length - (intOf i).toNat)
          case atStart => exact ⟨0, _, Nat.zero_le _, rfl, rfl, hB⟩
          case round =>
            clear hB
            obtain ⟨k, y, hk, rfl, rfl, hB⟩ := hrel
            obtain ⟨a0, a1, a2, a3⟩ := box_cells hB
            by_cases hlt : k < g.rs.length
            · obtain ⟨b, off, hA, hb, hc⟩ := HI.out.rs.at_ (k := 4) (fun _ => rfl) (by omega) hlt
              have k0 := hc 0 _ rfl
              rw [Nat.add_zero] at k0
              have k1 := hc 1 _ rfl
              have k2 := hc 2 _ rfl
              have k3 := hc 3 _ rfl
              rw [← (box_old hB).cell (p := ⟨b, _, none⟩) hb] at k0 k1 k2 k3
              rw [hA] at a2
              obtain ⟨hs1, hs2, _⟩ := HZ.out.rl _ (mem_at hlt)
              clear hc hA
              generalize g.rs[k]! = p at *
              have hk0 : (0 : Int) ≤ (k : Int) := Int.natCast_nonneg _
              have hk1 : (k : Int) < (g.rs.length : Int) := by omega
              go_wp2_with fail
              go_quiet (fail)
              go_wp2_with fail
              go_roundw
              case rel => exact ⟨k + 1, _, hlt, by go_num, rfl, below_draws hB _⟩
              case measure => simp [intOf]; omega
            · obtain rfl : k = g.rs.length := by omega
              go_wp2_with fail
              clear hk a0 a1 a2 a3
              go_loopw [3, 7] (fun n i wr => LgRel w g g.us.length n i wr) (fun _ i _ => g.us.length - (intOf i).toNat)
              case atStart => exact ⟨0, _, Nat.zero_le _, rfl, rfl, hB⟩
              case round =>
                clear hB
                obtain ⟨k, y, hk, rfl, rfl, hB⟩ := hrel
                obtain ⟨a0, a1, a2, a3⟩ := box_cells hB
                by_cases hlt : k < g.us.length
                · obtain ⟨b, off, hA, hb, hc⟩ := HI.out.us.at_ (k := 3) (fun _ => rfl) (by omega) hlt
                  have k0 := hc 0 _ rfl
                  rw [Nat.add_zero] at k0
                  have k1 := hc 1 _ rfl
                  have k2 := hc 2 _ rfl
                  rw [← (box_old hB).cell (p := ⟨b, _, none⟩) hb] at k0 k1 k2
                  rw [hA] at a3
                  obtain ⟨hs1, hs2, hs3, hs4⟩ := HZ.out.ur _ (mem_at hlt)
                  have HA := Lib.hid hA
                  have HC := Lib.hid hc
                  have HR := Lib.hid (HI.out.roles _ (mem_at hlt))
                  clear hc hA
                  generalize g.us[k]! = p at *
                  have hk0 : (0 : Int) ≤ (k : Int) := Int.natCast_nonneg _
                  have hk1 : (k : Int) < (g.us.length : Int) := by omega
                  go_wp2_with fail
                  go_quiet (fail)
                  go_wp2_with fail
                  obtain ⟨wo, rfl⟩ : ∃ wo : World, wo = wr := ⟨_, rfl⟩
                  clear k0 k1 k2 a0 a1 a2 a3
                  go_loopw [3, 8] (fun n i wr => LgRel w g p.roles.length n i wr) (fun _ i _ => p.roles.length - (intOf i).toNat)
                  case atStart => exact ⟨0, _, Nat.zero_le _, rfl, rfl, below_draws hB _⟩
                  case round =>
                    clear hB
                    obtain ⟨j, z, hj, rfl, rfl, hB⟩ := hrel
                    obtain ⟨a0, a1, a2, a3⟩ := box_cells hB
                    have k1 := HC.out 1 _ rfl
                    rw [← (box_old hB).cell (p := ⟨b, _, none⟩) hb] at k1
                    rw [HA.out] at a3
                    by_cases hjt : j < p.roles.length
                    · obtain ⟨b', off', hA', hb', hc'⟩ := HR.out.str_at hjt
                      rw [← (box_old hB).cell (p := ⟨b', _, none⟩) hb'] at hc'
                      rw [hA'] at k1
                      have hss := hs4 _ (mem_at hjt)
                      clear hA'
                      generalize p.roles[j]! = q at *
                      have hj0 : (0 : Int) ≤ (j : Int) := Int.natCast_nonneg _
                      have hj1 : (j : Int) < (p.roles.length : Int) := by omega
                      go_wp2_with fail
                      go_roundw
                      case rel => exact ⟨j + 1, _, hjt, by go_num, rfl, hB⟩
                      case measure => simp [intOf]; omega
                    · obtain rfl : j = p.roles.length := by omega
                      go_wp2_with fail
                      go_roundw
                      case rel => exact ⟨k + 1, _, hlt, by go_num, rfl, hB⟩
                      case measure => simp [intOf]; omega
                · obtain rfl : k = g.us.length := by omega
                  clear hk
                  by_cases e0 : 10000 < y
                  · go_wp2_with fail
                    go_ret
                    exact ⟨true, rfl, (fun h => by cases h), box_old hB⟩
                  go_wp2_with fail
                  all_goals
                    go_ret
                    first
                      | exact ⟨true, rfl, (fun h => by cases h), box_old hB⟩
                      | (refine ⟨_, rfl, (fun h => ?_), box_old hB⟩; simp only [Bool.or_eq_false_iff, decide_eq_false_iff_not, Int.not_lt] at h; exact ⟨by omega, by omega, by omega, by omega⟩)
end Go.Proofs.Ytahhhhacoigpmaa
