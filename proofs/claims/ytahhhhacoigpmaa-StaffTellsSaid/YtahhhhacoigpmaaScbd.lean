/-
  Contract of package staff: New.
-/
import Derived.Test.YtahhhhacoigpmaaScah
import Derived.Test.YtahhhhacoigpmaaScbc
namespace Go.Proofs.Ytahhhhacoigpmaa.SF
open Go.RowKit Go.Shelf Go.Proofs.Ytahhhhacoigpmaa.B
/-- Where a name stands among the users. -/
def placeG (g : Gr) (k : Key) : Int := if hasB (uns g) k then (((uns g).idxOf k : Nat) : Int) else -1
theorem firstOf_snoc (ls : List Lit) (x : Lit) (h : x ∉ ls) : firstOf (ls ++ [x]) = fun l => if l = x then some ls.length else firstOf ls l := by
  funext l
  unfold firstOf
  rw [List.findIdx?_append]
  by_cases e : l = x
  · subst e
    rw [if_pos rfl]
    have hn : List.findIdx? (fun y => decide (y = l)) ls = none := List.findIdx?_eq_none_iff.2 (fun y hy => decide_eq_false (fun e => h (by rw [← e]; exact hy)))
    rw [hn]
    simp
  · rw [if_neg e]
    have hx : ¬ x = l := fun e' => e e'.symm
    simp [hx]
/-- A member as New makes it. -/
structure MbO (g : Gr) (B : Nat) (W : World) (i : Nat) (m : Mb) : Prop where
  name : m.name = g.us[i]!.name
  roles : m.roles = g.us[i]!.roles
  sub : m.sub = placeG g g.us[i]!.sub.toList
  away : m.away = false
  row : W.ownsRow B 9 1 (.slice m.ra m.roles.length m.rc) m.roles.length (m.roles.map Value.string)
theorem own_apart {w : World} {B B' e e' z z' n n' : Nat} {v v' : Value} {xs xs' : List Value} (h : w.ownsRow B e z v n xs) (h' : w.ownsRow B' e' z' v' n' xs') (he : e ≠ e') {q : Nat} (hq : v.ownBlock = some q) : v'.ownBlock ≠ some q := by
  intro hq'
  rcases h.2 with ⟨rfl, _⟩ | ⟨g, cap, cur, rfl, _, hg, _⟩
  · cases hq
  · rcases h'.2 with ⟨rfl, _⟩ | ⟨g', cap', cur', rfl, _, hg', _⟩
    · cases hq'
    · simp only [Value.ownBlock, Option.some.injEq] at hq hq'
      subst hq hq'
      rw [hg] at hg'
      injection hg' with hg'
      injection hg' with _ e _
      exact he e
theorem rc_map (l : List ByteArray) : l.flatMap stC = l.map Value.string := by
  induction l with
  | nil => rfl
  | cons x r ih => rw [List.flatMap_cons, List.map_cons, ih]; rfl
set_option maxHeartbeats 400000 in
/-- A look-up of a name among the users. -/
theorem place_us (w : World) (sb pb : Nat) (g : Gr) (v : Value) (hx : w.heap[sb]? = some (.cells #[v, .map (some pb)] 68 (0, 0))) (hm : MapFn w Try.prog 9 3 pb g.us.length (firstOf (g.us.map fun u => litS u.name))) (s : ByteArray) (hs : s.size ≤ 140737488351232) :
    Calls Try.prog 30 #[pt sb, .string s] w fun e w' => e = .returned (.int .i64 (placeG g s.toList)) ∧ w = w' := by
  have c1 := cell_blk (i := 1) hx rfl
  have hl := blk_lt hx
  have h1 := hm.look_ok lawS Try.underlying65 Try.underlying3 (Try.zeroValue3 w) (keyS hs)
  have e := first_nm Us.name g.us s
  rw [e] at h1
  have HP : Hid (hasB (uns g) s.toList = false → placeG g s.toList = -1) := Lib.hid (fun e => by unfold placeG; rw [e]; rfl)
  have HQ : Hid (hasB (uns g) s.toList = true → placeG g s.toList = (((uns g).idxOf s.toList : Nat) : Int)) := Lib.hid (fun e => by unfold placeG; rw [e]; rfl)
  rw [show (g.us.map fun x => x.name.toList) = uns g from rfl] at h1
  clear hx hm e
  generalize placeG g s.toList = p at *
  generalize (uns g).idxOf s.toList = q at *
  cases hh : hasB (uns g) s.toList with
  | true =>
    rw [hh] at h1 HQ HP
    obtain rfl := HQ.out rfl
    clear HQ HP hh
    go_enter Try.func30, Try.ntmps30
    go_wp2_with fail
    go_ret
    exact ⟨rfl, rfl⟩
  | false =>
    rw [hh] at h1 HQ HP
    obtain rfl := HP.out rfl
    clear HQ HP hh
    go_enter Try.func30, Try.ntmps30
    go_wp2_with fail
    go_ret
    exact ⟨rfl, rfl⟩
theorem uns_apart {g : Gr} (h : mayL g = true) {k : Nat} (hk : k < g.us.length) : litS g.us[k]!.name ∉ (g.us.take k).map (fun u => litS u.name) := by
  obtain ⟨_, _, _, _, h4⟩ := may_iff.1 h
  have hu := h4 k hk
  unfold userE at hu
  intro hm
  obtain ⟨u, hu1, hu2⟩ := List.mem_map.1 hm
  obtain ⟨j, hj, rfl⟩ := List.getElem_of_mem hu1
  rw [List.length_take] at hj
  rw [List.getElem_take] at hu2
  have e : g.us[j].name.toList = g.us[k]!.name.toList := by
    rw [Lib.toList_data, Lib.toList_data]
    unfold litS at hu2
    injection hu2
  have ha : aheadB (uns g) g.us[k]!.name.toList k = true := by
    unfold aheadB
    refine decide_eq_true ?_
    have hx : (uns g).idxOf g.us[k]!.name.toList ≤ j := by
      rw [← e]
      rcases Nat.lt_or_ge j ((uns g).idxOf g.us[j].name.toList) with h2 | h2
      · have h3 := List.not_of_lt_findIdx (p := (· == g.us[j].name.toList)) (xs := uns g) h2
        exfalso
        have h4 : (uns g)[j]'(by unfold uns; rw [List.length_map]; omega) = g.us[j].name.toList := by unfold uns; rw [List.getElem_map]
        rw [h4, beq_self_eq_true] at h3
        cases h3
      · exact h2
    omega
  rw [ha, Bool.true_or, if_pos rfl] at hu
  split at hu <;> cases hu
/-- What New hands back. -/
def NewP (g : Gr) (w : World) (e : Ending) (w' : World) : Prop :=
  Below w.heap.size w w' ∧ if (checkL g).2.2 = 0 then ∃ (sb : Nat) (A : SA) (M : List Mb), e = .returned (.tuple #[pt sb, .int .i64 0]) ∧ StI w' sb A M ∧ (∀ b off, A.ma = some ⟨b, off, none⟩ → w.heap.size ≤ b) ∧ M.length = g.us.length ∧ ∀ i, i < M.length → ∃ B, MbO g B w' i M[i]!
    else e = .returned (.tuple #[.pointer none, .int .i64 ((checkL g).2.2 : Int)])
/-- The loops' words: the box of the staff, its map, what lay there. -/
structure NW (g : Gr) (w : World) (sb pb k : Nat) (mv : Value) (W : World) : Prop where
  b : Below w.heap.size w W
  x : W.heap[sb]? = some (.cells #[mv, .map (some pb)] 68 (0, 0))
  m : MapFn W Try.prog 9 3 pb k (firstOf ((g.us.take k).map fun u => litS u.name))
  g : W.heap[w.heap.size]? = some (.cells #[.slice g.ga g.gs.length g.gc, .slice g.ea g.es.length g.ec, .slice g.ra g.rs.length g.rc, .slice g.ua g.us.length g.uc] 27 (0, 0))
  o : pb < sb ∧ w.heap.size < pb
/-- The members so far. -/
def NM (g : Gr) (w : World) (sb pb k : Nat) (W : World) : Prop :=
  ∃ (mv : Value) (M : List Mb), NW g w sb pb g.us.length mv W ∧ M.length = k ∧ W.ownsRow w.heap.size 72 4 mv k (M.flatMap mbC) ∧ ∀ i, i < k → MbO g w.heap.size W i M[i]!
theorem NW.step {g : Gr} {w V w9 : World} {sb pb k : Nat} {mv : Value} (h : NW g w sb pb k mv V) (hk : k < g.us.length) (hap : litS g.us[k]!.name ∉ (g.us.take k).map (fun u => litS u.name)) (hm : MapFn w9 Try.prog 9 3 pb (k + 1) (fun l => if l = litS g.us[k]!.name then some k else firstOf ((g.us.take k).map fun u => litS u.name) l)) (hg : V.grownBy w9 (some pb)) : NW g w sb pb (k + 1) mv w9 := by
  obtain ⟨o1, o2⟩ := h.o
  refine ⟨h.b.grown hg h.b.size (fun q hq => by cases hq; omega), (hg.block sb (blk_lt h.x) (fun e => by cases e; omega)).trans h.x, ?_, (hg.block _ (blk_lt h.g) (fun e => by injection e with e; omega)).trans h.g, h.o⟩
  have e : (g.us.take (k + 1)).map (fun u => litS u.name) = (g.us.take k).map (fun u => litS u.name) ++ [litS g.us[k]!.name] := by
    rw [take_next hk, List.map_append]; rfl
  rw [e, firstOf_snoc _ _ hap]
  rw [show ((g.us.take k).map fun u => litS u.name).length = k by rw [List.length_map, List.length_take]; omega]
  exact hm
theorem NW.below {g : Gr} {w V V' : World} {sb pb k : Nat} {mv : Value} (h : NW g w sb pb k mv V) (hb : Below V.heap.size V V') : NW g w sb pb k mv V' :=
  ⟨h.b.trans (hb.mono h.b.size), (hb.block _ (blk_lt h.x)).trans h.x, h.m.below (Nat.le_refl _) hb, (hb.block _ (blk_lt h.g)).trans h.g, h.o⟩
theorem loop1_step {g : Gr} {w V : World} {sb pb k : Nat} {mv : Value} (hk : k < g.us.length) (hap : litS g.us[k]!.name ∉ (g.us.take k).map (fun u => litS u.name)) (hkk : k ≤ 1000) (hs : g.us[k]!.name.size ≤ 140737488351232) (h : NW g w sb pb k mv V) :
    ∃ w9, (Instr.mapUpdate 65 (.map (some pb)) (.string g.us[k]!.name) (.int .i64 (k : Int))).run Try.prog (V.alloc (.cells #[.string g.us[k]!.name, .slice g.us[k]!.ra g.us[k]!.roles.length g.us[k]!.rc, .string g.us[k]!.sub] 52)).drew = .ok () w9 ∧ NW g w sb pb (k + 1) mv w9 := by
  have hb : Below V.heap.size V (V.alloc (.cells #[.string g.us[k]!.name, .slice g.us[k]!.ra g.us[k]!.roles.length g.us[k]!.rc, .string g.us[k]!.sub] 52)).drew := below_draws ((Below.refl _ _).alloc (Nat.le_refl _) _) 1
  have h1 := h.below hb
  obtain ⟨w9, r1, r2, r3⟩ := h1.m.update lawS Try.underlying65 Try.underlying3 (by unfold maxLen; omega) (keyS hs) k (by omega)
  exact ⟨w9, r1, h1.step hk hap r2 r3⟩
theorem info_mb : (Try.prog.info? 72).map (fun i => (i.zero, i.size, i.bytes)) = some (some (.agg #[.string ⟨#[]⟩, .slice none 0 0, .int .i64 0, .bool false]), 4, 56) := by kernel_rfl
theorem get_snoc {α : Type} [Inhabited α] (l : List α) (x : α) {i : Nat} (hi : i < l.length) : (l ++ [x])[i]! = l[i]! := by
  rw [getElem!_pos _ i (by rw [List.length_append]; omega), getElem!_pos l i hi, List.getElem_append_left hi]
theorem get_end {α : Type} [Inhabited α] (l : List α) (x : α) : (l ++ [x])[l.length]! = x := by
  rw [getElem!_pos _ _ (by rw [List.length_append, List.length_singleton]; omega), List.getElem_append_right (Nat.le_refl _)]; simp
theorem NM.step {g : Gr} {w wr w2 w3 : World} {sb pb k : Nat} {ma va : Option Addr} {mc vc B2 : Nat} {M : List Mb} {v' : Value} {tmp : Obj} (h : NW g w sb pb g.us.length (.slice ma k mc) wr) (hl : M.length = k)
    (hrow : wr.ownsRow w.heap.size 72 4 (.slice ma k mc) k (M.flatMap mbC)) (hmb : ∀ i, i < k → MbO g w.heap.size wr i M[i]!) (hb2 : Below wr.heap.size wr w2) (hB2 : w.heap.size ≤ B2)
    (hv : w2.ownsRow B2 9 1 (.slice va g.us[k]!.roles.length vc) g.us[k]!.roles.length (g.us[k]!.roles.map Value.string))
    (hown' : w3.ownsRow w.heap.size 72 4 v' (k + 1) (M.flatMap mbC ++ [.string g.us[k]!.name, .slice va g.us[k]!.roles.length vc, .int .i64 (placeG g g.us[k]!.sub.toList), .bool false]))
    (hgrow : (w2.alloc tmp).grownBy w3 (Value.slice ma k mc).ownBlock) : NM g w sb pb (k + 1) (w3.setCell ⟨sb, 0, none⟩ v') := by
  subst hl
  have h2 := h.below hb2
  have hr2 := own_below hrow hb2
  have hz : (w2.alloc tmp).heap.size = w2.heap.size + 1 := World.size_alloc _ _
  have hblk : ∀ q, q < w2.heap.size → (∀ r, (Value.slice ma M.length mc).ownBlock = some r → q ≠ r) → w3.heap[q]? = w2.heap[q]? := fun q hq hne =>
    (hgrow.block q (by rw [hz]; omega) (fun e => hne q e.symm rfl)).trans (Below.heap_alloc w2 tmp q hq)
  have hsn : ∀ r, (Value.slice ma M.length mc).ownBlock = some r → sb ≠ r := fun r hr e => own_far hr2 h2.x (by decide) (by rw [hr, e])
  have hgn : ∀ r, (Value.slice ma M.length mc).ownBlock = some r → w.heap.size ≠ r := fun r hr e => own_far hr2 h2.g (by decide) (by rw [hr, e])
  have hpn : ∀ r, (Value.slice ma M.length mc).ownBlock = some r → pb ≠ r := fun r hr e => by
    obtain ⟨D, ⟨es, c, hm, _⟩, _⟩ := h2.m
    rcases hr2.2 with ⟨hv, _⟩ | ⟨g', cap, cur, hv, _, hh, _⟩
    · rw [hv] at hr; cases hr
    · rw [hv] at hr
      simp only [Value.ownBlock, Option.some.injEq] at hr
      subst hr e
      rw [hm] at hh; cases hh
  obtain ⟨o1, o2⟩ := h.o
  have hx3 := (hblk sb (blk_lt h2.x) hsn).trans h2.x
  have hb3 : Below w.heap.size w w3 := by
    have hba := h2.b.alloc h2.b.size tmp
    exact hba.grown hgrow hba.size (fun q hq => (hr2.lt q hq).1)
  have hstr : ∀ {B n : Nat} {v : Value} {xs : List Value}, w2.ownsRow B 9 1 v n xs → (w3.setCell ⟨sb, 0, none⟩ v').ownsRow B 9 1 v n xs := fun ho => own_keep ho (fun q hq => by
    have hlt := (ho.lt q hq).2
    have h1 := hblk q hlt (fun r hr e => own_apart ho hr2 (by decide) hq (by rw [hr, e]))
    refine (blk_other (fun e => ?_)).trans h1
    subst e
    exact own_far ho h2.x (by decide) hq)
  refine ⟨v', M ++ [⟨g.us[M.length]!.name, va, vc, g.us[M.length]!.roles, placeG g g.us[M.length]!.sub.toList, false⟩], ⟨hb3.setCell (p := ⟨sb, 0, none⟩) (show w.heap.size ≤ sb by omega) _, ?_, ?_, ?_, h.o⟩, by rw [List.length_append, List.length_singleton], ?_, ?_⟩
  · have h9 := blk_set (i := 0) (v := v') hx3
    exact h9
  · refine h2.m.block ((blk_other (by omega)).trans (hblk pb h2.m.lt hpn))
  · exact (blk_other (by omega)).trans ((hblk _ (blk_lt h2.g) hgn).trans h2.g)
  · have e : (M ++ [(⟨g.us[M.length]!.name, va, vc, g.us[M.length]!.roles, placeG g g.us[M.length]!.sub.toList, false⟩ : Mb)]).flatMap mbC = M.flatMap mbC ++ [.string g.us[M.length]!.name, .slice va g.us[M.length]!.roles.length vc, .int .i64 (placeG g g.us[M.length]!.sub.toList), .bool false] := by
      rw [List.flatMap_append]; rfl
    rw [e]
    exact own_set hown' (own_far hown' hx3 (by decide)) v'
  · intro i hi
    rcases Nat.lt_or_ge i M.length with hil | hil
    · rw [get_snoc M _ hil]
      have hm := hmb i hil
      exact MbO.mk hm.name hm.roles hm.sub hm.away (hstr (own_below hm.row hb2))
    · obtain rfl : i = M.length := by omega
      rw [get_end]
      exact MbO.mk rfl rfl rfl rfl (own_base (hstr hv) hB2)
set_option maxRecDepth 100000 in
set_option maxHeartbeats 8000000 in
theorem new_any (w : World) (g : Gr) (hI : InG w g) (hz : SzG g) (hcap : ∀ u ∈ g.us, u.roles.length ≤ u.rc) :
    Calls Try.prog 9 #[.agg #[.slice g.ga g.gs.length g.gc, .slice g.ea g.es.length g.ec, .slice g.ra g.rs.length g.rc, .slice g.ua g.us.length g.uc]] w (NewP g w) := by
  have hal := (Below.refl w.heap.size w).alloc (Nat.le_refl _) (.cells #[.slice g.ga g.gs.length g.gc, .slice g.ea g.es.length g.ec, .slice g.ra g.rs.length g.rc, .slice g.ua g.us.length g.uc] 27)
  have CK := Lib.hid (check_any _ g (hI.below (Nat.le_refl _) hal) hz hcap)
  have hx := heap_new w (.cells #[.slice g.ga g.gs.length g.gc, .slice g.ea g.es.length g.ec, .slice g.ra g.rs.length g.rc, .slice g.ua g.us.length g.uc] 27)
  have HX := Lib.hid hx
  have HB := Lib.hid hal
  have HI := Lib.hid hI
  have HZ := Lib.hid hz
  have hzu := hz.us
  have hlx := blk_lt hx
  clear hal hx hI hz hcap
  by_cases hc : (checkL g).2.2 = 0
  case neg =>
    have HE : Hid (∀ w', Below w.heap.size w w' → NewP g w (.returned (.tuple #[.pointer none, .int .i64 ((checkL g).2.2 : Int)])) w') := Lib.hid (fun w' h => ⟨h, by rw [if_neg hc]⟩)
    have hne : (((checkL g).2.2 : Int) != 0) = true := by rw [bne_iff_ne]; omega
    generalize NewP g w = PO at *
    generalize (checkL g).2.2 = cc at *
    generalize (checkL g).1 = c1 at *
    generalize (checkL g).2.1 = c2 at *
    clear hc
    go_enter Try.func9, Try.ntmps9
    go_wp2_with (go_at_call 28; refine CK.out.mono ?_; rintro e w1 ⟨rfl, hb1⟩; have HB1 := Lib.hid (HB.out.trans (hb1.mono HB.out.size)); clear hb1)
    exact HE.out _ (HB1.out.alloc HB1.out.size _)
  case pos =>
    have hm : mayL g = true := by unfold mayL; rw [hc]; rfl
    have HM := Lib.hid hm
    have hfew : g.us.length ≤ 40 := by
      have h0 := (may_iff.1 hm).1
      unfold limitE at h0
      split at h0; · cases h0
      split at h0; · cases h0
      split at h0; · cases h0
      split at h0; · cases h0
      omega
    have HC := Lib.hid hc
    have HE : Hid (∀ (sb : Nat) (A : SA) (M : List Mb) w', Below w.heap.size w w' → StI w' sb A M → (∀ b off, A.ma = some ⟨b, off, none⟩ → w.heap.size ≤ b) → M.length = g.us.length → (∀ i, i < M.length → ∃ B, MbO g B w' i M[i]!) → NewP g w (.returned (.tuple #[pt sb, .int .i64 0])) w') := Lib.hid (fun sb A M w' h1 h2 h3 h4 h5 => ⟨h1, by rw [if_pos hc]; exact ⟨sb, A, M, rfl, h2, h3, h4, h5⟩⟩)
    rw [hc] at CK
    generalize NewP g w = PO at *
    generalize (checkL g).1 = c1 at *
    generalize (checkL g).2.1 = c2 at *
    clear hc hm HC
    obtain ⟨ua, hua⟩ : ∃ ua, g.ua = ua := ⟨_, rfl⟩
    have HUA := Lib.hid hua
    rw [hua] at CK HX HB hlx ⊢
    clear hua
    have hmm := @run_makeMap Try.prog
    go_enter Try.func9, Try.ntmps9
    go_wp2_with (go_at_call 28; refine CK.out.mono ?_; rintro e w1 ⟨rfl, hb1⟩; have hx1 := (hb1.block _ (blk_lt HX.out)).trans HX.out; have HB1 := Lib.hid (HB.out.trans (hb1.mono HB.out.size)); have hzw := hb1.size; rw [World.size_alloc] at hzw; have d3 := cell_blk (i := 3) hx1 rfl; have HX1 := Lib.hid hx1; have hlx1 := blk_lt hx1; have hlx2 : w.heap.size < w1.heap.size + 1 := (by omega); have hlx3 : w.heap.size < w1.heap.size + 1 + 1 := (by omega); clear hb1 hx1 HX HB hlx)
    have H0 : Hid (NW g w (w1.heap.size + 1 + 1) (w1.heap.size + 1) 0 (.slice none 0 0) (((w1.alloc (.cells #[.int .i64 c1, .int .i64 c2] 62)).alloc (.map #[] 0)).alloc (.cells #[.slice none 0 0, .map (some (w1.heap.size + 1))] 68))) := Lib.hid (by
      have hs1 : (w1.alloc (.cells #[.int .i64 c1, .int .i64 c2] 62)).heap.size = w1.heap.size + 1 := World.size_alloc _ _
      have hs2 : ((w1.alloc (.cells #[.int .i64 c1, .int .i64 c2] 62)).alloc (.map #[] 0)).heap.size = w1.heap.size + 1 + 1 := by rw [World.size_alloc, hs1]
      refine ⟨((HB1.out.alloc HB1.out.size _).alloc (by rw [hs1]; omega) _).alloc (by rw [hs2]; omega) _, ?_, ?_, ?_, by omega, by omega⟩
      · have := heap_new ((w1.alloc (.cells #[.int .i64 c1, .int .i64 c2] 62)).alloc (.map #[] 0)) (.cells #[.slice none 0 0, .map (some (w1.heap.size + 1))] 68)
        rw [hs2] at this
        exact this
      · have := MapFn.made (w1.alloc (.cells #[.int .i64 c1, .int .i64 c2] 62)) Try.prog 9 3
        rw [hs1] at this
        exact this.block (Below.heap_alloc _ _ _ (by rw [hs2]; omega))
      · rw [HUA.out]
        exact heap_old (by rw [hs2]; omega) (heap_old (by rw [hs1]; omega) (heap_old (by omega) HX1.out)))
    clear d3 HB1 HX1
    clear hmm
    go_loopw [25] (fun i wr => ∃ k : Nat, k ≤ g.us.length ∧ i = .int .i64 k ∧ Hid (NW g w (w1.heap.size + 1 + 1) (w1.heap.size + 1) k (.slice none 0 0) wr)) (fun i _ => g.us.length - (intOf i).toNat)
    case atStart => exact ⟨0, Nat.zero_le _, rfl, H0⟩
    case round =>
      clear H0
      obtain ⟨k, hk, rfl, HW⟩ := hrel
      by_cases hlt : k < g.us.length
      · obtain ⟨b, off, hA, hb, hcu⟩ := HI.out.us.at_ (k := 3) (fun _ => rfl) (by omega) hlt
        rw [HUA.out] at hA
        subst hA
        have k0 := hcu 0 _ rfl
        have k1 := hcu 1 _ rfl
        have k2 := hcu 2 _ rfl
        rw [Nat.add_zero] at k0
        have hbz := HW.out.b.size
        rw [← HW.out.b.cell (p := ⟨b, _, none⟩) hb] at k0 k1 k2
        have hbl : b < wr.heap.size := by omega
        have hi0 : (0 : Int) ≤ (k : Int) := Int.natCast_nonneg _
        have hi1 : (k : Int) < (g.us.length : Int) := by omega
        obtain ⟨hsn, hss, hsr, _⟩ := HZ.out.ur _ (mem_at hlt)
        have HAP := Lib.hid (uns_apart HM.out hlt)
        have HN := Lib.hid (loop1_step hlt HAP.out (by omega) hsn HW.out)
        have hx0 := cell_blk (i := 1) HW.out.x rfl
        have hxl := blk_lt HW.out.x
        clear hcu
        obtain ⟨w9, hrun, hn9⟩ := HN.out
        have hx1 := (cell_blk (i := 1) (heap_old (o := .cells #[.string g.us[k]!.name, .slice g.us[k]!.ra g.us[k]!.roles.length g.us[k]!.rc, .string g.us[k]!.sub] 52) hxl HW.out.x) rfl)
        have hy0 := cell_blk (i := 0) (heap_new wr (.cells #[.string g.us[k]!.name, .slice g.us[k]!.ra g.us[k]!.roles.length g.us[k]!.rc, .string g.us[k]!.sub] 52)) rfl
        generalize hu : g.us[k]! = u at *
        obtain ⟨V, hV⟩ : ∃ V, V = wr.alloc (.cells #[.string u.name, .slice u.ra u.roles.length u.rc, .string u.sub] 52) := ⟨_, rfl⟩
        have hVz : V.heap.size = wr.heap.size + 1 := by rw [hV, World.size_alloc]
        go_wp2_with fail
        rw [← hV] at hrun hx1 hy0 ⊢
        have hx1' : V.drew.cell? ⟨w1.heap.size + 1 + 1, 1, none⟩ = some (.map (some (w1.heap.size + 1))) := hx1
        have hy0' : V.drew.cell? ⟨wr.heap.size, 0, none⟩ = some (.string u.name) := hy0
        have hl1 : w1.heap.size + 1 + 1 < V.drew.heap.size := by show _ < V.heap.size; omega
        have hl2 : wr.heap.size < V.drew.heap.size := by show _ < V.heap.size; omega
        have HN9 := Lib.hid hn9
        clear hx1 hy0 hV hn9 hx0 HN
        refine wp_region_still_tail 7 mixed (by kernel_rfl) ?_
        simp only [List.take_succ_cons, List.take_zero, List.drop_succ_cons, List.drop_zero]
        iterate 7 still_step
        refine wpStill_nil ?_
        go_wp2_with fail
        go_roundw
        case rel => exact ⟨k + 1, hlt, by go_num, HN9⟩
        case measure => simp [intOf]; omega
      · obtain rfl : k = g.us.length := by omega
        have d3 : wr.cell? ⟨w.heap.size, 3, none⟩ = some (.slice g.ua g.us.length g.uc) := cell_blk (i := 3) HW.out.g rfl
        have dl := blk_lt HW.out.g
        rw [HUA.out] at d3
        go_wp2_with fail
        have H1 : Hid (NM g w (w1.heap.size + 1 + 1) (w1.heap.size + 1) 0 wr) := Lib.hid ⟨.slice none 0 0, [], HW.out, rfl, World.ownsRow_nil _ _ _ _, fun i hi => by omega⟩
        clear HW d3 dl hlt
        obtain ⟨wo, rfl⟩ : ∃ wo, wo = wr := ⟨wr, rfl⟩
        go_loopw [41] (fun i wr => ∃ k : Nat, k ≤ g.us.length ∧ i = .int .i64 k ∧ Hid (NM g w (w1.heap.size + 1 + 1) (w1.heap.size + 1) k wr)) (fun i _ => g.us.length - (intOf i).toNat)
        case atStart => exact ⟨0, Nat.zero_le _, rfl, H1⟩
        case round =>
          clear H1
          obtain ⟨k, hk2, rfl, HW⟩ := hrel
          obtain ⟨mv, M, hN, hl, hrow, hmb⟩ := HW.out
          by_cases hlt : k < g.us.length
          · obtain ⟨ma, mc, rfl⟩ := own_slice hrow
            obtain ⟨b, off, hA, hb, hcu⟩ := HI.out.us.at_ (k := 3) (fun _ => rfl) (by omega) hlt
            rw [HUA.out] at hA
            subst hA
            have k0 := hcu 0 _ rfl
            have k1 := hcu 1 _ rfl
            have k2 := hcu 2 _ rfl
            rw [Nat.add_zero] at k0
            have hbz := hN.b.size
            rw [← hN.b.cell (p := ⟨b, _, none⟩) hb] at k0 k1 k2
            have hbl : b < wr.heap.size := by omega
            have hi0 : (0 : Int) ≤ (k : Int) := Int.natCast_nonneg _
            have hi1 : (k : Int) < (g.us.length : Int) := by omega
            obtain ⟨hsn, hss, hsr, _⟩ := HZ.out.ur _ (mem_at hlt)
            have hxl := blk_lt hN.x
            obtain ⟨V, hV⟩ : ∃ V, V = wr.alloc (.cells #[.string g.us[k]!.name, .slice g.us[k]!.ra g.us[k]!.roles.length g.us[k]!.rc, .string g.us[k]!.sub] 52) := ⟨_, rfl⟩
            have hVz : V.heap.size = wr.heap.size + 1 := by rw [hV, World.size_alloc]
            have hbV : Below wr.heap.size wr V := by rw [hV]; exact (Below.refl _ _).alloc (Nat.le_refl _) _
            have hbVd : Below wr.heap.size wr V.drew := below_draws hbV 1
            have hyV : V.drew.heap[wr.heap.size]? = some (.cells #[.string g.us[k]!.name, .slice g.us[k]!.ra g.us[k]!.roles.length g.us[k]!.rc, .string g.us[k]!.sub] 52 (0, 0)) := by rw [hV]; exact heap_new _ _
            have hNV := hN.below hbVd
            have HRW := Lib.hid (HI.out.roles _ (mem_at hlt))
            have CL := Lib.hid (clone_st g.us[k]!.ra g.us[k]!.rc g.us[k]!.roles V.drew (by rw [rc_map]; exact (HRW.out.below (Nat.le_refl _) hN.b).below (Nat.le_refl _) hbVd) hsr)
            have HST := fun w2 w3 va vc v' tmp (h1 : Below wr.heap.size wr w2) (h2 : w2.ownsRow V.drew.heap.size 9 1 (.slice va g.us[k]!.roles.length vc) g.us[k]!.roles.length (g.us[k]!.roles.map Value.string)) (h3 : w3.ownsRow w.heap.size 72 4 v' (k + 1) (M.flatMap mbC ++ [.string g.us[k]!.name, .slice va g.us[k]!.roles.length vc, .int .i64 (placeG g g.us[k]!.sub.toList), .bool false])) (h4 : (w2.alloc tmp).grownBy w3 (Value.slice ma k mc).ownBlock) => Lib.hid (NM.step hN hl hrow hmb h1 (by show w.heap.size ≤ V.heap.size; omega) h2 h3 h4)
            have HNV := Lib.hid hNV
            have HNN := Lib.hid hN
            have HRO := Lib.hid hrow
            have HBV := Lib.hid hbVd
            have HYV := Lib.hid hyV
            have HSS := Lib.hid hss
            obtain ⟨ii, hii0, hii1, hii2, hii3⟩ := info_parts info_mb
            have HII0 := Lib.hid hii0
            have HII1 := Lib.hid hii1
            have HII2 := Lib.hid hii2
            have HII3 := Lib.hid hii3
            clear hcu hNV hN hrow hmb hbV hbVd hyV hii0 hii1 hii2 hii3 HRW HW hss
            generalize g.us[k]! = u at *
            go_wp2_with fail
            rw [← hV]
            clear hV
            have hd1 : V.drew.heap.size = V.heap.size := rfl
            have S0 : Hid (V.drew.cell? ⟨w1.heap.size + 1 + 1, 0, none⟩ = some (.slice ma k mc) ∧ V.drew.cell? ⟨wr.heap.size, 0, none⟩ = some (.string u.name) ∧ V.drew.cell? ⟨wr.heap.size, 1, none⟩ = some (.slice u.ra u.roles.length u.rc) ∧ V.drew.cell? ⟨wr.heap.size, 2, none⟩ = some (.string u.sub)) := Lib.hid ⟨cell_blk (i := 0) HNV.out.x rfl, cell_blk (i := 0) HYV.out rfl, cell_blk (i := 1) HYV.out rfl, cell_blk (i := 2) HYV.out rfl⟩
            refine wp_region_T (S := fun W => W.cell? ⟨w1.heap.size + 1 + 1, 0, none⟩ = some (.slice ma k mc) ∧ W.cell? ⟨wr.heap.size, 0, none⟩ = some (.string u.name) ∧ W.cell? ⟨wr.heap.size, 1, none⟩ = some (.slice u.ra u.roles.length u.rc) ∧ W.cell? ⟨wr.heap.size, 2, none⟩ = some (.string u.sub)) (z := 19) mixed ?_
            refine anyT_take (i := 0) 0 [] (v := ?_) rfl (by kernel_rfl) (by kernel_rfl) (by kernel_rfl) (by kernel_rfl) (fun _ _ _ h => h) S0.out (by rfl) ?_ ?_
            rotate_left
            · intro W9 hSw
              obtain ⟨q0, q1, q2, q3⟩ := hSw
              go_simp
              try with_reducible rfl
            simp only [Act.put, List.setIfInBounds_toArray]
            try simp only [List.set_cons_zero, List.set_cons_succ]
            try simp only [List.getElem_toArray]
            repeat (first | simp only [List.getElem_cons_zero] | simp only [List.getElem_cons_succ])
            refine anyT_take (i := 1) 1 [] (v := ?_) rfl (by kernel_rfl) (by kernel_rfl) (by kernel_rfl) (by kernel_rfl) (fun _ _ _ h => h) S0.out (by rfl) ?_ ?_
            rotate_left
            · intro W9 hSw
              obtain ⟨q0, q1, q2, q3⟩ := hSw
              go_simp
              try with_reducible rfl
            simp only [Act.put, List.setIfInBounds_toArray]
            try simp only [List.set_cons_zero, List.set_cons_succ]
            try simp only [List.getElem_toArray]
            repeat (first | simp only [List.getElem_cons_zero] | simp only [List.getElem_cons_succ])
            refine anyT_take (i := 2) 2 [] (v := ?_) rfl (by kernel_rfl) (by kernel_rfl) (by kernel_rfl) (by kernel_rfl) (fun _ _ _ h => h) S0.out (by rfl) ?_ ?_
            rotate_left
            · intro W9 hSw
              obtain ⟨q0, q1, q2, q3⟩ := hSw
              go_simp
              try with_reducible rfl
            simp only [Act.put, List.setIfInBounds_toArray]
            try simp only [List.set_cons_zero, List.set_cons_succ]
            try simp only [List.getElem_toArray]
            repeat (first | simp only [List.getElem_cons_zero] | simp only [List.getElem_cons_succ])
            refine anyT_take (i := 3) 3 [] (v := ?_) rfl (by kernel_rfl) (by kernel_rfl) (by kernel_rfl) (by kernel_rfl) (fun _ _ _ h => h) S0.out (by rfl) ?_ ?_
            rotate_left
            · intro W9 hSw
              obtain ⟨q0, q1, q2, q3⟩ := hSw
              go_simp
              try with_reducible rfl
            simp only [Act.put, List.setIfInBounds_toArray]
            try simp only [List.set_cons_zero, List.set_cons_succ]
            try simp only [List.getElem_toArray]
            repeat (first | simp only [List.getElem_cons_zero] | simp only [List.getElem_cons_succ])
            refine anyT_take (i := 4) 4 [] (v := ?_) rfl (by kernel_rfl) (by kernel_rfl) (by kernel_rfl) (by kernel_rfl) (fun _ _ _ h => h) S0.out (by rfl) ?_ ?_
            rotate_left
            · intro W9 hSw
              obtain ⟨q0, q1, q2, q3⟩ := hSw
              go_simp
              try with_reducible rfl
            simp only [Act.put, List.setIfInBounds_toArray]
            try simp only [List.set_cons_zero, List.set_cons_succ]
            try simp only [List.getElem_toArray]
            repeat (first | simp only [List.getElem_cons_zero] | simp only [List.getElem_cons_succ])
            refine anyT_take (i := 5) 5 [] (v := ?_) rfl (by kernel_rfl) (by kernel_rfl) (by kernel_rfl) (by kernel_rfl) (fun _ _ _ h => h) S0.out (by rfl) ?_ ?_
            rotate_left
            · intro W9 hSw
              obtain ⟨q0, q1, q2, q3⟩ := hSw
              go_simp
              try with_reducible rfl
            simp only [Act.put, List.setIfInBounds_toArray]
            try simp only [List.set_cons_zero, List.set_cons_succ]
            try simp only [List.getElem_toArray]
            repeat (first | simp only [List.getElem_cons_zero] | simp only [List.getElem_cons_succ])
            refine anyT_take (i := 6) 6 [] (v := ?_) rfl (by kernel_rfl) (by kernel_rfl) (by kernel_rfl) (by kernel_rfl) (fun _ _ _ h => h) S0.out (by rfl) ?_ ?_
            rotate_left
            · intro W9 hSw
              obtain ⟨q0, q1, q2, q3⟩ := hSw
              go_simp
              try with_reducible rfl
            simp only [Act.put, List.setIfInBounds_toArray]
            try simp only [List.set_cons_zero, List.set_cons_succ]
            try simp only [List.getElem_toArray]
            repeat (first | simp only [List.getElem_cons_zero] | simp only [List.getElem_cons_succ])
            refine anyT_take (i := 7) 7 [] (v := ?_) rfl (by kernel_rfl) (by kernel_rfl) (by kernel_rfl) (by kernel_rfl) (fun _ _ _ h => h) S0.out (by rfl) ?_ ?_
            rotate_left
            · intro W9 hSw
              obtain ⟨q0, q1, q2, q3⟩ := hSw
              go_simp
              try with_reducible rfl
            simp only [Act.put, List.setIfInBounds_toArray]
            try simp only [List.set_cons_zero, List.set_cons_succ]
            try simp only [List.getElem_toArray]
            repeat (first | simp only [List.getElem_cons_zero] | simp only [List.getElem_cons_succ])
            refine anyT_take (i := 8) 8 [] (v := ?_) rfl (by kernel_rfl) (by kernel_rfl) (by kernel_rfl) (by kernel_rfl) (fun _ _ _ h => h) S0.out (by rfl) ?_ ?_
            rotate_left
            · intro W9 hSw
              obtain ⟨q0, q1, q2, q3⟩ := hSw
              go_simp
              try with_reducible rfl
            simp only [Act.put, List.setIfInBounds_toArray]
            try simp only [List.set_cons_zero, List.set_cons_succ]
            try simp only [List.getElem_toArray]
            repeat (first | simp only [List.getElem_cons_zero] | simp only [List.getElem_cons_succ])
            refine anyT_take (i := 10) 10 [] (v := ?_) rfl (by kernel_rfl) (by kernel_rfl) (by kernel_rfl) (by kernel_rfl) (fun _ _ _ h => h) S0.out (by rfl) ?_ ?_
            rotate_left
            · intro W9 hSw
              obtain ⟨q0, q1, q2, q3⟩ := hSw
              go_simp
              try with_reducible rfl
            simp only [Act.put, List.setIfInBounds_toArray]
            try simp only [List.set_cons_zero, List.set_cons_succ]
            try simp only [List.getElem_toArray]
            repeat (first | simp only [List.getElem_cons_zero] | simp only [List.getElem_cons_succ])
            refine anyT_take (i := 11) 11 [] (v := ?_) rfl (by kernel_rfl) (by kernel_rfl) (by kernel_rfl) (by kernel_rfl) (fun _ _ _ h => h) S0.out (by rfl) ?_ ?_
            rotate_left
            · intro W9 hSw
              obtain ⟨q0, q1, q2, q3⟩ := hSw
              go_simp
              try with_reducible rfl
            simp only [Act.put, List.setIfInBounds_toArray]
            try simp only [List.set_cons_zero, List.set_cons_succ]
            try simp only [List.getElem_toArray]
            repeat (first | simp only [List.getElem_cons_zero] | simp only [List.getElem_cons_succ])
            refine anyT_take (i := 12) 12 [] (v := ?_) rfl (by kernel_rfl) (by kernel_rfl) (by kernel_rfl) (by kernel_rfl) (fun _ _ _ h => h) S0.out (by rfl) ?_ ?_
            rotate_left
            · intro W9 hSw
              obtain ⟨q0, q1, q2, q3⟩ := hSw
              go_simp
              try with_reducible rfl
            simp only [Act.put, List.setIfInBounds_toArray]
            try simp only [List.set_cons_zero, List.set_cons_succ]
            try simp only [List.getElem_toArray]
            repeat (first | simp only [List.getElem_cons_zero] | simp only [List.getElem_cons_succ])
            refine anyT_one' (i := 9) (by kernel_rfl) rfl (by rfl) (fun K hK => ?_)
            have HK := Lib.hid hK
            clear hK
            unfold Oper.wp
            go_simp
            refine CL.out.mono ?_
            rintro e w2 ⟨v, rfl, ho, hb2⟩
            rw [rc_map] at ho
            obtain ⟨va, vc, rfl⟩ := own_slice ho
            have HO2 := Lib.hid ho
            have HB2 := Lib.hid (HBV.out.trans (hb2.mono HBV.out.size))
            have HN2 := Lib.hid (HNV.out.below hb2)
            have HY2 := Lib.hid ((hb2.block wr.heap.size (by show wr.heap.size < V.heap.size; omega)).trans HYV.out)
            have hz2 := hb2.size
            have S1 : Hid (w2.cell? ⟨w1.heap.size + 1 + 1, 0, none⟩ = some (.slice ma k mc) ∧ w2.cell? ⟨wr.heap.size, 0, none⟩ = some (.string u.name) ∧ w2.cell? ⟨wr.heap.size, 1, none⟩ = some (.slice u.ra u.roles.length u.rc) ∧ w2.cell? ⟨wr.heap.size, 2, none⟩ = some (.string u.sub)) := Lib.hid (by
              have hy := (hb2.block wr.heap.size (by show wr.heap.size < V.heap.size; omega)).trans HYV.out
              exact ⟨cell_blk (i := 0) HN2.out.x rfl, cell_blk (i := 0) hy rfl, cell_blk (i := 1) hy rfl, cell_blk (i := 2) hy rfl⟩)
            have CP := Lib.hid (place_us w2 (w1.heap.size + 1 + 1) (w1.heap.size + 1) g (.slice ma k mc) HN2.out.x (by have h9 := HN2.out.m; rw [List.take_length] at h9; exact h9) u.sub HSS.out)
            clear ho hb2 CL
            dsimp only
            refine HK.out _ _ (fun _ => S1.out) ?_
            clear HK K
            refine anyT_one' (i := 13) (by kernel_rfl) rfl (by rfl) (fun K hK => ?_)
            have HK := Lib.hid hK
            clear hK
            unfold Oper.wp
            go_simp
            refine CP.out.mono ?_
            rintro e w2' ⟨rfl, hww⟩
            subst hww
            dsimp only
            refine HK.out _ _ (fun _ => S1.out) ?_
            clear HK K CP
            generalize placeG g u.sub.toList = pg at *
            refine anyT_one' (i := 14) (by kernel_rfl) rfl (by rfl) (fun K hK => ?_)
            have HK := Lib.hid hK
            clear hK
            unfold Oper.wp
            go_simp
            refine HK.out _ _ (fun _ => S1.out) ?_
            clear HK K
            refine anyT_one' (i := 15) (by kernel_rfl) rfl (by rfl) (fun K hK => ?_)
            have HK := Lib.hid hK
            clear hK
            unfold Oper.wp
            go_simp
            have hlx2' := blk_lt HN2.out.x
            have hlz2 : wr.heap.size < w2.heap.size := by have : V.heap.size ≤ w2.heap.size := hz2; omega
            refine HK.out _ _ (fun _ => ?_) ?_
            · obtain ⟨q0, q1, q2, q3⟩ := S1.out
              exact ⟨(World.cell?_alloc_lt _ _ ⟨w1.heap.size + 1 + 1, 0, none⟩ hlx2').trans q0, (World.cell?_alloc_lt _ _ ⟨wr.heap.size, 0, none⟩ hlz2).trans q1, (World.cell?_alloc_lt _ _ ⟨wr.heap.size, 1, none⟩ hlz2).trans q2, (World.cell?_alloc_lt _ _ ⟨wr.heap.size, 2, none⟩ hlz2).trans q3⟩
            clear HK K
            refine anyT_one' (i := 16) (by kernel_rfl) rfl (by rfl) (fun K hK => ?_)
            have HK := Lib.hid hK
            clear hK
            refine wp_append_own (.tmp 49) (.tmp 60) 66 rfl w.heap.size 72 ii _ 4 56 Try.underlying66 HII0.out HII1.out HII2.out HII3.out rfl (by omega) _ _ _ rfl ((own_below HRO.out HB2.out).alloc _) ⟨w2.heap.size, 0, none⟩ 1 1 [.string u.name, .slice va u.roles.length vc, .int .i64 pg, .bool false] rfl rfl (fun j x hj => by rw [Addr.add_lit, Nat.zero_add]; exact cell_blk (heap_new w2 _) (by simpa using hj)) (by intro x hx; simp at hx; rcases hx with rfl | rfl | rfl | rfl <;> rfl) (by unfold maxLen; omega) (by omega) (by rw [World.size_alloc]; omega) ?_
            intro v' w3 hown' hgrow
            obtain ⟨pa, pc, rfl⟩ := own_slice hown'
            have HF := HST _ _ va vc _ _ HB2.out HO2.out hown' hgrow
            have hx3 : w3.heap[w1.heap.size + 1 + 1]? = some (.cells #[.slice ma k mc, .map (some (w1.heap.size + 1))] 68 (0, 0)) := (hgrow.block _ (by rw [World.size_alloc]; omega) (fun e => own_far (own_below HRO.out HB2.out) HN2.out.x (by decide) e.symm)).trans ((Below.heap_alloc w2 _ _ hlx2').trans HN2.out.x)
            have hy3 : w3.heap[wr.heap.size]? = some (.cells #[.string u.name, .slice u.ra u.roles.length u.rc, .string u.sub] 52 (0, 0)) := (hgrow.block _ (by rw [World.size_alloc]; omega) (fun e => by have := (HRO.out.lt _ e.symm).2; omega)).trans ((Below.heap_alloc w2 _ _ hlz2).trans HY2.out)
            have c1' := cell_blk (i := 0) hx3 rfl
            have f1' := frozen_blk (i := 0) hx3
            have l1' := blk_lt hx3
            refine HK.out _ _ (fun _ => ⟨c1', cell_blk (i := 0) hy3 rfl, cell_blk (i := 1) hy3 rfl, cell_blk (i := 2) hy3 rfl⟩) ?_
            have S3 : Hid (w3.cell? ⟨w1.heap.size + 1 + 1, 0, none⟩ = some (.slice ma k mc) ∧ w3.cell? ⟨wr.heap.size, 0, none⟩ = some (.string u.name) ∧ w3.cell? ⟨wr.heap.size, 1, none⟩ = some (.slice u.ra u.roles.length u.rc) ∧ w3.cell? ⟨wr.heap.size, 2, none⟩ = some (.string u.sub)) := Lib.hid ⟨c1', cell_blk (i := 0) hy3 rfl, cell_blk (i := 1) hy3 rfl, cell_blk (i := 2) hy3 rfl⟩
            clear HK K hown' hgrow hx3 hy3 HST
            refine anyT_one' (i := 17) (by kernel_rfl) rfl (by rfl) (fun K hK => ?_)
            have HK := Lib.hid hK
            clear hK
            unfold Oper.wp
            go_simp
            refine HK.out _ _ (fun _ => S3.out) ?_
            clear HK K
            refine anyT_one' (i := 18) (by kernel_rfl) rfl (by rfl) (fun K hK => ?_)
            have HK := Lib.hid hK
            clear hK
            unfold Oper.wp
            go_simp
            refine HK.out _ _ (fun _ => S3.out) ?_
            clear HK K
            refine anyT_one' (i := 19) (by kernel_rfl) rfl (by rfl) (fun K hK => ?_)
            have HK := Lib.hid hK
            clear hK
            unfold Oper.wp
            go_simp
            refine HK.out _ _ (fun h => absurd rfl h) ?_
            clear HK K
            refine anyT_done (by kernel_rfl) ?_ _
            go_wp2_with fail
            go_roundw
            case rel => exact ⟨k + 1, hlt, by go_num, HF⟩
            case measure => simp [intOf]; omega
          · obtain rfl : k = g.us.length := by omega
            obtain ⟨ma, mc, rfl⟩ := own_slice hrow
            have hst : StI wr (w1.heap.size + 1 + 1) ⟨ma, mc, w1.heap.size + 1⟩ M := by
              have h9 := hN.m
              rw [List.take_length] at h9
              have hnm : ∀ i, i < M.length → M[i]!.name = g.us[i]!.name := fun i hi => (hmb i (by omega)).name
              refine ⟨by rw [hl]; exact hN.x, ⟨w.heap.size, by rw [hl]; exact hrow⟩, fun m hm => ?_, ?_⟩
              · obtain ⟨i, hi, rfl⟩ := List.getElem_of_mem hm
                have h8 := (hmb i (by omega)).row
                rw [getElem!_pos M i hi] at h8
                exact ⟨_, h8⟩
              · have e : plF M = firstOf (g.us.map fun u => litS u.name) := by
                  unfold plF
                  congr 1
                  refine List.ext_getElem (by simpa using hl) (fun i h1 h2 => ?_)
                  rw [List.getElem_map, List.getElem_map]
                  have h7 := hnm i (by simpa using h1)
                  rw [getElem!_pos M i (by simpa using h1), getElem!_pos g.us i (by simpa using h2)] at h7
                  rw [h7]
                rw [hl, e]
                exact h9
            have HF := Lib.hid (HE.out (w1.heap.size + 1 + 1) ⟨ma, mc, w1.heap.size + 1⟩ M wr hN.b hst (fun b off e => by have h7 := e; simp only at h7; subst h7; exact (hrow.lt b rfl).1) hl (fun i hi => ⟨_, hmb i (by omega)⟩))
            clear hst hN hrow hmb HW
            go_wp2_with fail
            exact HF.out
end Go.Proofs.Ytahhhhacoigpmaa.SF
