/-
  A clone that is turned in place: what the turning leaves alone.
-/
import Derived.Test.YtoicfhmhnehakaaGrCn
import Derived.Test.YtoicfhmhnehakaaGrRs
import Derived.Test.YtoicfhmhnehakaaGrLg
namespace Go.Proofs.Ytoicfhmhnehakaa
open Go.RowKit Go.Shelf

/-- Only blocks from lo up to hi have turned. -/
structure MU (lo hi : Nat) (W8 W : World) : Prop where
  os : W.os = W8.os
  tape : W.tape = W8.tape
  output : W.output = W8.output
  size : W8.heap.size ≤ W.heap.size
  out : ∀ k, k < W8.heap.size → (k < lo ∨ hi ≤ k) → W.heap[k]? = W8.heap[k]?
theorem MU.refl (lo hi : Nat) (W : World) : MU lo hi W W := ⟨rfl, rfl, rfl, Nat.le_refl _, fun _ _ _ => rfl⟩
theorem MU.store {lo hi b i : Nat} {W8 W : World} (h : MU lo hi W8 W) (h1 : lo ≤ b) (h2 : b < hi) (v : Value) : MU lo hi W8 (W.setCell ⟨b, i, none⟩ v) :=
  ⟨h.os, h.tape, h.output, by simpa [World.setCell] using h.size, fun k hk ho => (Below.heap_setCell _ _ _ _ (by show k ≠ b; omega)).trans (h.out k hk ho)⟩
theorem MU.below {lo hi : Nat} {W8 W w : World} (h : MU lo hi W8 W) (hb : Below w.heap.size w W8) (hl : w.heap.size ≤ lo) : Below w.heap.size w W :=
  ⟨h.os.trans hb.os, h.tape.trans hb.tape, h.output.trans hb.output, Nat.le_trans hb.size h.size, fun k hk => (h.out k (by have := hb.size; omega) (.inl (by omega))).trans (hb.block k hk)⟩
theorem MU.blk {lo hi b : Nat} {W8 W : World} {o : Obj} (h : MU lo hi W8 W) (hb : W8.heap[b]? = some o) (ho : b < lo ∨ hi ≤ b) : W.heap[b]? = some o :=
  (h.out b (Array.getElem?_eq_some_iff.1 hb).1 ho).trans hb
theorem MU.own {lo hi B e z n : Nat} {W8 W : World} {v : Value} {xs : List Value} (h : MU lo hi W8 W) (ho : W8.ownsRow B e z v n xs) (hB : hi ≤ B) : W.ownsRow B e z v n xs := by
  refine ⟨ho.1, ?_⟩
  rcases ho.2 with h0 | ⟨g, cap, cur, h1, h2, h3, h4⟩
  · exact .inl h0
  · exact .inr ⟨g, cap, cur, h1, h2, h.blk h3 (.inr (by omega)), h4⟩
theorem MU.ownG {lo hi B : Nat} {W8 W : World} {g : Gr} (h : MU lo hi W8 W) (ho : OwnG W8 B g) (hB : hi ≤ B) : OwnG W B g :=
  ⟨h.own ho.gs hB, h.own ho.es hB, h.own ho.rs hB, h.own ho.us hB, fun u hu => h.own (ho.ro u hu) hB⟩

/-- The turned clone's lists. -/
structure CL (W : World) (lo : Nat) (c : Gr) (lg : List Gp) (le : List Ev) (lr : List Rl) (t : Nat) : Prop where
  nlg : lg.length = c.gs.length
  nle : le.length = c.es.length
  nlr : lr.length = c.rs.length
  gs : W.ownsRow lo 33 2 (.slice c.ga c.gs.length c.gc) c.gs.length (lg.flatMap gpC)
  es : W.ownsRow lo 35 6 (.slice c.ea c.es.length c.ec) c.es.length (le.flatMap evC)
  rs : W.ownsRow lo 37 4 (.slice c.ra c.rs.length c.rc) c.rs.length (lr.flatMap rlC)
  us : W.ownsRow lo 40 3 (.slice c.ua c.us.length c.uc) c.us.length (c.us.flatMap usC)
  ro : ∀ u ∈ c.us, ∃ l : List ByteArray, l.length = u.roles.length ∧ W.ownsRow lo 9 1 (.slice u.ra u.roles.length u.rc) u.roles.length (l.map Value.string) ∧ ∀ s ∈ l, s.size ≤ 140737488351232 + t
theorem CL.mono {W : World} {lo : Nat} {c : Gr} {lg : List Gp} {le : List Ev} {lr : List Rl} {t t' : Nat} (h : CL W lo c lg le lr t) (ht : t ≤ t') : CL W lo c lg le lr t' :=
  ⟨h.nlg, h.nle, h.nlr, h.gs, h.es, h.rs, h.us, fun u hu => by obtain ⟨l, e1, e2, e3⟩ := h.ro u hu; exact ⟨l, e1, e2, fun s hs => by have := e3 s hs; omega⟩⟩
theorem CL.start {W : World} {lo : Nat} {c : Gr} (h : OwnG W lo c) (hz : SzG c) : CL W lo c c.gs c.es c.rs 0 :=
  ⟨rfl, rfl, rfl, h.gs, h.es, h.rs, h.us, fun u hu => ⟨u.roles, rfl, h.ro u hu, (hz.ur u hu).2.2.2⟩⟩
theorem set_at {α : Type} [Inhabited α] {l : List α} {k j : Nat} {y : α} (h : k < j) : (l.set k y)[j]! = l[j]! := by
  by_cases hjl : j < l.length
  · rw [getElem!_pos _ j (by simpa using hjl), getElem!_pos l j hjl, List.getElem_set_ne (by omega)]
  · rw [getElem!_neg _ j (by simpa using hjl), getElem!_neg l j hjl]
theorem get_some {α : Type} [Inhabited α] {l : List α} {k : Nat} {x : α} (h : l[k]? = some x) : x = l[k]! := by
  obtain ⟨hk, rfl⟩ := List.getElem?_eq_some_iff.1 h
  rw [getElem!_pos l k hk]
theorem CL.setG {W : World} {lo : Nat} {c : Gr} {lg : List Gp} {le : List Ev} {lr : List Rl} {t k gb : Nat} {cur : Array Value} (h : CL W lo c lg le lr t) (hk : k < c.gs.length) (ha : c.ga = some ⟨gb, 0, none⟩) (hg : W.heap[gb]? = some (.cells cur 33 (0, 0))) (s : ByteArray) :
    CL (W.setCell ⟨gb, k * 2, none⟩ (.string s)) lo c (lg.set k ⟨s, lg[k]!.parent⟩) le lr t := by
  have hl := h.nlg
  refine ⟨by simpa using hl, h.nle, h.nlr, ?_, own_set h.es (own_far h.es hg (by decide)) _, own_set h.rs (own_far h.rs hg (by decide)) _, own_set h.us (own_far h.us hg (by decide)) _, fun u hu => ?_⟩
  · have h1 := h.gs
    rw [ha] at h1 ⊢
    have hst := (h1.stored (k * 2 + 0) (.string s)).1
    rw [flat_set gpC 2 (fun _ => rfl) lg k (by omega) 0 (by omega) _ ⟨s, lg[k]!.parent⟩ (fun x hx => by rw [← get_some hx]; rfl)] at hst
    exact hst
  · obtain ⟨l, e1, e2, e3⟩ := h.ro u hu
    exact ⟨l, e1, own_set e2 (own_far e2 hg (by decide)) _, e3⟩
theorem CL.setE {W : World} {lo : Nat} {c : Gr} {lg : List Gp} {le : List Ev} {lr : List Rl} {t k gb : Nat} {cur : Array Value} (h : CL W lo c lg le lr t) (hk : k < c.es.length) (ha : c.ea = some ⟨gb, 0, none⟩) (hg : W.heap[gb]? = some (.cells cur 35 (0, 0))) (i : Int) :
    CL (W.setCell ⟨gb, k * 6 + 5, none⟩ (.int .i64 i)) lo c lg (le.set k { le[k]! with due := i }) lr t := by
  have hl := h.nle
  refine ⟨h.nlg, by simpa using hl, h.nlr, own_set h.gs (own_far h.gs hg (by decide)) _, ?_, own_set h.rs (own_far h.rs hg (by decide)) _, own_set h.us (own_far h.us hg (by decide)) _, fun u hu => ?_⟩
  · have h1 := h.es
    rw [ha] at h1 ⊢
    have hst := (h1.stored (k * 6 + 5) (.int .i64 i)).1
    rw [flat_set evC 6 (fun _ => rfl) le k (by omega) 5 (by omega) _ { le[k]! with due := i } (fun x hx => by rw [← get_some hx]; rfl)] at hst
    exact hst
  · obtain ⟨l, e1, e2, e3⟩ := h.ro u hu
    exact ⟨l, e1, own_set e2 (own_far e2 hg (by decide)) _, e3⟩
theorem CL.setR {W : World} {lo : Nat} {c : Gr} {lg : List Gp} {le : List Ev} {lr : List Rl} {t k gb : Nat} {cur : Array Value} (h : CL W lo c lg le lr t) (hk : k < c.rs.length) (ha : c.ra = some ⟨gb, 0, none⟩) (hg : W.heap[gb]? = some (.cells cur 37 (0, 0))) (i : Int) :
    CL (W.setCell ⟨gb, k * 4 + 3, none⟩ (.int .i64 i)) lo c lg le (lr.set k { lr[k]! with time := i }) t := by
  have hl := h.nlr
  refine ⟨h.nlg, h.nle, by simpa using hl, own_set h.gs (own_far h.gs hg (by decide)) _, own_set h.es (own_far h.es hg (by decide)) _, ?_, own_set h.us (own_far h.us hg (by decide)) _, fun u hu => ?_⟩
  · have h1 := h.rs
    rw [ha] at h1 ⊢
    have hst := (h1.stored (k * 4 + 3) (.int .i64 i)).1
    rw [flat_set rlC 4 (fun _ => rfl) lr k (by omega) 3 (by omega) _ { lr[k]! with time := i } (fun x hx => by rw [← get_some hx]; rfl)] at hst
    exact hst
  · obtain ⟨l, e1, e2, e3⟩ := h.ro u hu
    exact ⟨l, e1, own_set e2 (own_far e2 hg (by decide)) _, e3⟩
theorem CL.setO {W : World} {lo : Nat} {c : Gr} {lg : List Gp} {le : List Ev} {lr : List Rl} {t k gb : Nat} {cur : Array Value} (h : CL W lo c lg le lr t) (hg : W.heap[gb]? = some (.cells cur 9 (0, 0))) (s : ByteArray) (hs : s.size ≤ 140737488351232 + (t + 1)) :
    CL (W.setCell ⟨gb, k, none⟩ (.string s)) lo c lg le lr (t + 1) := by
  refine ⟨h.nlg, h.nle, h.nlr, own_set h.gs (own_far h.gs hg (by decide)) _, own_set h.es (own_far h.es hg (by decide)) _, own_set h.rs (own_far h.rs hg (by decide)) _, own_set h.us (own_far h.us hg (by decide)) _, fun u hu => ?_⟩
  obtain ⟨l, e1, e2, e3⟩ := h.ro u hu
  by_cases hne : (Value.slice u.ra u.roles.length u.rc).ownBlock = some gb
  · have hra : u.ra = some ⟨gb, 0, none⟩ := by
      rcases e2.2 with ⟨hv, _⟩ | ⟨g', cap, cur', hv, _⟩
      · rw [hv] at hne; cases hne
      · rw [hv] at hne
        simp only [Value.ownBlock, Option.some.injEq] at hne
        injection hv with h1 _ _
        rw [h1, hne]
    rw [hra] at e2 ⊢
    have hst := (e2.stored k (.string s)).1
    refine ⟨l.set k s, by simpa using e1, ?_, fun x hx => ?_⟩
    · rw [List.map_set]; exact hst
    · rcases List.mem_or_eq_of_mem_set hx with h1 | h1
      · have := e3 x h1; omega
      · rw [h1]; exact hs
  · exact ⟨l, e1, own_set e2 hne _, fun x hx => by have := e3 x hx; omega⟩
end Go.Proofs.Ytoicfhmhnehakaa
