/-
  Contract of the iterator flat.told$1. (made by wip/tools/gen_told.py)
-/
import Derived.Test.YtplplkchibefjaaFlC
namespace Go.Proofs.Ytplplkchibefjaa
open Go.RowKit Go.Shelf
attribute [local go_sem] Oper.semAt_some

theorem arr39 {t : Array Value} (h : t.size = 39) : ∃ x0 x1 x2 x3 x4 x5 x6 x7 x8 x9 x10 x11 x12 x13 x14 x15 x16 x17 x18 x19 x20 x21 x22 x23 x24 x25 x26 x27 x28 x29 x30 x31 x32 x33 x34 x35 x36 x37 x38, t = #[x0, x1, x2, x3, x4, x5, x6, x7, x8, x9, x10, x11, x12, x13, x14, x15, x16, x17, x18, x19, x20, x21, x22, x23, x24, x25, x26, x27, x28, x29, x30, x31, x32, x33, x34, x35, x36, x37, x38] := by
  obtain ⟨l⟩ := t
  match l, h with
  | x0 :: x1 :: x2 :: x3 :: x4 :: x5 :: x6 :: x7 :: x8 :: x9 :: x10 :: x11 :: x12 :: x13 :: x14 :: x15 :: x16 :: x17 :: x18 :: x19 :: x20 :: x21 :: x22 :: x23 :: x24 :: x25 :: x26 :: x27 :: x28 :: x29 :: x30 :: x31 :: x32 :: x33 :: x34 :: x35 :: x36 :: x37 :: x38 :: [], _ => exact ⟨x0, x1, x2, x3, x4, x5, x6, x7, x8, x9, x10, x11, x12, x13, x14, x15, x16, x17, x18, x19, x20, x21, x22, x23, x24, x25, x26, x27, x28, x29, x30, x31, x32, x33, x34, x35, x36, x37, x38, rfl⟩
/-- The marks of loops that have ended. -/
def mks (ds : List Nat) : List Deferred := ds.map fun D => { target := .collected D, args := #[] }
theorem leave_marks {β : Type} {n : Nat} {P : Program} {fn : Func} {tmps : Array Value} {R : Ending → World → Prop} {B : Nat} {J : β → World → Prop} (hJ : OwnFrom B J) (s : β) (hr : ∀ W, J s W → ∃ v, (results fn tmps).run P W = .ok v W ∧ R (.returned v) W) :
    ∀ (ds : List Nat) (W : World), ds.Nodup → (∀ D ∈ ds, B ≤ D ∧ W.heap[D]? = some (.deferred (some []))) → J s W → LeavesInM Fence.wide n P fn tmps R (mks ds) .returning W
  | [], W, _, _, h => hr W h
  | D :: ds, W, hn, hd, h => by
    obtain ⟨h1, h2⟩ := List.nodup_cons.1 hn
    obtain ⟨d1, d2⟩ := hd D (List.mem_cons_self ..)
    refine ⟨by simp, .inl ⟨D, _, rfl, run_takeDeferred d2, leave_marks hJ s hr ds _ h2 (fun D' h' => ?_) (hJ.putObj _ h d1 d2 rfl)⟩⟩
    obtain ⟨e1, e2⟩ := hd D' (List.mem_cons_of_mem _ h')
    exact ⟨e1, (World.putObj_heap_other (fun e => h1 (by rw [← e]; exact h'))).trans e2⟩

/-- The ties that a relation tells, in turn. -/
def told1 (g : Gr) (r : Rl) : List Ti := (prs (memL g r.src) (memL g r.dst)).map fun x => ⟨r.kind, (x.1 : Nat), (x.2 : Nat), r.time⟩
def toldL (g : Gr) (k : Nat) : List Ti := (g.rs.take k).flatMap (told1 g)
theorem toldL_succ {g : Gr} {k : Nat} (h : k < g.rs.length) : toldL g (k + 1) = toldL g k ++ told1 g g.rs[k]! := by
  rw [toldL, List.take_succ_eq_append_getElem h, List.flatMap_append, getElem!_pos g.rs k h]; simp [toldL]
theorem toldL_pre {g : Gr} {k : Nat} (hk : k < g.rs.length) {q : List Ti} (h : q <+: told1 g g.rs[k]!) : (toldL g k ++ q) <+: toldL g g.rs.length := by
  have h1 : toldL g g.rs.length = toldL g (k + 1) ++ (g.rs.drop (k + 1)).flatMap (told1 g) := by
    rw [toldL, toldL, ← List.flatMap_append, List.take_append_drop, List.take_length]
  obtain ⟨r, hr⟩ := h
  rw [h1, toldL_succ hk, ← hr]
  exact ⟨r ++ (g.rs.drop (k + 1)).flatMap (told1 g), by simp [List.append_assoc]⟩
theorem memL_len (g : Gr) (s : ByteArray) : (memL g s).length ≤ g.es.length + 1 := by
  rw [memL]
  by_cases h : mayL g = true
  · rw [if_pos h]
    by_cases h2 : 0 ≤ idxB (named Ev.name s) g.es
    · rw [if_pos h2]; simp
    · rw [if_neg h2]; have := filL_le g s.toList g.es.length; omega
  · rw [if_neg h]; simp

/-- The frame of told$1 at the head of its loop. -/
structure TF (yb mb : Nat) (g : Gr) (k : Nat) (ds : List Nat) (a : Act) : Prop where
  z : a.tmps.size = 39
  s2 : a.tmps.getD 2 undef = .pointer (some ⟨yb, 0, none⟩)
  s3 : a.tmps.getD 3 undef = .map (some mb)
  s11 : a.tmps.getD 11 undef = .slice g.ra g.rs.length g.rc
  s12 : a.tmps.getD 12 undef = .int .i64 g.rs.length
  s13 : a.tmps.getD 13 undef = .int .i64 k
  d : a.defers = mks ds
/-- .. in a round of its inner loop. -/
structure TB (yb rb : Nat) (x : Nat × Nat) (a : Act) : Prop where
  z : a.tmps.size = 39
  s2 : a.tmps.getD 2 undef = .pointer (some ⟨yb, 0, none⟩)
  s5 : a.tmps.getD 5 undef = .pointer (some ⟨rb, 0, none⟩)
  s6 : a.tmps.getD 6 undef = .int .i64 (x.1 : Nat)
  s7 : a.tmps.getD 7 undef = .int .i64 (x.2 : Nat)
  d : a.defers = []
/-- Between two rounds. -/
structure TI (g : Gr) (Bl Bm B : Nat) (w1 : World) (J : List Ti → World → Prop) (k : Nat) (ds : List Nat) (wr : World) : Prop where
  j : J (toldL g k) wr
  k : Kq Bl Bm w1.heap.size w1 wr
  d : ∀ D ∈ ds, B ≤ D ∧ wr.heap[D]? = some (.deferred (some []))
  n : ds.Nodup
/-- What told$1 finds once it has the names' map. -/
structure TM (g : Gr) (Bl Bm yb mb lp : Nat) (w1 : World) : Prop where
  ok : RowOk Bl Bm w1
  y : w1.heap[yb]? = some (.cells #[.func (.yield lp) #[] #[]] 103 (0, 0))
  py : Prot Bl Bm w1 yb
  pm : Prot Bl Bm w1 mb
  m : ∃ n f, MapV w1 Try.prog 9 nilS mb n f ∧ ∀ r ∈ g.rs, (∃ A c, f (litS r.src) = some (.slice A (memL g r.src).length c) ∧ RowP Bl Bm w1.heap.size w1 A (memL g r.src)) ∧ ∃ A c, f (litS r.dst) = some (.slice A (memL g r.dst).length c) ∧ RowP Bl Bm w1.heap.size w1 A (memL g r.dst)
  r : ∀ k, k < g.rs.length → ∃ b off, g.ra = some ⟨b, off, none⟩ ∧ b < w1.heap.size ∧ Prot Bl Bm w1 b ∧ w1.cell? ⟨b, off + k * 4, none⟩ = some (.int .i64 g.rs[k]!.kind) ∧ w1.cell? ⟨b, off + k * 4 + 1, none⟩ = some (.string g.rs[k]!.src) ∧ w1.cell? ⟨b, off + k * 4 + 2, none⟩ = some (.string g.rs[k]!.dst) ∧ w1.cell? ⟨b, off + k * 4 + 3, none⟩ = some (.int .i64 g.rs[k]!.time)
theorem rowP_of {Bl Bm B : Nat} {A W : World} {v : Value} {a : Option Addr} {c : Nat} {l : List Nat} (h : RowOk Bl Bm A) (hb : Below A.heap.size A W) (hB : A.heap.size ≤ B) (ho : W.ownsRow B 3 1 v l.length (intC l)) (hv : v = .slice a l.length c) : RowP Bl Bm W.heap.size W a l := by
  intro hl
  rcases ho.2 with ⟨e, h0⟩ | ⟨g, cap, cur, e, hg, hh, _⟩
  · exact absurd (List.eq_nil_of_length_eq_zero h0) hl
  · rw [hv] at e
    injection e with e1 e2 e3
    refine ⟨g, e1, (Array.getElem?_eq_some_iff.1 hh).1, Prot.new h hb (by omega) hh rfl, fun j hj => ?_⟩
    subst hv e1
    have h1 := ho.cellAt j (by omega)
    rw [intC, List.getElem?_map, List.getElem?_eq_getElem hj, ← getElem!_pos l j hj] at h1
    exact h1
theorem litS_inj {a b : ByteArray} (h : litS a = litS b) : a = b := by
  have h1 : a.toList = b.toList := by rw [← litS_eq]; exact h
  rw [Lib.toList_data, Lib.toList_data] at h1
  cases a; cases b
  exact congrArg ByteArray.mk (Array.toList_inj.1 h1)
theorem tm_of {g : Gr} {Bl Bm lp : Nat} {W w1 : World} {m : Nat} (hok : RowOk Bl Bm W) (hI : InG W g) (hgr : ∀ b off, g.ra = some ⟨b, off, none⟩ → g.rs ≠ [] → Prot Bl Bm W b)
    (h : MB (W.alloc (.cells #[.func (.yield lp) #[] #[]] 103)) g (g.rs.flatMap fun r => [r.src, r.dst]) m w1) : TM g Bl Bm W.heap.size (W.heap.size + 1 + 1) lp w1 := by
  have hz : (W.alloc (.cells #[.func (.yield lp) #[] #[]] 103)).heap.size = W.heap.size + 1 := World.size_alloc _ _
  have ha : Below W.heap.size W (W.alloc (.cells #[.func (.yield lp) #[] #[]] 103)) := (Below.refl _ _).alloc (Nat.le_refl _) _
  have hb := gb_old h.b
  have hab : Below W.heap.size W w1 := ha.trans (hb.mono ha.size)
  have y1 : w1.heap[W.heap.size]? = some (.cells #[.func (.yield lp) #[] #[]] 103 (0, 0)) := (hb.block _ (by omega)).trans (heap_new _ _)
  have oka := hok.below ha
  obtain ⟨f, hf, hv, hn⟩ := h.m
  rw [hz] at hf
  have hmo : ∃ es c, w1.heap[W.heap.size + 1 + 1]? = some (.map es c) := by obtain ⟨D, ⟨es, c, h1, _⟩, _⟩ := hf; exact ⟨es, c, h1⟩
  obtain ⟨es, cl, hmo⟩ := hmo
  refine ⟨hok.below hab, y1, Prot.new hok hab (Nat.le_refl _) y1 rfl, Prot.new hok hab (by omega) hmo rfl, ⟨m, f, hf, fun r hr => ?_⟩, fun k hk => ?_⟩
  · have key : ∀ s, s ∈ (g.rs.flatMap fun r => [r.src, r.dst]) → ∃ A c, f (litS s) = some (.slice A (memL g s).length c) ∧ RowP Bl Bm w1.heap.size w1 A (memL g s) := by
      intro s hs
      have h1 := hn s hs
      cases hq : f (litS s) with
      | none => rw [hq] at h1; cases h1
      | some v =>
        obtain ⟨s', A, c, e, hvv, ho⟩ := hv _ _ hq
        obtain rfl := litS_inj e
        exact ⟨A, c, by rw [hvv], rowP_of oka hb (by omega) ho hvv⟩
    exact ⟨key r.src (List.mem_flatMap.2 ⟨r, hr, by simp⟩), key r.dst (List.mem_flatMap.2 ⟨r, hr, by simp⟩)⟩
  · obtain ⟨b, off, hA, hbl, hc⟩ := hI.rs.at_ (k := 4) (fun _ => rfl) (by omega) hk
    have hp := hgr b off hA (fun e => by rw [e] at hk; simp at hk)
    have c0 := hc 0 _ rfl
    rw [Nat.add_zero] at c0
    refine ⟨b, off, hA, by have := hab.size; omega, hp.of (hab.block Bl hok.l) (hab.block b hbl), ?_, ?_, ?_, ?_⟩
    · exact (hab.cell (p := ⟨b, _, none⟩) hbl).trans c0
    · exact (hab.cell (p := ⟨b, _, none⟩) hbl).trans (hc 1 _ rfl)
    · exact (hab.cell (p := ⟨b, _, none⟩) hbl).trans (hc 2 _ rfl)
    · exact (hab.cell (p := ⟨b, _, none⟩) hbl).trans (hc 3 _ rfl)

theorem round_wide {m m' l0 : Nat} {P : Program} {l : Nat} {f : FuncId} {tmps : Array Value} {assign body : Code} {w : World} {R : Ending → World → Prop} (h : RoundIn Fence.wide m P l f tmps assign body w R) : RoundIn (Fence.wide.inRound l0) m' P l f tmps assign body w R :=
  ⟨trivial, fun c cs _ => h.2 c cs (room_wide _)⟩
theorem ownKq {β : Type} {Bl Bm n : Nat} {A : World} (hA : Bl < A.heap.size) (hB : Bl < n) : OwnFrom n (fun (_ : β) V => Kq Bl Bm n A V) := fun _ X Y row hs hg hr => by
  have hl : ∀ k, k < X.heap.size → (k < n ∨ ∃ o : Obj, X.heap[k]? = some o ∧ o.isCells = true) → Y.heap[k]? = X.heap[k]? := fun k hk hor => by
    refine hg.block k hk (fun e => ?_)
    obtain ⟨h1, o, h2, h3⟩ := hr k e.symm
    rcases hor with h | ⟨o', h4, h5⟩
    · omega
    · rw [h2] at h4; cases h4; rw [h3] at h5; cases h5
  have hBl : Y.heap[Bl]? = X.heap[Bl]? := hl Bl (Nat.lt_of_lt_of_le hA hs.size) (.inl hB)
  refine ⟨Nat.le_trans hs.size hg.size, fun k hk hp => ?_, fun h0 => ?_⟩
  · obtain ⟨e1, p1⟩ := hs.kept k hk hp
    have e2 := hl k p1.lt (.inl hk)
    exact ⟨e2.trans e1, p1.of hBl e2⟩
  · have h1 := hs.ok h0
    refine ⟨Nat.lt_of_lt_of_le h1.l hg.size, Nat.lt_of_lt_of_le h1.m hg.size, fun k hk => ?_⟩
    rw [rowB_same hBl] at hk
    rw [hl k (h1.lt hk) (.inr (h1.r k hk))]
    exact h1.r k hk
theorem RowP.mono {Bl Bm n m : Nat} {W : World} {A : Option Addr} {l : List Nat} (h : RowP Bl Bm n W A l) (hn : n ≤ m) : RowP Bl Bm m W A l := fun hl => by
  obtain ⟨g, e, hg, h1⟩ := h hl; exact ⟨g, e, by omega, h1⟩
/-- The tie that a relation tells of two places. -/
def mkT (p : Rl) (x : Nat × Nat) : Ti := ⟨p.kind, (x.1 : Nat), (x.2 : Nat), p.time⟩
theorem told1_eq (g : Gr) (r : Rl) : told1 g r = (prs (memL g r.src) (memL g r.dst)).map (mkT r) := rfl
/-- What the inner loop finds. -/
structure TD (g : Gr) (Bl Bm yb rb lp : Nat) (p : Rl) (A1 A2 : Option Addr) (q1 q2 : Nat) (V : World) : Prop where
  ok : RowOk Bl Bm V
  y : V.heap[yb]? = some (.cells #[.func (.yield lp) #[] #[]] 103 (0, 0))
  r : V.heap[rb]? = some (.cells #[.int .i64 p.kind, .string p.src, .string p.dst, .int .i64 p.time] 53 (0, 0))
  b1 : V.heap[rb + 1]? = some (.cells #[.slice A1 (memL g p.src).length q1] 54 (0, 0))
  b2 : V.heap[rb + 2]? = some (.cells #[.slice A2 (memL g p.dst).length q2] 54 (0, 0))
  py : Prot Bl Bm V yb
  pr : Prot Bl Bm V rb
  p2 : Prot Bl Bm V (rb + 2)
  r1 : RowP Bl Bm V.heap.size V A1 (memL g p.src)
  r2 : RowP Bl Bm V.heap.size V A2 (memL g p.dst)

set_option maxRecDepth 100000 in
set_option maxHeartbeats 8000000 in
theorem told1_in (n : Nat) (hn : 6 ≤ n) (lp Bg Bl Bm : Nat) (g : Gr) (hz : SzG g) (hF : g.es.length ≤ 80) (J Jx : List Ti → World → Prop) (W : World) (hJ : OwnFrom W.heap.size J) (hJx : OwnFrom W.heap.size Jx)
    (hY : ∀ pre x W1, J pre W1 → (pre ++ [x]) <+: toldL g g.rs.length → YieldAt Fence.wide (n - 1) Try.prog lp #[.agg #[.int .i64 x.kind, .int .i64 x.fr, .int .i64 x.to, .int .i64 x.time]] W1 fun e W' =>
      (e = .returned (.bool true) ∧ J (pre ++ [x]) W' ∧ Kq Bl Bm W1.heap.size W1 W' ∧ KeepsFrom W.heap.size W1 W') ∨ (e = .returned (.bool false) ∧ Jx (pre ++ [x]) W' ∧ KeepsFrom W.heap.size W1 W'))
    (hI : InG W g) (hcap : ∀ u ∈ g.us, u.roles.length ≤ u.rc) (hok : RowOk Bl Bm W) (hgr : ∀ b off, g.ra = some ⟨b, off, none⟩ → g.rs ≠ [] → Prot Bl Bm W b)
    (b0 : W.cell? ⟨Bg, 0, none⟩ = some (.slice g.ga g.gs.length g.gc)) (b1 : W.cell? ⟨Bg, 1, none⟩ = some (.slice g.ea g.es.length g.ec)) (b2 : W.cell? ⟨Bg, 2, none⟩ = some (.slice g.ra g.rs.length g.rc)) (b3 : W.cell? ⟨Bg, 3, none⟩ = some (.slice g.ua g.us.length g.uc)) (h0 : J [] W) :
    CallsIn Fence.wide n Try.prog 82 #[.func (.yield lp) #[] #[], .pointer (some ⟨Bg, 0, none⟩)] W fun e W' => (∃ v, e = .returned v) ∧
      (J (toldL g g.rs.length) W' ∨ (∃ pre : List Ti, pre <+: toldL g g.rs.length ∧ Jx pre W')) := by
  have h1n : 1 ≤ n := by omega
  have hBg := World.block_lt_of_cell? _ _ b0
  have hba : Below W.heap.size W (W.alloc (.cells #[.func (.yield lp) #[] #[]] 103)) := (Below.refl _ _).alloc (Nat.le_refl _) _
  have C := Lib.hid (names_any (W.alloc (.cells #[.func (.yield lp) #[] #[]] 103)) g (hI.below (Nat.le_refl _) hba) hz hcap)
  have HTM := fun w1 m h => Lib.hid (tm_of (w1 := w1) (m := m) (lp := lp) hok hI hgr h)
  have HY := Lib.hid hY
  have HJ := Lib.hid hJ
  have HJX := Lib.hid hJx
  have HZ := Lib.hid hz
  have HBA := Lib.hid hba
  have HB2 := Lib.hid b2
  have hlr := hz.rs
  have hBl := hok.l
  have hBm := hok.m
  have HJA : Hid (J [] (W.alloc (.cells #[.func (.yield lp) #[] #[]] 103))) := Lib.hid (hJ.alloc _ h0)
  clear hI hcap hok hgr hY hJ hJx h0 hba hz
  refine callsIn_of_wp_marks Try.func82 rfl trivial ?_ rfl
  simp only [Try.ntmps82, List.size_toArray, List.length_cons, List.length_nil, Nat.reduceAdd, Nat.reduceSub, Array.replicate_succ, Array.replicate_zero, List.push_toArray, List.append_toArray, List.nil_append, List.cons_append]
  gi_wp2_with fail
  refine ⟨trivial, ?_⟩
  refine (callsIn_wide.2 C.out).mono ?_
  rintro e w1 ⟨rfl, m, hm⟩
  have hbw : Below W.heap.size W w1 := HBA.out.trans ((gb_old hm.b).mono HBA.out.size)
  have c2 : w1.cell? ⟨Bg, 2, none⟩ = some (.slice g.ra g.rs.length g.rc) := (hbw.cell (p := ⟨Bg, 2, none⟩) hBg).trans HB2.out
  have HM := Lib.hid (HTM w1 m hm).out
  have HJ1 : Hid (J [] w1) := Lib.hid (HJ.out _ _ _ none HJA.out ⟨(gb_old hm.b).os, (gb_old hm.b).tape, (gb_old hm.b).output, (gb_old hm.b).size, fun k hk _ => (gb_old hm.b).block k hk⟩ (fun r e => by cases e))
  have hw1 := hbw.size
  clear C b0 b1 b2 b3 HTM HJA hm HB2 HBA
  gi_wp2
  refine wpIn_loop (fun a wr => ∃ k ds, k ≤ g.rs.length ∧ TF W.heap.size (W.heap.size + 1 + 1) g k ds a ∧ TI g Bl Bm W.heap.size w1 J k ds wr) (fun a _ => g.rs.length - (intOf (a.tmps.getD 13 undef)).toNat) ⟨0, [], Nat.zero_le _, ⟨rfl, rfl, rfl, rfl, rfl, rfl, rfl⟩, ⟨HJ1.out, Kq.refl _ _ _ _, (fun D h => by cases h), List.nodup_nil⟩⟩ ?_
  rintro ⟨tm, df⟩ wr ⟨k, ds, hk, hf, ht⟩
  obtain ⟨x0, x1, x2, x3, x4, x5, x6, x7, x8, x9, x10, x11, x12, x13, x14, x15, x16, x17, x18, x19, x20, x21, x22, x23, x24, x25, x26, x27, x28, x29, x30, x31, x32, x33, x34, x35, x36, x37, x38, rfl⟩ := arr39 hf.z
  obtain rfl : x2 = _ := hf.s2
  obtain rfl : x3 = _ := hf.s3
  obtain rfl : x11 = _ := hf.s11
  obtain rfl : x12 = _ := hf.s12
  obtain rfl : x13 = _ := hf.s13
  obtain rfl : df = _ := hf.d
  have HT := Lib.hid ht
  clear hf ht c2
  by_cases hlt : k < g.rs.length
  · obtain ⟨b, off, hA, hb, hp, r0, r1, r2, r3⟩ := HM.out.r k hlt
    rw [← Prot.cell HT.out.k (p := ⟨b, _, none⟩) hb hp] at r0 r1 r2 r3
    have HS := Lib.hid (toldL_succ hlt)
    have HPX : ∀ pre : List (Nat × Nat), pre <+: prs (memL g g.rs[k]!.src) (memL g g.rs[k]!.dst) → Hid ((toldL g k ++ pre.map (mkT g.rs[k]!)) <+: toldL g g.rs.length) := fun pre h => Lib.hid (toldL_pre hlt (by rw [told1_eq]; exact h.map _))
    obtain ⟨hs1, hs2, _⟩ := HZ.out.rl _ (mem_at hlt)
    obtain ⟨mn, f, hf, hm⟩ := HM.out.m
    obtain ⟨⟨A1, q1, e1, p1⟩, A2, q2, e2, p2⟩ := hm g.rs[k]! (mem_at hlt)
    have hk0 : (0 : Int) ≤ (k : Int) := Int.natCast_nonneg _
    have hk1 : (k : Int) < (g.rs.length : Int) := by omega
    have HA := Lib.hid hA
    rw [hA]
    clear hA hm
    rw [told1_eq] at HS
    generalize g.rs[k]! = p at *
    have hrk := HT.out.k.ok HM.out.ok
    have hwk := HT.out.k.size
    have hfc := (hf.block (HT.out.k.kept _ HM.out.pm.lt HM.out.pm).1).below (Nat.le_refl _) ((Below.refl _ wr).alloc (Nat.le_refl _) (.cells #[.int .i64 p.kind, .string p.src, .string p.dst, .int .i64 p.time] 53))
    have l1 := hfc.look lawS Try.underlying121 (Try.zeroValue54 _) (keyS hs1)
    have l2 := hfc.look lawS Try.underlying121 (Try.zeroValue54 _) (keyS hs2)
    rw [e1, Option.getD_some] at l1
    rw [e2, Option.getD_some] at l2
    have hbk : b < wr.heap.size := by omega
    have HRW : Hid (Below wr.heap.size wr (((wr.alloc (.cells #[.int .i64 p.kind, .string p.src, .string p.dst, .int .i64 p.time] 53)).alloc (.cells #[.slice A1 (memL g p.src).length q1] 54)).alloc (.cells #[.slice A2 (memL g p.dst).length q2] 54))) := Lib.hid ((((Below.refl _ _).alloc (Nat.le_refl _) _).alloc (by simp) _).alloc (by simp; omega) _)
    have HTD : Hid (TD g Bl Bm W.heap.size wr.heap.size lp p A1 A2 q1 q2 (((wr.alloc (.cells #[.int .i64 p.kind, .string p.src, .string p.dst, .int .i64 p.time] 53)).alloc (.cells #[.slice A1 (memL g p.src).length q1] 54)).alloc (.cells #[.slice A2 (memL g p.dst).length q2] 54))) := Lib.hid (by
      have hb := HRW.out
      have hl : ∀ k, k < wr.heap.size → (((wr.alloc (.cells #[.int .i64 p.kind, .string p.src, .string p.dst, .int .i64 p.time] 53)).alloc (.cells #[.slice A1 (memL g p.src).length q1] 54)).alloc (.cells #[.slice A2 (memL g p.dst).length q2] 54)).heap[k]? = wr.heap[k]? := fun k hk => hb.block k hk
      have x0 : (((wr.alloc (.cells #[.int .i64 p.kind, .string p.src, .string p.dst, .int .i64 p.time] 53)).alloc (.cells #[.slice A1 (memL g p.src).length q1] 54)).alloc (.cells #[.slice A2 (memL g p.dst).length q2] 54)).heap[wr.heap.size]? = some (.cells #[.int .i64 p.kind, .string p.src, .string p.dst, .int .i64 p.time] 53 (0, 0)) :=
        (Below.heap_alloc _ _ _ (by rw [World.size_alloc, World.size_alloc]; omega)).trans ((Below.heap_alloc _ _ _ (by rw [World.size_alloc]; omega)).trans (heap_new _ _))
      have x1 : (((wr.alloc (.cells #[.int .i64 p.kind, .string p.src, .string p.dst, .int .i64 p.time] 53)).alloc (.cells #[.slice A1 (memL g p.src).length q1] 54)).alloc (.cells #[.slice A2 (memL g p.dst).length q2] 54)).heap[wr.heap.size + 1]? = some (.cells #[.slice A1 (memL g p.src).length q1] 54 (0, 0)) := by
        refine (Below.heap_alloc _ _ _ (by simp)).trans ?_
        have := heap_new (wr.alloc (.cells #[.int .i64 p.kind, .string p.src, .string p.dst, .int .i64 p.time] 53)) (.cells #[.slice A1 (memL g p.src).length q1] 54)
        rw [World.size_alloc] at this; exact this
      have x2 : (((wr.alloc (.cells #[.int .i64 p.kind, .string p.src, .string p.dst, .int .i64 p.time] 53)).alloc (.cells #[.slice A1 (memL g p.src).length q1] 54)).alloc (.cells #[.slice A2 (memL g p.dst).length q2] 54)).heap[wr.heap.size + 2]? = some (.cells #[.slice A2 (memL g p.dst).length q2] 54 (0, 0)) := by
        have := heap_new ((wr.alloc (.cells #[.int .i64 p.kind, .string p.src, .string p.dst, .int .i64 p.time] 53)).alloc (.cells #[.slice A1 (memL g p.src).length q1] 54)) (.cells #[.slice A2 (memL g p.dst).length q2] 54)
        rw [World.size_alloc, World.size_alloc] at this; exact this
      obtain ⟨y1, y2⟩ := HT.out.k.kept _ HM.out.py.lt HM.out.py
      have kq := HT.out.k.trans (Kq.below (n := w1.heap.size) hrk.l hb)
      exact ⟨hrk.below hb, (hl _ y2.lt).trans (y1.trans HM.out.y), x0, x1, x2, y2.of (hl _ hrk.l) (hl _ y2.lt), Prot.new hrk hb (Nat.le_refl _) x0 rfl, Prot.new hrk hb (by omega) x2 rfl, (p1.kq kq).mono kq.size, (p2.kq kq).mono kq.size⟩)
    have HJD : Hid (J (toldL g k) (((wr.alloc (.cells #[.int .i64 p.kind, .string p.src, .string p.dst, .int .i64 p.time] 53)).alloc (.cells #[.slice A1 (memL g p.src).length q1] 54)).alloc (.cells #[.slice A2 (memL g p.dst).length q2] 54))) := Lib.hid (HJ.out.alloc _ (HJ.out.alloc _ (HJ.out.alloc _ HT.out.j)))
    clear hf hfc e1 e2 hs1 hs2 p1 p2
    gi_wp2_with fail
    refine ⟨trivial, ?_⟩
    refine (callsIn_wide.2 (pairs_any A1 A2 _ _ q1 q2 _)).mono ?_
    rintro e w2 ⟨rfl, rfl⟩
    clear l1 l2 r0 r1 r2 r3
    gi_wp2
    obtain ⟨Wd, hWd⟩ : ∃ Wd, Wd = (((wr.alloc (.cells #[.int .i64 p.kind, .string p.src, .string p.dst, .int .i64 p.time] 53)).alloc (.cells #[.slice A1 (memL g p.src).length q1] 54)).alloc (.cells #[.slice A2 (memL g p.dst).length q2] 54)) := ⟨_, rfl⟩
    rw [← hWd] at HTD HRW HJD ⊢
    have hzd : Wd.heap.size = wr.heap.size + 3 := by rw [hWd]; simp
    clear hWd
    have HDD : Hid (∀ D ∈ ds, D < Wd.heap.size ∧ W.heap.size ≤ D ∧ Wd.heap[D]? = some (.deferred (some []))) := Lib.hid (fun D hD => by
      obtain ⟨d1, d2⟩ := HT.out.d D hD
      have d3 := (Array.getElem?_eq_some_iff.1 d2).1
      exact ⟨by omega, d1, (HRW.out.block D d3).trans d2⟩)
    have hBd := HTD.out.ok.l
    have hMA := memL_len g p.src
    have hMB := memL_len g p.dst
    refine rf_own (α := Nat × Nat) h1n (gf := 115) (lb := #[.pointer (some ⟨wr.heap.size + 1, 0, none⟩), .pointer (some ⟨wr.heap.size + 1 + 1, 0, none⟩)]) rfl (enters_of Try.func115 (by kernel_rfl) rfl)
      (encs := fun x => #[.int .i64 (x.1 : Nat), .int .i64 (x.2 : Nat)]) (Kp := Kq Bl Bm Wd.heap.size) (L := prs (memL g p.src) (memL g p.dst)) (w0 := Wd)
      ?seq Kq.trans ?kb (Below.refl _ _) (fun _ => rfl)
      (fun pre V => J (toldL g k ++ pre.map (mkT p)) V ∧ Kq Bl Bm Wd.heap.size Wd V ∧ KeepsFrom W.heap.size Wd V)
      (fun c pre V => c = .ret ∧ Jx (toldL g k ++ pre.map (mkT p)) V ∧ KeepsFrom W.heap.size Wd V)
      ?own ?ownx ?h0 (fun x a' _ => TB W.heap.size wr.heap.size x a') (fun _ _ _ _ _ _ hs _ _ => hs) ?assign ?body ?done ?stop
    case seq =>
      intro lp' J' Jx' V hV hJ' hJx' hY' h0'
      have hkq : Kq Bl Bm Wd.heap.size Wd V := Kq.below hBd hV
      exact pairs1_in (n - 1) (by omega) lp' (wr.heap.size + 1) (wr.heap.size + 1 + 1) Bl Bm Wd.heap.size q1 q2 A1 A2 _ _ (by omega) (by omega) J' Jx' (fun pre x W1 h1 h2 => (hY' pre x W1 h1 h2).mono (fun e W' hr => hr.imp (fun h => ⟨h.1, h.2.1, h.2.2.1⟩) (fun h => ⟨h.1, h.2.1⟩))) V ((hV.block _ (by omega)).trans HTD.out.b1) ((hV.block _ (by omega)).trans HTD.out.b2) (by omega)
        (HTD.out.p2.of (hV.block Bl hBd) (hV.block _ (by omega))) (HTD.out.r1.kq hkq) (HTD.out.r2.kq hkq) h0'
    case kb => exact fun V l o o' h1 h2 => Kq.put h1 (by omega) h2 rfl
    case own => exact OwnFrom.and (fun s A B row hs hg hr => HJ.out _ A B row hs hg (fun r e => ⟨by have := (hr r e).1; omega, (hr r e).2⟩)) (OwnFrom.and (ownKq hBd hBd) (ownFrom_keepsFrom (Nat.le_refl _)))
    case ownx => exact fun c s A B row hs hg hr => ⟨hs.1, HJX.out _ A B row hs.2.1 hg (fun r e => ⟨by have := (hr r e).1; omega, (hr r e).2⟩), ownFrom_keepsFrom (β := Unit) (Nat.le_refl _) () A B row hs.2.2 hg hr⟩
    case h0 => exact ⟨by rw [List.map_nil, List.append_nil]; exact HJD.out, Kq.refl _ _ _ _, KeepsFrom.refl _ _⟩
    case assign =>
      rintro lp' pre x V K hi hK
      gi_wp2
      exact hK _ _ (KeepsFrom.refl _ _) (Kq.refl _ _ _ _) hi ⟨rfl, rfl, rfl, rfl, rfl, rfl⟩
    case body =>
      rintro lp' pre x ⟨tm, df⟩ V ⟨hj, hkq, hkf⟩ hx hlen
      obtain ⟨y0, y1, y2, y3, y4, y5, y6, y7, y8, y9, y10, y11, y12, y13, y14, y15, y16, y17, y18, y19, y20, y21, y22, y23, y24, y25, y26, y27, y28, y29, y30, y31, y32, y33, y34, y35, y36, y37, y38, rfl⟩ := arr39 hx.z
      obtain rfl : y2 = _ := hx.s2
      obtain rfl : y5 = _ := hx.s5
      obtain rfl : y6 = _ := hx.s6
      obtain rfl : y7 = _ := hx.s7
      obtain rfl : df = _ := hx.d
      have cy : V.cell? ⟨W.heap.size, 0, none⟩ = some (.func (.yield lp) #[] #[]) := cell_blk ((hkq.kept _ HTD.out.py.lt HTD.out.py).1.trans HTD.out.y) rfl
      have er := (hkq.kept _ HTD.out.pr.lt HTD.out.pr).1.trans HTD.out.r
      have c0 : V.cell? ⟨wr.heap.size, 0, none⟩ = some (.int .i64 p.kind) := cell_blk er rfl
      have c3 : V.cell? ⟨wr.heap.size, 3, none⟩ = some (.int .i64 p.time) := cell_blk er rfl
      have hlen' : (toldL g k ++ pre.map (mkT p) ++ [mkT p x]) <+: toldL g g.rs.length := by
        have h := (HPX _ hlen).out
        rw [List.map_append, ← List.append_assoc] at h; exact h
      obtain ⟨fn, tmps, assign, body, hy, hR⟩ := HY.out _ (mkT p x) V hj hlen'
      dsimp only [mkT] at hy
      have hR' := Lib.hid (round_wide (m' := n - 1 - 1 - 1) (l0 := lp') hR)
      rw [show toldL g k ++ pre.map (mkT p) ++ [mkT p x] = toldL g k ++ (pre ++ [x]).map (mkT p) by simp] at hR'
      have hVz := hkq.size
      have HKQ := Lib.hid hkq
      have HKF := Lib.hid hkf
      have h1b : 1 ≤ n - 1 - 1 := by omega
      clear hR er hx hj hkq hkf hlen hlen'
      gi_wp2
      refine hR'.out.mono ?_
      rintro e V3 (⟨rfl, hJ3, hk3, hf3⟩ | ⟨rfl, hJx3, hf3⟩)
      · gi_wp2
        exact ⟨keeps_mono hf3 (by omega), hk3.mono hVz, hJ3, HKQ.out.trans (hk3.mono hVz), HKF.out.trans hf3⟩
      · gi_wp2
        exact ⟨keeps_mono hf3 (by omega), rfl, hJx3, HKF.out.trans hf3⟩
    case done =>
      rintro D V hD ⟨hj, hkq, hkf⟩ hK
      have hnew : Hid (TI g Bl Bm W.heap.size w1 J (k + 1) (D :: ds) V) := Lib.hid (by
        refine ⟨by rw [HS.out]; exact hj, (HT.out.k.trans (Kq.below hrk.l HRW.out)).trans (hkq.mono (by omega)), fun D' hD' => ?_, List.nodup_cons.2 ⟨fun h => ?_, HT.out.n⟩⟩
        · rcases List.mem_cons.1 hD' with rfl | h
          · exact ⟨by omega, hK⟩
          · obtain ⟨_, d2, d3⟩ := HDD.out D' h
            exact ⟨d2, hkf.same D' _ d2 d3 rfl⟩
        · have := (HDD.out D h).1; omega)
      clear hj hkq hkf
      gi_wp2
      refine ⟨⟨k + 1, D :: ds, hlt, ⟨rfl, rfl, rfl, by rw [HA.out]; rfl, rfl, ?_, rfl⟩, hnew.out⟩, ?_⟩
      · show Value.int .i64 ((k : Int) + 1) = _; go_num
      · simp [intOf]; omega
    case stop =>
      rintro D c pre V hD hpre ⟨rfl, hjx, hkf⟩ hK
      have HN : Hid ((D :: ds).Nodup ∧ ∀ D' ∈ D :: ds, W.heap.size ≤ D' ∧ V.heap[D']? = some (.deferred (some []))) := Lib.hid (by
        refine ⟨List.nodup_cons.2 ⟨fun h => ?_, HT.out.n⟩, fun D' hD' => ?_⟩
        · have := (HDD.out D h).1; omega
        · rcases List.mem_cons.1 hD' with rfl | h
          · exact ⟨by omega, hK⟩
          · obtain ⟨_, d2, d3⟩ := HDD.out D' h
            exact ⟨d2, hkf.same D' _ d2 d3 rfl⟩)
      gi_wp2
      exact leave_marks HJX.out (toldL g k ++ pre.map (mkT p)) (fun W' h => ⟨_, results_none rfl _ _ _, ⟨_, rfl⟩, .inr ⟨_, (HPX pre hpre).out, h⟩⟩) (D :: ds) V HN.out.1 HN.out.2 hjx
  · obtain rfl : k = g.rs.length := by omega
    gi_wp2
    exact leave_marks HJ.out (toldL g g.rs.length) (fun W' h => ⟨_, results_none rfl _ _ _, ⟨_, rfl⟩, .inl h⟩) ds wr HT.out.n HT.out.d HT.out.j
end Go.Proofs.Ytplplkchibefjaa
