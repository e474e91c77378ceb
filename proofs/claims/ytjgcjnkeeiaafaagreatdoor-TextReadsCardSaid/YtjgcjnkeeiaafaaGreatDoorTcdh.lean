/-
  Contract of the document's own Statements of layer 1: the tokens, parted at each sign. The document's Parse: the graph's box, the box of beginnings, and what each append leaves (gen_tuj.py). Plain: what is wrong in a statement lies within it, or right behind.
-/
import Derived.Test.YtjgcjnkeeiaafaaGreatDoorTcce
import Derived.Test.YtjgcjnkeeiaafaaGreatDoorTcdc
import Derived.Test.YtjgcjnkeeiaafaaGreatDoorTcbj
import Derived.Test.YtjgcjnkeeiaafaaGreatDoorTcdg
import Derived.Test.YtjgcjnkeeiaafaaGreatDoorTcad
namespace Go.Proofs.YtjgcjnkeeiaafaaGreatDoor.P3.D
open Go.RowKit Go.Shelf Go.Proofs.YtjgcjnkeeiaafaaGreatDoor Go.Proofs.YtjgcjnkeeiaafaaGreatDoor.P3 Go.Proofs.YtjgcjnkeeiaafaaGreatDoor.P3.C Go.Proofs.YtjgcjnkeeiaafaaGreatDoor.P3.L Go.Proofs.YtjgcjnkeeiaafaaGreatDoor.Lx
def splitK : List Tok → List Tok → List (List Tok) × List Tok
  | [], acc => ([], acc)
  | t :: r, acc => if t.kind = 3 then (acc :: (splitK r []).1, (splitK r []).2) else splitK r (acc ++ [t])
theorem split_len : ∀ (l acc : List Tok), (splitK l acc).1.length ≤ l.length ∧ ∀ s ∈ (splitK l acc).1, s.length ≤ acc.length + l.length
  | [], acc => ⟨Nat.zero_le _, fun _ h => nomatch h⟩
  | t :: r, acc => by
    rw [splitK]
    split
    · obtain ⟨a, b⟩ := split_len r []
      refine ⟨by rw [List.length_cons, List.length_cons]; omega, fun s hs => ?_⟩
      rcases List.mem_cons.1 hs with rfl | hs
      · rw [List.length_cons]; omega
      · have := b s hs; rw [List.length_nil] at this; rw [List.length_cons]; omega
    · obtain ⟨a, b⟩ := split_len r (acc ++ [t])
      refine ⟨by rw [List.length_cons]; omega, fun s hs => ?_⟩
      have := b s hs
      rw [List.length_append, List.length_singleton] at this; rw [List.length_cons]; omega
/-- A statement that is done: its tokens lie below M. -/
def Fin (B0 M : Nat) (W : World) (v : Value) (s : List Tok) : Prop := (∃ a c, v = .slice a s.length c) ∧ W.ownsRow B0 69 4 v s.length (rowC s) ∧ ∀ g, v.ownBlock = some g → g < M
inductive All2 (R : Value → List Tok → Prop) : List Value → List (List Tok) → Prop
  | nil : All2 R [] []
  | snoc {vs ss v s} : All2 R vs ss → R v s → All2 R (vs ++ [v]) (ss ++ [s])
theorem All2.mono {R R' : Value → List Tok → Prop} (h : ∀ v s, R v s → R' v s) {vs : List Value} {ss : List (List Tok)} (x : All2 R vs ss) : All2 R' vs ss := by
  induction x with
  | nil => exact .nil
  | snoc _ hr ih => exact .snoc ih (h _ _ hr)
theorem All2.len {R : Value → List Tok → Prop} {vs : List Value} {ss : List (List Tok)} (x : All2 R vs ss) : vs.length = ss.length := by
  induction x with
  | nil => rfl
  | snoc _ _ ih => rw [List.length_append, List.length_append, ih]; rfl
theorem All2.at_ {R : Value → List Tok → Prop} {vs : List Value} {ss : List (List Tok)} (x : All2 R vs ss) : ∀ (i : Nat) (s : List Tok), ss[i]? = some s → ∃ v, vs[i]? = some v ∧ R v s := by
  induction x with
  | nil => intro i s h; simp at h
  | @snoc vs ss v s hx hr ih =>
    intro i t h
    have hl := hx.len
    rcases Nat.lt_or_ge i ss.length with hi | hi
    · rw [List.getElem?_append_left hi] at h
      obtain ⟨v', h1, h2⟩ := ih i t h
      refine ⟨v', ?_, h2⟩
      rw [List.getElem?_append_left (show i < vs.length by omega)]
      exact h1
    · rw [List.getElem?_append_right hi] at h
      have hi0 : i - ss.length = 0 := by
        rcases Nat.eq_zero_or_pos (i - ss.length) with h0 | h0
        · exact h0
        · rw [List.getElem?_eq_none (by rw [List.length_singleton]; omega)] at h; cases h
      rw [hi0] at h
      obtain rfl : s = t := by simpa using h
      refine ⟨v, ?_, hr⟩
      rw [List.getElem?_append_right (show vs.length ≤ i by omega), hl, hi0]
      rfl
/-- What Statements hands back. -/
def SsP (T : List Tok) (w : World) (e : Ending) (w' : World) : Prop :=
  Below w.heap.size w w' ∧ if (splitK T []).2 = [] then ∃ v vs, e = .returned (.tuple #[v, .int .i64 0, .int .i64 0]) ∧ w'.ownsRow w.heap.size 61 1 v (splitK T []).1.length vs ∧ All2 (Fin w.heap.size w'.heap.size w') vs (splitK T []).1
    else e = .returned (.tuple #[.slice none 0 0, .int .i64 ((((splitK T []).2.head?.map Tok.loc).getD 0 : Nat) : Int), .int .i64 2])
theorem Fin.kept {B0 M M' : Nat} {W W' : World} {row : Option Nat} {v : Value} {s : List Tok} (h : Fin B0 M W v s) (hg : W.grownBy W' row) (hne : v.ownBlock = none ∨ v.ownBlock ≠ row) (hM : M ≤ M') : Fin B0 M' W' v s :=
  ⟨h.1, h.2.1.kept hg hne, fun g hg' => Nat.lt_of_lt_of_le (h.2.2 g hg') hM⟩
theorem Fin.alloc {B0 M : Nat} {W : World} {v : Value} {s : List Tok} (h : Fin B0 M W v s) (o : Obj) : Fin B0 M (W.alloc o) v s := ⟨h.1, h.2.1.alloc o, h.2.2⟩
/-- Where the loop stands: k tokens are parted; the rows of what is done lie below M, the row of what is open above it. -/
structure SR (T : List Tok) (w : World) (k M : Nat) (done : List (List Tok)) (cur : List Tok) (vs : List Value) (v u : Value) (wr : World) : Prop where
  le : k ≤ T.length
  spl : splitK T [] = (done ++ (splitK (T.drop k) cur).1, (splitK (T.drop k) cur).2)
  cl : cur.length ≤ k
  dl : done.length ≤ k
  ov : wr.ownsRow w.heap.size 61 1 v done.length vs
  ou : wr.ownsRow M 69 4 u cur.length (rowC cur)
  fin : All2 (Fin w.heap.size M wr) vs done
  m1 : w.heap.size ≤ M
  m2 : M ≤ wr.heap.size
  bel : Below w.heap.size w wr
theorem SR.start (T : List Tok) (w : World) : SR T w 0 (w.heap.size + 1) [] [] [] (.slice (some ⟨w.heap.size, 0, none⟩) 0 0) (.slice (some ⟨w.heap.size + 1, 0, none⟩) 0 0) ((w.alloc (.cells #[] 61)).alloc (.cells #[] 69)) := by
  have hz : (w.alloc (.cells #[] 61)).heap.size = w.heap.size + 1 := by simp
  have h2 := World.ownsRow_made (base := w.heap.size + 1) (e := 69) (size := 4) (w.alloc (.cells #[] 61)) #[] 0 (Nat.le_of_eq hz.symm) (Nat.zero_le _) (by simp)
  rw [hz] at h2
  exact ⟨Nat.zero_le _, by simp, Nat.le_refl _, Nat.le_refl _, (World.ownsRow_made w #[] 0 (Nat.le_refl _) (Nat.zero_le _) (by simp)).alloc _, h2, .nil, Nat.le_succ _, by simp, ((Below.refl _ w).alloc (Nat.le_refl _) _).alloc (by rw [hz]; exact Nat.le_succ _) _⟩
theorem drop_at {T : List Tok} {k : Nat} (hk : k < T.length) : T.drop k = T[k]! :: T.drop (k + 1) := by
  rw [List.drop_eq_getElem_cons hk, ← getElem!_pos T k hk]
theorem SR.sign {t : Tok} {T : List Tok} {w wr w2 : World} {k M : Nat} {done : List (List Tok)} {cur : List Tok} {vs : List Value} {v u v' : Value} (h : SR T w k M done cur vs v u wr) (hk : k < T.length) (ht : T[k]! = t) (h3 : t.kind = 3) {o : Obj}
    (hown : w2.ownsRow w.heap.size 61 1 v' (done.length + 1) (vs ++ [u])) (hg : (wr.alloc o).grownBy w2 v.ownBlock) :
    SR T w (k + 1) w2.heap.size (done ++ [cur]) [] (vs ++ [u]) v' (.slice (some ⟨w2.heap.size, 0, none⟩) 0 0) (w2.alloc (.cells #[] 69)) := by
  have z1 := h.bel.size
  have z2 := h.m1
  have z3 := h.m2
  have z4 : wr.heap.size < w2.heap.size := by have := hg.size; simp at this; omega
  have hb2 : Below w.heap.size w w2 := (h.bel.alloc (by omega) _).grown hg (by simp; omega) fun k hk => (h.ov.lt k hk).1
  have hu2 := (h.ou.alloc o).kept hg (own_ne h.ou h.ov (by decide))
  obtain ⟨a, c, hs⟩ := own_slice h.ou
  refine ⟨hk, ?_, Nat.zero_le _, ?_, ?_, World.ownsRow_made w2 #[] 0 (Nat.le_refl _) (Nat.zero_le _) (by simp), ?_, by omega, by simp, hb2.alloc (by omega) _⟩
  · rw [h.spl, drop_at hk, ht, splitK, if_pos h3]
    simp
  · have := h.dl; rw [List.length_append, List.length_singleton]; omega
  · rw [List.length_append, List.length_singleton]; exact hown.alloc _
  · refine .snoc (h.fin.mono fun fv fs hf => ((hf.alloc o).kept hg (own_ne hf.2.1 h.ov (by decide)) (by omega)).alloc _) ⟨⟨a, c, hs⟩, World.ownsRow.alloc (B.own_base hu2 (by omega)) _, fun g hg' => ?_⟩
    have := (h.ou.lt g hg').2
    omega
theorem SR.tok {t : Tok} {T : List Tok} {w wr w2 : World} {k M : Nat} {done : List (List Tok)} {cur : List Tok} {vs : List Value} {v u u' : Value} {x : ByteArray} (h : SR T w k M done cur vs v u wr) (hk : k < T.length) (ht : T[k]! = t) (h3 : ¬ t.kind = 3) {o : Obj}
    (hown : w2.ownsRow M 69 4 u' (cur.length + 1) (rowC cur ++ [.int .i64 (t.kind : Int), .string x, .int .i64 (t.val : Int), .int .i64 (t.loc : Int)])) (hx : x = ⟨t.text.toArray⟩) (hg : (wr.alloc o).grownBy w2 u.ownBlock) :
    SR T w (k + 1) M done (cur ++ [t]) vs v u' w2 := by
  have z1 := h.bel.size
  have z2 := h.m1
  have z3 := h.m2
  have z4 : wr.heap.size < w2.heap.size := by have := hg.size; simp at this; omega
  refine ⟨hk, ?_, ?_, ?_, ?_, ref_row hown hx, ?_, h.m1, by omega, ?_⟩
  · rw [h.spl, drop_at hk, ht, splitK, if_neg h3]
  · have := h.cl; rw [List.length_append, List.length_singleton]; omega
  · have := h.dl; omega
  · exact (h.ov.alloc o).kept hg (own_ne h.ov h.ou (by decide))
  · refine h.fin.mono fun fv fs hf => (hf.alloc o).kept hg ?_ (Nat.le_refl _)
    cases hq : fv.ownBlock with
    | none => exact .inl rfl
    | some q => exact .inr (fun e => by have h1 := hf.2.2 q hq; have h2 := (h.ou.lt q e.symm).1; omega)
  · exact (h.bel.alloc (by omega) _).grown hg (by simp; omega) fun k hk => by have := (h.ou.lt k hk).1; omega
theorem SR.ends {T : List Tok} {w wr : World} {M : Nat} {done : List (List Tok)} {cur : List Tok} {vs : List Value} {v u : Value} (h : SR T w T.length M done cur vs v u wr) : splitK T [] = (done, cur) := by
  rw [h.spl, List.drop_eq_nil_of_le (Nat.le_refl _), splitK, List.append_nil]
theorem SR.good {T : List Tok} {w wr : World} {M : Nat} {done : List (List Tok)} {vs : List Value} {v u : Value} (h : SR T w T.length M done [] vs v u wr) : SsP T w (.returned (.tuple #[v, .int .i64 0, .int .i64 0])) wr := by
  refine ⟨h.bel, ?_⟩
  rw [h.ends, if_pos rfl]
  exact ⟨v, vs, rfl, h.ov, h.fin.mono fun fv fs hf => ⟨hf.1, hf.2.1, fun g hg => Nat.lt_of_lt_of_le (hf.2.2 g hg) h.m2⟩⟩
theorem SR.bad {T : List Tok} {w wr w2 : World} {M : Nat} {done : List (List Tok)} {t : Tok} {cur : List Tok} {vs : List Value} {v u : Value} (h : SR T w T.length M done (t :: cur) vs v u wr) (hb : Below w.heap.size w w2) :
    SsP T w (.returned (.tuple #[.slice none 0 0, .int .i64 (t.loc : Int), .int .i64 2])) w2 := by
  refine ⟨hb, ?_⟩
  rw [h.ends, if_neg (by simp)]
  rfl
theorem info_tk : (Tryz.prog.info? 69).map (fun i => (i.zero, i.size, i.bytes)) = some (some (.agg #[.int .i64 0, .string ⟨#[]⟩, .int .i64 0, .int .i64 0]), 4, 40) := by kernel_rfl
theorem info_sl : (Tryz.prog.info? 61).map (fun i => (i.zero, i.size, i.bytes)) = some (some (.slice none 0 0), 1, 24) := by kernel_rfl
set_option maxRecDepth 100000 in
set_option maxHeartbeats 8000000 in
theorem rstatements_any (w : World) (A : Option Addr) (c : Nat) (T : List Tok) (hR : Row w A (rowC T)) (hl : T.length ≤ 5000) :
    Calls Tryz.prog 16 #[.slice A T.length c] w (SsP T w) := by
  obtain ⟨i0, hi0, hi1, hi2, hi3⟩ := info_parts info_tk
  have HI0 := Lib.hid hi0
  have HI1 := Lib.hid hi1
  have HI2 := Lib.hid hi2
  have HI3 := Lib.hid hi3
  obtain ⟨j0, hj0, hj1, hj2, hj3⟩ := info_parts info_sl
  have HJ0 := Lib.hid hj0
  have HJ1 := Lib.hid hj1
  have HJ2 := Lib.hid hj2
  have HJ3 := Lib.hid hj3
  clear hi0 hi1 hi2 hi3 hj0 hj1 hj2 hj3
  have HR := Lib.hid hR
  clear hR
  go_enter Tryz.func16, Tryz.ntmps16
  go_wp2_with fail
  go_loopw [5, 6, 7] (fun v u i wr => ∃ (k M : Nat) (done : List (List Tok)) (cur : List Tok) (vs : List Value), SR T w k M done cur vs v u wr ∧ i = .int .i64 (k : Int)) (fun _ _ i _ => T.length - (intOf i).toNat)
  case atStart => exact ⟨0, _, [], [], [], SR.start T w, rfl⟩
  case round =>
    obtain ⟨k, M, done, cur, vs, hS, rfl⟩ := hrel
    have HS := Lib.hid hS
    have hcl := hS.cl
    have hdl := hS.dl
    have hle := hS.le
    have z1 := hS.bel.size
    have z2 := hS.m1
    have z3 := hS.m2
    have HV := Lib.hid hS.ov
    have HU := Lib.hid hS.ou
    have HRr := Lib.hid (Row.below HR.out (Nat.le_refl _) hS.bel)
    obtain ⟨va, vc, rfl⟩ := own_slice hS.ov
    obtain ⟨ua, uc, rfl⟩ := own_slice hS.ou
    by_cases hlt : k < T.length
    · clear hS
      obtain ⟨b, o, rfl, hb, hc⟩ := tok_at HRr.out hlt
      obtain ⟨c0, c1, c2, c3⟩ := hc k hlt
      clear hc
      obtain ⟨t, ht⟩ : ∃ t, T[k]! = t := ⟨_, rfl⟩
      rw [ht] at c0 c1 c2 c3
      have HT := Lib.hid ht
      clear ht
      have h0 : (0 : Int) ≤ (k : Int) := Int.natCast_nonneg _
      have h1 : (k : Int) < (T.length : Int) := by omega
      by_cases hk3 : t.kind = 3
      · have hk3' : ((t.kind : Int) == 3) = true := by rw [beq_iff_eq]; omega
        have HK3 := Lib.hid hk3
        clear hk3
        go_wp2_with (first
          | (at_builtin; refine wpList_append_own _ rfl (.tmp 22) (.tmp 24) 64 rfl w.heap.size 61 j0 _ 1 24 Tryz.underlying64 HJ0.out HJ1.out HJ2.out HJ3.out rfl (by omega) _ _ _ rfl (HV.out.alloc _) ⟨wr.heap.size, 0, none⟩ 1 1 [.slice ua cur.length uc] rfl rfl ?c1 ?c2 ?c3 ?c4 ?c5 ?_))
        case c1 =>
          intro j u hj
          match j, hj with
          | 0, hj => simp at hj; subst hj; simp [Addr.add]
        case c2 => intro u hu; simp at hu; subst hu; rfl
        case c3 => unfold maxLen; omega
        case c4 => omega
        case c5 => simp; omega
        intro v' w2 hown' hgrow _
        have HS2 := Lib.hid (HS.out.sign hlt HT.out HK3.out hown' hgrow)
        clear hown' hgrow
        go_wp2
        go_roundw
        case rel => exact ⟨k + 1, _, _, _, _, HS2.out, by go_num⟩
        case measure => simp [intOf]; omega
      · have hk3' : ((t.kind : Int) == 3) = false := by rw [beq_eq_false_iff_ne]; omega
        have HK3 := Lib.hid hk3
        clear hk3
        go_wp2_with (first
          | (at_builtin; refine wpList_append_own _ rfl (.tmp 27) (.tmp 32) 61 rfl M 69 i0 _ 4 40 Tryz.underlying61 HI0.out HI1.out HI2.out HI3.out rfl (by omega) _ _ _ rfl (HU.out.alloc _) ⟨wr.heap.size, 0, none⟩ 1 1 [.int .i64 (t.kind : Int), .string ⟨t.text.toArray⟩, .int .i64 (t.val : Int), .int .i64 (t.loc : Int)] rfl rfl (new4 rfl) (one4 _ _ _ _) ?d3 ?d4 ?d5 ?_))
        case d3 => unfold maxLen; omega
        case d4 => omega
        case d5 => simp; omega
        intro v' w2 hown' hgrow _
        have HS2 := Lib.hid (HS.out.tok hlt HT.out HK3.out hown' rfl hgrow)
        clear hown' hgrow
        go_wp2
        go_roundw
        case rel => exact ⟨k + 1, _, _, _, _, HS2.out, by go_num⟩
        case measure => simp [intOf]; omega
    · obtain rfl : k = T.length := by omega
      clear hS
      cases cur with
      | nil =>
        have HG := Lib.hid HS.out.good
        clear HS
        go_wp2_with fail
        go_ret3
        exact HG.out
      | cons t cur =>
        obtain ⟨g, cap, hge⟩ := ownsRow_succ (k := cur.length) HU.out
        injection hge with hga _ _
        subst hga
        have cc := HU.out.cells (g := g) rfl
        have c3 : wr.cell? ⟨g, 3, none⟩ = some (.int .i64 (t.loc : Int)) := by simpa [Addr.add] using cc 3 _ rfl
        have hgz := (HU.out.lt g rfl).2
        have hn0 : (0 : Int) < ((cur.length + 1 : Nat) : Int) := by omega
        have HG := Lib.hid (fun n => HS.out.bad (below_draws HS.out.bel n))
        clear cc HS
        go_wp2_with fail
        go_quiet (fail)
        go_wp2
        go_ret3
        exact HG.out nq
end Go.Proofs.YtjgcjnkeeiaafaaGreatDoor.P3.D

namespace Go.Proofs.YtjgcjnkeeiaafaaGreatDoor.P3.D
open Go.RowKit Go.Shelf Go.Proofs.YtjgcjnkeeiaafaaGreatDoor Go.Proofs.YtjgcjnkeeiaafaaGreatDoor.P3 Go.Proofs.YtjgcjnkeeiaafaaGreatDoor.P3.C Go.Proofs.YtjgcjnkeeiaafaaGreatDoor.P3.L
/-- The graph of the statements so far lies in the block gb, the rows of beginnings in the block bb. -/
structure DH (wB : World) (gb bb : Nat) (v0 v1 v2 v3 : Value) (G : List Gp) (E : List Ev) (R : List Rl) (U : List Us) (s : Nat → Value) (bl : Nat → List Int) (W : World) : Prop where
  f : W.heap[gb]? = some (.cells #[v0, v1, v2, v3] 28 (0, 0))
  b : W.heap[bb]? = some (.cells #[s 0, s 1, s 2, s 3, s 4] 49 (0, 0))
  o0 : W.ownsRow wB.heap.size 37 2 v0 G.length (G.flatMap gpC)
  o1 : W.ownsRow wB.heap.size 40 6 v1 E.length (E.flatMap evC)
  o2 : W.ownsRow wB.heap.size 42 4 v2 R.length (R.flatMap rlC)
  o3 : W.ownsRow wB.heap.size 74 3 v3 U.length (U.flatMap usC)
  ro : ∀ u ∈ U, W.ownsRow wB.heap.size 9 1 (.slice u.ra u.roles.length u.rc) u.roles.length (u.roles.map Value.string)
  st : ∀ p, p < 5 → W.ownsRow wB.heap.size 3 1 (s p) (bl p).length ((bl p).map (Value.int .i64))
  dis : ∀ p q, p < 5 → q < 5 → p ≠ q → ∀ k, (s p).ownBlock = some k → (s q).ownBlock ≠ some k
  l : Below wB.heap.size wB W
  hg : wB.heap.size ≤ gb
  hb : wB.heap.size ≤ bb
section
variable {wB W W1 : World} {gb bb : Nat} {v0 v1 v2 v3 : Value} {G : List Gp} {E : List Ev} {R : List Rl} {U : List Us} {s : Nat → Value} {bl : Nat → List Int}
theorem DH.lt (h : DH wB gb bb v0 v1 v2 v3 G E R U s bl W) : gb < W.heap.size := B.blk_lt h.f
theorem DH.ltb (h : DH wB gb bb v0 v1 v2 v3 G E R U s bl W) : bb < W.heap.size := B.blk_lt h.b
theorem DH.ne (h : DH wB gb bb v0 v1 v2 v3 G E R U s bl W) : gb ≠ bb := by
  intro e
  have h1 := h.f
  rw [e, h.b] at h1
  simp only [Option.some.injEq, Obj.cells.injEq] at h1
  exact absurd h1.2.1 (by decide)
theorem DH.call (h : DH wB gb bb v0 v1 v2 v3 G E R U s bl W) (hb : Below W.heap.size W W1) : DH wB gb bb v0 v1 v2 v3 G E R U s bl W1 :=
  ⟨(hb.block _ h.lt).trans h.f, (hb.block _ h.ltb).trans h.b, B.own_below h.o0 hb, B.own_below h.o1 hb, B.own_below h.o2 hb, B.own_below h.o3 hb, fun u hu => B.own_below (h.ro u hu) hb, fun p hp => B.own_below (h.st p hp) hb, h.dis, h.l.trans (hb.mono h.l.size), h.hg, h.hb⟩
theorem DH.gc (h : DH wB gb bb v0 v1 v2 v3 G E R U s bl W) : W.cell? ⟨gb, 0, none⟩ = some v0 ∧ W.cell? ⟨gb, 1, none⟩ = some v1 ∧ W.cell? ⟨gb, 2, none⟩ = some v2 ∧ W.cell? ⟨gb, 3, none⟩ = some v3 :=
  ⟨B.cell_blk h.f rfl, B.cell_blk h.f rfl, B.cell_blk h.f rfl, B.cell_blk h.f rfl⟩
theorem DH.bc (h : DH wB gb bb v0 v1 v2 v3 G E R U s bl W) {p : Nat} (hp : p < 5) : W.cell? ⟨bb, p, none⟩ = some (s p) := by
  refine B.cell_blk h.b ?_
  obtain rfl | rfl | rfl | rfl | rfl : p = 0 ∨ p = 1 ∨ p = 2 ∨ p = 3 ∨ p = 4 := by omega
  all_goals rfl
theorem DH.fz (h : DH wB gb bb v0 v1 v2 v3 G E R U s bl W) (i : Nat) : W.frozen? ⟨gb, i, none⟩ = false := B.frozen_blk h.f
theorem DH.fzb (h : DH wB gb bb v0 v1 v2 v3 G E R U s bl W) (i : Nat) : W.frozen? ⟨bb, i, none⟩ = false := B.frozen_blk h.b
theorem DH.mid0 (h : DH wB gb bb v0 v1 v2 v3 G E R U s bl W) (hg : W.grownBy W1 v0.ownBlock) : W1.heap[gb]? = some (.cells #[v0, v1, v2, v3] 28 (0, 0)) :=
  (hg.block _ h.lt (fun e => B.own_far h.o0 h.f (by decide) e.symm)).trans h.f
theorem DH.put0 (h : DH wB gb bb v0 v1 v2 v3 G E R U s bl W) {v' : Value} {N : List Gp} (ho : W1.ownsRow wB.heap.size 37 2 v' (G.length + N.length) (G.flatMap gpC ++ N.flatMap gpC)) (hg : W.grownBy W1 v0.ownBlock) :
    DH wB gb bb v' v1 v2 v3 (G ++ N) E R U s bl (W1.setCell ⟨gb, 0, none⟩ v') := by
  have hf := h.mid0 hg
  exact ⟨by rw [B.blk_set hf]; simp, box_past h.b h.o0 (by decide) hg hf (by decide), by rw [List.length_append, List.flatMap_append]; exact B.own_set ho (B.own_far ho hf (by decide)) v', kp h.o1 h.o0 (by decide) hg hf (by decide) 0 v', kp h.o2 h.o0 (by decide) hg hf (by decide) 0 v', kp h.o3 h.o0 (by decide) hg hf (by decide) 0 v', fun u hu => kp (h.ro u hu) h.o0 (by decide) hg hf (by decide) 0 v', fun p hp => kp (h.st p hp) h.o0 (by decide) hg hf (by decide) 0 v', h.dis, (h.l.grown hg h.l.size (fun q hq => (h.o0.lt q hq).1)).setCell (p := ⟨gb, 0, none⟩) h.hg v', h.hg, h.hb⟩
theorem DH.mid1 (h : DH wB gb bb v0 v1 v2 v3 G E R U s bl W) (hg : W.grownBy W1 v1.ownBlock) : W1.heap[gb]? = some (.cells #[v0, v1, v2, v3] 28 (0, 0)) :=
  (hg.block _ h.lt (fun e => B.own_far h.o1 h.f (by decide) e.symm)).trans h.f
theorem DH.put1 (h : DH wB gb bb v0 v1 v2 v3 G E R U s bl W) {v' : Value} {N : List Ev} (ho : W1.ownsRow wB.heap.size 40 6 v' (E.length + N.length) (E.flatMap evC ++ N.flatMap evC)) (hg : W.grownBy W1 v1.ownBlock) :
    DH wB gb bb v0 v' v2 v3 G (E ++ N) R U s bl (W1.setCell ⟨gb, 1, none⟩ v') := by
  have hf := h.mid1 hg
  exact ⟨by rw [B.blk_set hf]; simp, box_past h.b h.o1 (by decide) hg hf (by decide), kp h.o0 h.o1 (by decide) hg hf (by decide) 1 v', by rw [List.length_append, List.flatMap_append]; exact B.own_set ho (B.own_far ho hf (by decide)) v', kp h.o2 h.o1 (by decide) hg hf (by decide) 1 v', kp h.o3 h.o1 (by decide) hg hf (by decide) 1 v', fun u hu => kp (h.ro u hu) h.o1 (by decide) hg hf (by decide) 1 v', fun p hp => kp (h.st p hp) h.o1 (by decide) hg hf (by decide) 1 v', h.dis, (h.l.grown hg h.l.size (fun q hq => (h.o1.lt q hq).1)).setCell (p := ⟨gb, 1, none⟩) h.hg v', h.hg, h.hb⟩
theorem DH.mid2 (h : DH wB gb bb v0 v1 v2 v3 G E R U s bl W) (hg : W.grownBy W1 v2.ownBlock) : W1.heap[gb]? = some (.cells #[v0, v1, v2, v3] 28 (0, 0)) :=
  (hg.block _ h.lt (fun e => B.own_far h.o2 h.f (by decide) e.symm)).trans h.f
theorem DH.put2 (h : DH wB gb bb v0 v1 v2 v3 G E R U s bl W) {v' : Value} {N : List Rl} (ho : W1.ownsRow wB.heap.size 42 4 v' (R.length + N.length) (R.flatMap rlC ++ N.flatMap rlC)) (hg : W.grownBy W1 v2.ownBlock) :
    DH wB gb bb v0 v1 v' v3 G E (R ++ N) U s bl (W1.setCell ⟨gb, 2, none⟩ v') := by
  have hf := h.mid2 hg
  exact ⟨by rw [B.blk_set hf]; simp, box_past h.b h.o2 (by decide) hg hf (by decide), kp h.o0 h.o2 (by decide) hg hf (by decide) 2 v', kp h.o1 h.o2 (by decide) hg hf (by decide) 2 v', by rw [List.length_append, List.flatMap_append]; exact B.own_set ho (B.own_far ho hf (by decide)) v', kp h.o3 h.o2 (by decide) hg hf (by decide) 2 v', fun u hu => kp (h.ro u hu) h.o2 (by decide) hg hf (by decide) 2 v', fun p hp => kp (h.st p hp) h.o2 (by decide) hg hf (by decide) 2 v', h.dis, (h.l.grown hg h.l.size (fun q hq => (h.o2.lt q hq).1)).setCell (p := ⟨gb, 2, none⟩) h.hg v', h.hg, h.hb⟩
theorem DH.mid3 (h : DH wB gb bb v0 v1 v2 v3 G E R U s bl W) (hg : W.grownBy W1 v3.ownBlock) : W1.heap[gb]? = some (.cells #[v0, v1, v2, v3] 28 (0, 0)) :=
  (hg.block _ h.lt (fun e => B.own_far h.o3 h.f (by decide) e.symm)).trans h.f
theorem DH.put3 (h : DH wB gb bb v0 v1 v2 v3 G E R U s bl W) {v' : Value} {N : List Us} (ho : W1.ownsRow wB.heap.size 74 3 v' (U.length + N.length) (U.flatMap usC ++ N.flatMap usC)) (hg : W.grownBy W1 v3.ownBlock) (hn : ∀ u ∈ N, W.ownsRow wB.heap.size 9 1 (.slice u.ra u.roles.length u.rc) u.roles.length (u.roles.map Value.string)) :
    DH wB gb bb v0 v1 v2 v' G E R (U ++ N) s bl (W1.setCell ⟨gb, 3, none⟩ v') := by
  have hf := h.mid3 hg
  exact ⟨by rw [B.blk_set hf]; simp, box_past h.b h.o3 (by decide) hg hf (by decide), kp h.o0 h.o3 (by decide) hg hf (by decide) 3 v', kp h.o1 h.o3 (by decide) hg hf (by decide) 3 v', kp h.o2 h.o3 (by decide) hg hf (by decide) 3 v', by rw [List.length_append, List.flatMap_append]; exact B.own_set ho (B.own_far ho hf (by decide)) v', fun u hu => by
    rcases List.mem_append.1 hu with hu | hu
    · exact kp (h.ro u hu) h.o3 (by decide) hg hf (by decide) 3 v'
    · exact kp (hn u hu) h.o3 (by decide) hg hf (by decide) 3 v', fun p hp => kp (h.st p hp) h.o3 (by decide) hg hf (by decide) 3 v', h.dis, (h.l.grown hg h.l.size (fun q hq => (h.o3.lt q hq).1)).setCell (p := ⟨gb, 3, none⟩) h.hg v', h.hg, h.hb⟩
theorem DH.midS (h : DH wB gb bb v0 v1 v2 v3 G E R U s bl W) {p : Nat} (hp : p < 5) (hg : W.grownBy W1 (s p).ownBlock) : W1.heap[bb]? = some (.cells #[s 0, s 1, s 2, s 3, s 4] 49 (0, 0)) :=
  (hg.block _ h.ltb (fun e => B.own_far (h.st p hp) h.b (by decide) e.symm)).trans h.b
theorem DH.putS (h : DH wB gb bb v0 v1 v2 v3 G E R U s bl W) {p : Nat} (hp : p < 5) {v' : Value} {x : Int} (ho : W1.ownsRow wB.heap.size 3 1 v' ((bl p).length + 1) ((bl p).map (Value.int .i64) ++ [.int .i64 x])) (hg : W.grownBy W1 (s p).ownBlock) (hat : v'.ownBlock = (s p).ownBlock ∨ ∃ q, v'.ownBlock = some q ∧ W.heap.size ≤ q) :
    DH wB gb bb v0 v1 v2 v3 G E R U (fun i => if i = p then v' else s i) (fun i => if i = p then bl i ++ [x] else bl i) (W1.setCell ⟨bb, p, none⟩ v') := by
  have hf := h.midS hp hg
  have hsp := h.st p hp
  refine ⟨box_past h.f hsp (by decide) hg hf (by decide), ?_, kp h.o0 hsp (by decide) hg hf (by decide) _ v', kp h.o1 hsp (by decide) hg hf (by decide) _ v', kp h.o2 hsp (by decide) hg hf (by decide) _ v', kp h.o3 hsp (by decide) hg hf (by decide) _ v', fun u hu => kp (h.ro u hu) hsp (by decide) hg hf (by decide) _ v', fun q hq => ?_, fun q r hq hr hqr k hk => ?_, (h.l.grown hg h.l.size (fun q hq => (hsp.lt q hq).1)).setCell (p := ⟨bb, p, none⟩) h.hb v', h.hg, h.hb⟩
  · rw [B.blk_set hf]
    obtain rfl | rfl | rfl | rfl | rfl : p = 0 ∨ p = 1 ∨ p = 2 ∨ p = 3 ∨ p = 4 := by omega
    all_goals simp
  · by_cases e : q = p
    · subst e
      simp only [if_true]
      rw [List.length_append, List.length_singleton, List.map_append]
      exact B.own_set ho (B.own_far ho hf (by decide)) v'
    · simp only [if_neg e]
      have h1 := kept_ne (h.st q hq) hg (fun k hk => h.dis q p hq hp e k hk)
      exact B.own_set h1 (B.own_far h1 hf (by decide)) v'
  · by_cases e1 : q = p
    · subst e1
      simp only [if_true] at hk
      rw [if_neg (fun e => hqr e.symm)]
      rcases hat with h' | ⟨k', h', hk'⟩
      · exact h.dis q r hq hr hqr k (h'.symm.trans hk)
      · intro e
        rw [hk] at h'; injection h' with h'
        have := ((h.st r hr).lt k e).2; omega
    · simp only [if_neg e1] at hk
      by_cases e2 : r = p
      · subst e2
        simp only [if_true]
        rcases hat with h' | ⟨k', h', hk'⟩
        · rw [h']; exact h.dis q r hq hr hqr k hk
        · intro e
          rw [e] at h'; injection h' with h'
          have := ((h.st q hq).lt k hk).2; omega
      · simp only [if_neg e2]
        exact h.dis q r hq hr hqr k hk
end
/-- Nothing but a box of a list has grown, and was stored in another box: the block y stays. -/
theorem box_by {W W1 : World} {K e z m gb y i : Nat} {v u : Value} {xs ds : List Value} {T : TypeId} (hy : W.heap[y]? = some (.cells ds.toArray T (0, 0))) (hr : W.ownsRow K e z v m xs) (hne : e ≠ T) (hg : W.grownBy W1 v.ownBlock) (hgb : y ≠ gb) : (W1.setCell ⟨gb, i, none⟩ u).heap[y]? = some (.cells ds.toArray T (0, 0)) :=
  (B.blk_other hgb).trans ((hg.block y (B.blk_lt hy) (fun e => B.own_far hr hy hne e.symm)).trans hy)
/-- A statement's own graph as it is read: each list, or what is left of it. -/
structure OH (K : Nat) (y : Nat) (z0 z1 z2 z3 : Value) (vs : List PartV) (N : List Us) (W : World) : Prop where
  y : W.heap[y]? = some (.cells #[z0, z1, z2, z3] 28 (0, 0))
  nb : N.map usBare = usOf vs
  o0 : W.ownsRow K 37 2 z0 (gsOf vs).length ((gsOf vs).flatMap gpC)
  o1 : W.ownsRow K 40 6 z1 (esOf vs).length ((esOf vs).flatMap evC)
  o2 : W.ownsRow K 42 4 z2 (rsOf vs).length ((rsOf vs).flatMap rlC)
  o3 : W.ownsRow K 74 3 z3 N.length (N.flatMap usC)
  ro : ∀ u ∈ N, W.ownsRow K 9 1 (.slice u.ra u.roles.length u.rc) u.roles.length (u.roles.map Value.string)
theorem OH.of {K y : Nat} {z0 z1 z2 z3 : Value} {vs : List PartV} {W W1 : World} (h : GrO K vs z0 z1 z2 z3 W) (hb : Below W.heap.size W W1) (hy : W1.heap[y]? = some (.cells #[z0, z1, z2, z3] 28 (0, 0))) : ∃ N, OH K y z0 z1 z2 z3 vs N W1 := by
  obtain ⟨N, h0, h1, h2, h3, h4, h5⟩ := h
  exact ⟨N, hy, h0, B.own_below h1 hb, B.own_below h2 hb, B.own_below h3 hb, B.own_below h4 hb, fun u hu => B.own_below (h5 u hu) hb⟩
theorem OH.below {K y : Nat} {z0 z1 z2 z3 : Value} {vs : List PartV} {N : List Us} {W W1 : World} (h : OH K y z0 z1 z2 z3 vs N W) (hb : Below W.heap.size W W1) : OH K y z0 z1 z2 z3 vs N W1 :=
  ⟨(hb.block _ (B.blk_lt h.y)).trans h.y, h.nb, B.own_below h.o0 hb, B.own_below h.o1 hb, B.own_below h.o2 hb, B.own_below h.o3 hb, fun u hu => B.own_below (h.ro u hu) hb⟩
theorem OH.yc {K y : Nat} {z0 z1 z2 z3 : Value} {vs : List PartV} {N : List Us} {W : World} (h : OH K y z0 z1 z2 z3 vs N W) : W.cell? ⟨y, 0, none⟩ = some z0 ∧ W.cell? ⟨y, 1, none⟩ = some z1 ∧ W.cell? ⟨y, 2, none⟩ = some z2 ∧ W.cell? ⟨y, 3, none⟩ = some z3 :=
  ⟨B.cell_blk h.y rfl, B.cell_blk h.y rfl, B.cell_blk h.y rfl, B.cell_blk h.y rfl⟩
/-- A row that lies below another's base stays while that other grows and is stored below it. -/
theorem own_past {W W1 : World} {K e z n gb i : Nat} {v v' u : Value} {xs : List Value} (h : W.ownsRow K e z v n xs) (hne : ∀ q, v.ownBlock = some q → v'.ownBlock ≠ some q) (hg : W.grownBy W1 v'.ownBlock) (hgb : gb < K) : (W1.setCell ⟨gb, i, none⟩ u).ownsRow K e z v n xs :=
  B.own_set (kept_ne h hg hne) (fun e => by have := (h.lt gb e).1; omega) u
/-- The statement's graph stays while a row below it grows and is stored in a box below it. -/
theorem OH.past {K K' y e z n gb i : Nat} {z0 z1 z2 z3 v u : Value} {vs : List PartV} {N : List Us} {W W1 : World} {xs : List Value} (h : OH K y z0 z1 z2 z3 vs N W) (hr : W.ownsRow K' e z v n xs) (hlow : ∀ q, v.ownBlock = some q → q < K) (hg : W.grownBy W1 v.ownBlock) (hgb : gb < K) (hy : K ≤ y) (he : e ≠ 28) : OH K y z0 z1 z2 z3 vs N (W1.setCell ⟨gb, i, none⟩ u) := by
  have key : ∀ {e2 z2 n2 : Nat} {v2 : Value} {xs2 : List Value}, W.ownsRow K e2 z2 v2 n2 xs2 → (W1.setCell ⟨gb, i, none⟩ u).ownsRow K e2 z2 v2 n2 xs2 := fun {e2 z2 n2 v2 xs2} h2 =>
    own_past h2 (fun q hq hq' => by have h3 := (h2.lt q hq).1; have h4 := hlow q hq'; omega) hg hgb
  exact ⟨box_by h.y hr he hg (by omega), h.nb, key h.o0, key h.o1, key h.o2, key h.o3, fun u hu => key (h.ro u hu)⟩
end Go.Proofs.YtjgcjnkeeiaafaaGreatDoor.P3.D

namespace Go.Proofs.YtjgcjnkeeiaafaaGreatDoor.P3
theorem see_in {l : List B3} {x : Key} {s : RS} (h : seeB l x s = true) : s.1 < l.length := by
  unfold seeB at h
  rw [Bool.and_eq_true] at h
  cases hk : l[s.1]? with
  | none => rw [hk] at h; cases h.2
  | some t => exact (List.getElem?_eq_some_iff.1 hk).1
theorem may_in {l : List B3} {x : Key} {s : RS} (h : s.1 ≤ l.length) : (mayS l x s).1 ≤ l.length := by
  unfold mayS; split
  · rename_i q; exact see_in q
  · exact h
theorem must_in {l : List B3} {x : Key} {s : RS} (h : s.1 ≤ l.length) : (mustS l x s).1 ≤ l.length := by
  unfold mustS; split
  · rename_i q; exact see_in q
  · exact h
theorem opt_in {l : List B3} {x : Key} {s : RS} (h : s.1 ≤ l.length) : (optS l x s).1 ≤ l.length := by
  unfold optS; split
  · exact must_in (may_in h)
  · exact h
theorem due_in {l : List B3} {s : RS} (h : s.1 ≤ l.length) : (dueS l s).1 ≤ l.length := by
  unfold dueS; split
  · exact may_in h
  · split
    · exact must_in (may_in h)
    · exact h
theorem kind_in {l : List B3} {s : RS} (h : s.1 ≤ l.length) : (kindS l s).1 ≤ l.length := by
  unfold kindS; split
  · exact h
  · rename_i q
    unfold kindV at q
    have : s.1 < l.length := by
      by_cases h1 : seeB l (kwB 1) s = true
      · exact see_in h1
      · rw [if_neg h1] at q
        by_cases h2 : seeB l (kwB 2) s = true
        · exact see_in h2
        · rw [if_neg h2] at q
          by_cases h3 : seeB l (kwB 3) s = true
          · exact see_in h3
          · rw [if_neg h3] at q
            by_cases h4 : seeB l (kwB 4) s = true
            · exact see_in h4
            · rw [if_neg h4] at q
              by_cases h5 : seeB l (kwB 5) s = true
              · exact see_in h5
              · rw [if_neg h5] at q; exact absurd rfl q
    exact this
theorem time_in {l : List B3} {k : Int} {s : RS} (h : s.1 ≤ l.length) : (timeS l k s).1 ≤ l.length := by
  unfold timeS; split
  · exact may_in h
  · exact h
theorem roles_in {l : List B3} : ∀ (n : Nat) (s : RS), s.1 ≤ l.length → (rolesS l n s).1.1 ≤ l.length
  | 0, s, h => h
  | n + 1, s, h => by
    rw [rolesS]; split
    · exact roles_in n _ (may_in h)
    · exact h
theorem st_in (l : List B3) : (stS l).1 ≤ l.length := by
  unfold stS endS
  simp only
  split
  · rename_i q
    exact opt_in (must_in (see_in q))
  · split
    · rename_i q
      exact due_in (may_in (may_in (must_in (must_in (opt_in (must_in (see_in q)))))))
    · split
      · rename_i q
        exact opt_in (roles_in _ _ (must_in (must_in (see_in q))))
      · exact time_in (must_in (must_in (kind_in (Nat.zero_le _))))
end Go.Proofs.YtjgcjnkeeiaafaaGreatDoor.P3
