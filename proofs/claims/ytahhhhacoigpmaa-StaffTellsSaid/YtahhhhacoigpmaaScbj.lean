/-
  Contract of the document's own Lex of layer 1.
-/
import Derived.Test.YtahhhhacoigpmaaScbi
namespace Go.Proofs.Ytahhhhacoigpmaa
open Go.RowKit
theorem infoRef : (Try.prog.info? 135).map (fun i => (i.zero, i.size, i.bytes)) = some (some (.agg #[.int .i64 0, .string ⟨#[]⟩, .int .i64 0, .int .i64 0]), 4, 40) := by kernel_rfl
/-- What the document's Lex hands back. -/
def RefOf (r : List Tok × Nat × Nat) (w : World) (e : Ending) (w' : World) : Prop :=
  ∃ v : Value, e = .returned (.tuple #[v, .int .i64 r.2.1, .int .i64 r.2.2]) ∧ w'.ownsRow w.heap.size 135 4 v r.1.length (rowC r.1) ∧ Below w.heap.size w w'
def RefRel (s : ByteArray) (w : World) (v i : Value) (wr : World) : Prop :=
  ∃ (k : Nat) (l : List Tok), k ≤ s.size ∧ i = .int .i64 k ∧ wr.ownsRow w.heap.size 135 4 v l.length (rowC l) ∧ Below w.heap.size w wr ∧ l.length ≤ 5000 ∧ Hid (lexS (s.data.toList.drop k) 0 k l = lexL s.data.toList)
theorem refOf_err {s : ByteArray} {w w' : World} {k c : Nat} (h : lexL s.data.toList = ([], k, c)) (hb : Below w.heap.size w w') : RefOf (lexL s.data.toList) w (.returned (.tuple #[.slice none 0 0, .int .i64 k, .int .i64 c])) w' := by
  rw [h]; exact ⟨_, rfl, World.ownsRow_nil _ _ _ _, hb⟩
theorem refOf_ok {s : ByteArray} {w w' : World} {l : List Tok} {v : Value} (h : lexL s.data.toList = (l, 0, 0)) (hown : w'.ownsRow w.heap.size 135 4 v l.length (rowC l)) (hb : Below w.heap.size w w') :
    RefOf (lexL s.data.toList) w (.returned (.tuple #[v, .int .i64 0, .int .i64 0])) w' := by
  rw [h]; exact ⟨_, rfl, hown, hb⟩
/-- kind at a byte whose kind is known. -/
theorem kind_in {c : UInt8} (h : innB c = true) : 1 ≤ kindN c ∧ kindN c ≤ 3 := (kind_inn c).2 h
theorem kind_out {c : UInt8} (h : innB c = false) : kindN c = 0 ∨ 4 ≤ kindN c := by
  have : ¬ (1 ≤ kindN c ∧ kindN c ≤ 3) := fun e => by rw [(kind_inn c).1 e] at h; cases h
  omega
theorem kind_at {c : UInt8} {n : Nat} (h : kindN c = n) (w : World) : Calls Try.prog 94 #[.int .u8 c.toNat] w fun e w' => e = .returned (.int .i64 n) ∧ w = w' := by
  rw [← h]; exact kind_any c w
/-- The run from k on, found by going on as long as bytes are inner ones. -/
theorem run_go {s : ByteArray} {k e : Nat} (hk : k ≤ e) (he : e < s.size) (hi : innB s[e] = true) (hr : e - k ≤ (runL (s.data.toList.drop k)).length) : e + 1 - k ≤ (runL (s.data.toList.drop k)).length := by
  have h1 : e - k < (s.data.toList.drop k).length := by rw [List.length_drop, bytes_len]; omega
  have h2 : (s.data.toList.drop k)[e - k] = s[e] := by
    rw [List.getElem_drop]
    have : k + (e - k) = e := by omega
    simp only [this]; rfl
  have := run_step _ (e - k) h1 (by rw [h2]; exact hi) hr
  omega
theorem run_end {s : ByteArray} {k e : Nat} (hk : k ≤ e) (he : e ≤ s.size) (hi : ∀ h : e < s.size, innB s[e] = false) (hr : e - k ≤ (runL (s.data.toList.drop k)).length) :
    s.extract k e = ⟨(runL (s.data.toList.drop k)).toArray⟩ ∧ (runL (s.data.toList.drop k)).length ≤ e - k := by
  have h0 := run_stop (s.data.toList.drop k) (e - k) hr fun hlt => by
    rw [List.length_drop, bytes_len] at hlt
    have h2 : (s.data.toList.drop k)[e - k] = s[e]'(by omega) := by
      rw [List.getElem_drop]
      have : k + (e - k) = e := by omega
      simp only [this]; rfl
    rw [h2]; exact hi _
  refine ⟨bytes_eq ?_, ?_⟩
  · rw [Lib.extract_data, h0]
  · rw [h0, List.length_take]; omega
theorem run_first {s : ByteArray} {k : Nat} (hk : k < s.size) (hi : innB s[k] = true) : k + 1 - k ≤ (runL (s.data.toList.drop k)).length := by
  have := run_go (Nat.le_refl k) hk hi (by omega)
  exact this
theorem run_byte {s : ByteArray} {k e j : Nat} (h1 : k ≤ j) (h2 : j < e) (he : e ≤ s.size) (hx : s.extract k e = ⟨(runL (s.data.toList.drop k)).toArray⟩) :
    ∃ h : j < s.size, (runL (s.data.toList.drop k)).drop (j - k) = s[j] :: (runL (s.data.toList.drop k)).drop (j + 1 - k) := by
  have hr : runL (s.data.toList.drop k) = (s.data.toList.drop k).take (e - k) := by
    have := congrArg (fun b : ByteArray => b.data.toList) hx
    simp only [Lib.extract_data] at this
    exact this.symm
  refine ⟨by omega, ?_⟩
  have hl : j - k < (runL (s.data.toList.drop k)).length := by rw [hr, List.length_take, List.length_drop, bytes_len]; omega
  rw [List.drop_eq_getElem_cons hl, show j + 1 - k = j - k + 1 from by omega]
  congr 1
  simp only [hr, List.getElem_take, List.getElem_drop]
  have : k + (j - k) = j := by omega
  simp only [this]; rfl
/-- The loop over a number's digits: what holds at each round's head. -/
def DigRel (s : ByteArray) (w wo : World) (vl : Value) (l : List Tok) (k e : Nat) (x : Value) (wr : World) : Prop :=
  ∃ (j v : Nat), k ≤ j ∧ j ≤ e ∧ x = .int .i64 j ∧ v ≤ 10485769 ∧ wr.heap[wo.heap.size]? = some (.cells #[.int .i64 2, .string (s.extract k e), .int .i64 v, .int .i64 k] 135 (0, 0)) ∧
    wr.ownsRow w.heap.size 135 4 vl l.length (rowC l) ∧ Below w.heap.size w wr ∧ wr.heap.size = wo.heap.size + 1 ∧
    Hid (numR (decide ((s.data.toList.getD k 0).toNat = 48)) (decide (j = k)) v ((runL (s.data.toList.drop k)).drop (j - k)) = numL (runL (s.data.toList.drop k)))
theorem tbox_cells {w : World} {b T : Nat} {x0 x1 x2 x3 : Value} (h : w.heap[b]? = some (.cells #[x0, x1, x2, x3] T (0, 0))) :
    w.cell? ⟨b, 0, none⟩ = some x0 ∧ w.cell? ⟨b, 1, none⟩ = some x1 ∧ w.cell? ⟨b, 2, none⟩ = some x2 ∧ w.cell? ⟨b, 3, none⟩ = some x3 ∧ w.frozen? ⟨b, 2, none⟩ = false :=
  ⟨Lib.cell_of_heap h 0, Lib.cell_of_heap h 1, Lib.cell_of_heap h 2, Lib.cell_of_heap h 3, Lib.frozen_of_heap h 2⟩
theorem kind_two {c : UInt8} (h : digB c = false) : kindN c ≠ 2 := by
  unfold kindN
  rw [h]
  repeat' split
  all_goals simp_all
/-- One digit more. -/
theorem dig_step {s : ByteArray} {w wo wr : World} {vl : Value} {l : List Tok} {k e j v c : Nat} (hown : wo.ownsRow w.heap.size 135 4 vl l.length (rowC l)) (hbz : w.heap.size ≤ wo.heap.size) (hj1 : k ≤ j) (hje : j < e) (hv : v ≤ 1048576) (d1 : 48 ≤ c) (d2 : c ≤ 57)
    (hbox : wr.heap[wo.heap.size]? = some (.cells #[.int .i64 2, .string (s.extract k e), .int .i64 v, .int .i64 k] 135 (0, 0))) (hown3 : wr.ownsRow w.heap.size 135 4 vl l.length (rowC l)) (hbel3 : Below w.heap.size w wr) (hsz3 : wr.heap.size = wo.heap.size + 1)
    (HN : Hid (numR (decide ((s.data.toList.getD k 0).toNat = 48)) (decide (j + 1 = k)) (10 * v + (c - 48)) ((runL (s.data.toList.drop k)).drop (j + 1 - k)) = numL (runL (s.data.toList.drop k)))) :
    DigRel s w wo vl l k e (.int .i64 ((j : Int) + 1)) (wr.setCell ⟨wo.heap.size, 2, none⟩ (.int .i64 (10 * (v : Int) + ((c : Int) - 48)))).drew := by
  have hap := own_apart hown (Nat.le_refl wo.heap.size)
  refine ⟨j + 1, 10 * v + (c - 48), by omega, hje, by go_num, by omega, ?_, ?_, ?_, ?_, HN⟩
  · show (wr.setCell ⟨wo.heap.size, 2, none⟩ (.int .i64 (10 * (v : Int) + ((c : Int) - 48)))).heap[wo.heap.size]? = _
    rw [show (10 * (v : Int) + ((c : Int) - 48)) = ((10 * v + (c - 48) : Nat) : Int) from by omega]
    simp [World.setCell, Array.getElem?_modify, hbox]
  · refine hown3.kept (row := some wo.heap.size) ⟨rfl, rfl, rfl, by simp [World.setCell], fun i _ hi => Below.heap_setCell _ _ _ _ (fun e => hi (by rw [e]))⟩ (.inr (fun e => hap e.symm))
  · exact (hbel3.setCell (p := ⟨wo.heap.size, 2, none⟩) hbz _).drew
  · show (wr.setCell _ _).heap.size = _
    simp [World.setCell, hsz3]
theorem dig_done {s : ByteArray} {k e v : Nat} {z f : Bool} (hke : k + (runL (s.data.toList.drop k)).length = e) (h : numR z f v ((runL (s.data.toList.drop k)).drop (e - k)) = numL (runL (s.data.toList.drop k))) :
    numL (runL (s.data.toList.drop k)) = if v ≤ 1048576 then some v else none := by
  rw [← h, List.drop_eq_nil_of_le (by omega), numR]
theorem dig_behind {w wr w2 : World} {o : Obj} {e z n : Nat} {v : Value} {xs : List Value} (hb : Below w.heap.size w wr) (hown : wr.ownsRow w.heap.size e z v n xs) (hg : (wr.alloc o).grownBy w2 v.ownBlock) : Below w.heap.size w w2 := by
  have z1 := hb.size
  exact (hb.alloc (by omega) _).grown hg (by simp; omega) fun k hk => (hown.lt k hk).1
/-- The cells of a new block of four. -/
theorem new4 {W : World} {a b c d : Value} {T n : Nat} (hn : n = W.heap.size) : ∀ j u, [a, b, c, d][j]? = some u → (W.alloc (.cells #[a, b, c, d] T)).cell? ((⟨n, 0, none⟩ : Addr).add j) = some u := by
  subst hn
  intro j u hj
  match j, hj with
  | 0, hj => simp at hj; subst hj; simp [Addr.add]
  | 1, hj => simp at hj; subst hj; simp [Addr.add]
  | 2, hj => simp at hj; subst hj; simp [Addr.add]
  | 3, hj => simp at hj; subst hj; simp [Addr.add]
  | n + 4, hj => simp at hj
theorem one4 (a b c : Int) (x : ByteArray) : ∀ u ∈ [Value.int .i64 a, .string x, .int .i64 b, .int .i64 c], u.oneCell' = true := by
  intro u hu; simp at hu; rcases hu with rfl | rfl | rfl | rfl <;> rfl
/-- Behind the append of a token: all below is as it was; the row holds one token more. -/
theorem ref_behind {w wr w2 : World} {o1 o2 : Obj} {e z n : Nat} {v : Value} {xs : List Value} (hb : Below w.heap.size w wr) (hown : wr.ownsRow w.heap.size e z v n xs) (hg : ((wr.alloc o1).alloc o2).grownBy w2 v.ownBlock) : Below w.heap.size w w2 := by
  have z1 := hb.size
  exact ((hb.alloc (by omega) _).alloc (by simp; omega) _).grown hg (by simp; omega) fun k hk => (hown.lt k hk).1
theorem ref_row {w2 : World} {B e : Nat} {v : Value} {l : List Tok} {t : Tok} {x : ByteArray} (h : w2.ownsRow B e 4 v (l.length + 1) (rowC l ++ [.int .i64 t.kind, .string x, .int .i64 t.val, .int .i64 t.loc])) (hx : x = ⟨t.text.toArray⟩) :
    w2.ownsRow B e 4 v (l ++ [t]).length (rowC (l ++ [t])) := by
  subst hx
  rw [List.length_append, rowC_snoc]
  exact h
set_option maxHeartbeats 8000000 in
set_option maxRecDepth 100000 in
theorem ref_any (s : ByteArray) (w : World) (hs : s.size ≤ 140737488351232) : Calls Try.prog 92 #[.string s] w (RefOf (lexL s.data.toList) w) := by
  obtain ⟨i0, hi, hz0, hz1, hz2⟩ := info_parts infoRef
  have HI := Lib.hid hi
  have HZ0 := Lib.hid hz0
  have HZ1 := Lib.hid hz1
  have HZ2 := Lib.hid hz2
  clear hi hz0 hz1 hz2
  go_enter Try.func92, Try.ntmps92
  go_wp2
  go_loopw [5, 6, 7, 8, 9, 10] (fun v i _ _ _ _ wr => RefRel s w v i wr) (fun _ i _ _ _ _ _ => s.size - (intOf i).toNat)
  case atStart => exact ⟨0, [], Nat.zero_le _, rfl, World.ownsRow_made w #[] 0 (Nat.le_refl _) (Nat.zero_le _) (by simp), (Below.refl _ _).alloc (Nat.le_refl _) _, by simp, rfl⟩
  case round =>
    obtain ⟨k, l, hk, rfl, hown, hbel, hl, HR⟩ := hrel
    by_cases hlt : k < s.size
    · have hlt' : k < s.data.toList.length := by rw [bytes_len]; exact hlt
      cases hg : gapB s[k] with
      | true =>
        have HR' : Hid (lexS (s.data.toList.drop (k + 1)) 0 (k + 1) l = lexL s.data.toList) := by rw [← HR.out, lex_gap hlt' hg]; exact rfl
        have CK := fun W => Lib.hid (kind_at (kind_gap hg) W)
        clear HR hg
        go_wp2_with (first
          | (go_at_call 94; refine (CK _).out.mono ?_; rintro e w' ⟨rfl, rfl⟩))
        go_roundw
        case rel => exact ⟨k + 1, l, hlt, by go_num, hown, hbel, hl, HR'⟩
        case measure => simp [intOf]; omega
      | false =>
        have hcons := List.drop_eq_getElem_cons hlt'
        rcases kind_cases s[k] hg with h1 | h1 | h1 | ⟨h0, h1, h2, h3⟩
        · have hin : innB s[k] = true := by simp [innB, h1]
          have hr0 := run_first hlt hin
          have ht := take_let (c := s[k]) (r := s.data.toList.drop (k + 1)) k h1
          have hcons' : s.data.toList.drop k = s[k] :: s.data.toList.drop (k + 1) := hcons
          rw [← hcons'] at ht
          have hR := runL_le (s.data.toList.drop k)
          rw [List.length_drop, bytes_len] at hR
          have CK := fun W => Lib.hid (kind_at (kind_let h1) W)
          obtain ⟨va, vc, rfl⟩ := own_slice hown
          have HO := Lib.hid hown
          have hbz := hbel.size
          clear hcons hcons' hown hin h1
          go_wp2_with (first
            | (go_at_call 94; refine (CK _).out.mono ?_; rintro e w' ⟨rfl, rfl⟩))
          clear CK
          go_loop [8] (fun x => ∃ e : Nat, k + 1 ≤ e ∧ e ≤ s.size ∧ x = .int .i64 e ∧ e - k ≤ (runL (s.data.toList.drop k)).length) (fun x => s.size - (intOf x).toNat)
          case atStart => exact ⟨k + 1, Nat.le_refl _, hlt, by go_num, hr0⟩
          case round =>
            obtain ⟨e, he1, he2, rfl, hr⟩ := hrel
            clear hr0
            by_cases hes : e < s.size ∧ innB (s.data.toList.getD e 0) = true
            · obtain ⟨hes, hin⟩ := hes
              have hin' : innB s[e] = true := by
                rw [List.getD_eq_getElem?_getD, List.getElem?_eq_getElem (by rw [bytes_len]; exact hes)] at hin; exact hin
              obtain ⟨k1, k2⟩ := kind_in hin'
              have hr' := run_go (by omega) hes hin' hr
              clear hin hin' hr
              go_wp2_with (first
                | (go_at_call 94; refine (kind_any _ _).mono ?_; rintro e' w' ⟨rfl, rfl⟩))
              go_round
              case rel => exact ⟨e + 1, by omega, hes, by go_num, hr'⟩
              case measure => simp [intOf]; omega
            · have hout : (¬ e < s.size) ∨ (∃ h : e < s.size, kindN s[e] = 0) ∨ (∃ h : e < s.size, 4 ≤ kindN s[e]) := by
                by_cases h : e < s.size
                · have hno : innB s[e] = false := by
                    have : ¬ innB (s.data.toList.getD e 0) = true := fun e' => hes ⟨h, e'⟩
                    rw [List.getD_eq_getElem?_getD, List.getElem?_eq_getElem (by rw [bytes_len]; exact h)] at this
                    exact Bool.eq_false_iff.2 this
                  rcases kind_out hno with h' | h'
                  · exact .inr (.inl ⟨h, h'⟩)
                  · exact .inr (.inr ⟨h, h'⟩)
                · exact .inl h
              obtain ⟨hx, hRe⟩ := run_end (k := k) (by omega) he2 (fun h => by
                have : ¬ innB (s.data.toList.getD e 0) = true := fun e' => hes ⟨h, e'⟩
                rw [List.getD_eq_getElem?_getD, List.getElem?_eq_getElem (by rw [bytes_len]; exact h)] at this
                exact Bool.eq_false_iff.2 this) hr
              have HX := Lib.hid hx
              have hke : k + (runL (s.data.toList.drop k)).length = e := by clear hout hes; omega
              clear hx hes
              by_cases h20 : e - k ≤ 20
              · rw [if_pos (by omega)] at ht
                by_cases h5 : l.length = 5000
                · have HF : Hid (lexL s.data.toList = ([], k, 4)) := by rw [← HR.out]; exact lex_many hlt' hg ht h5
                  have h5' : 5000 ≤ l.length := by omega
                  clear HR ht hg h5 hl HX hke hr hRe hR
                  rcases hout with ho | ⟨hes, ho⟩ | ⟨hes, ho⟩
                  all_goals
                    go_wp2_with (first
                      | (go_at_call 94; refine (kind_any _ _).mono ?_; rintro e' w' ⟨rfl, rfl⟩))
                    go_loop [10] (fun e => e = .int .i64 k) (fun _ => 0)
                    case atStart => rfl
                    case round =>
                      subst hrel
                      go_wp2_with fail
                      go_ret3
                      exact refOf_err HF.out (hbel.alloc hbz _)
                · have HR' : Hid (lexS (s.data.toList.drop e) 0 e (l ++ [⟨1, runL (s.data.toList.drop k), 0, k⟩]) = lexL s.data.toList) := Lib.hid (by rw [← HR.out, lex_tok hlt' hg ht h5]; simp only [hke])
                  have h5' : l.length + 1 ≤ 5000 := by omega
                  clear HR ht hg h5 hl hke hr hRe hR
                  rcases hout with ho | ⟨hes, ho⟩ | ⟨hes, ho⟩
                  all_goals
                    go_wp2_with (first
                      | (go_at_call 94; refine (kind_any _ _).mono ?_; rintro e' w' ⟨rfl, rfl⟩))
                    go_loop [10] (fun e => e = .int .i64 k) (fun _ => 0)
                    case atStart => rfl
                    case round =>
                      subst hrel
                      go_wp2_with (first
                        | (at_builtin; refine wpList_append_own _ rfl (.tmp 126) (.tmp 128) 131 rfl w.heap.size 135 i0 _ 4 40 Try.underlying131 HI.out HZ0.out HZ1.out HZ2.out rfl (by omega) _ _ _ rfl ((HO.out.alloc _).alloc _) ⟨wr.heap.size + 1, 0, none⟩ 1 1 [.int .i64 1, .string (s.extract k e), .int .i64 0, .int .i64 k] rfl rfl (new4 (by simp)) (one4 _ _ _ _) (by unfold maxLen; omega) (by omega) (by simp; omega) ?_))
                      intro v' w2 hown' hgrow _
                      have hb2 := ref_behind hbel HO.out hgrow
                      have HO' := Lib.hid (ref_row (t := ⟨1, runL (s.data.toList.drop k), 0, k⟩) hown' HX.out)
                      clear hown' hgrow
                      go_wp2
                      go_roundw
                      case rel => exact ⟨e, l ++ [⟨1, runL (s.data.toList.drop k), 0, k⟩], he2, by go_num, HO'.out, hb2, by simpa using h5', HR'⟩
                      case measure => simp [intOf]; omega
              · rw [if_neg (by omega)] at ht
                have HF : Hid (lexL s.data.toList = ([], k, 2)) := by rw [← HR.out]; exact lex_form hlt' hg ht
                clear HR ht hg hl HX hke hr hRe hR
                rcases hout with ho | ⟨hes, ho⟩ | ⟨hes, ho⟩
                all_goals
                  go_wp2_with (first
                    | (go_at_call 94; refine (kind_any _ _).mono ?_; rintro e' w' ⟨rfl, rfl⟩))
                  go_ret3
                  exact refOf_err HF.out (hbel.alloc hbz _)
        · have hin : innB s[k] = true := by simp [innB, h1]
          have hr0 := run_first hlt hin
          have ht := take_dig (c := s[k]) (r := s.data.toList.drop (k + 1)) k h1
          have hcons' : s.data.toList.drop k = s[k] :: s.data.toList.drop (k + 1) := hcons
          rw [← hcons'] at ht
          have hN0 : numR (decide ((s.data.toList.getD k 0).toNat = 48)) true 0 (runL (s.data.toList.drop k)) = numL (runL (s.data.toList.drop k)) := by rw [show s.data.toList.getD k 0 = s[k] from by rw [List.getD_eq_getElem?_getD, List.getElem?_eq_getElem hlt']; rfl, hcons', runL_cons _ _ hin]; exact numR_is _ _
          have HN0 := Lib.hid hN0
          have hR := runL_le (s.data.toList.drop k)
          rw [List.length_drop, bytes_len] at hR
          have CK := fun W => Lib.hid (kind_at (kind_dig h1) W)
          obtain ⟨va, vc, rfl⟩ := own_slice hown
          have HO := Lib.hid hown
          have hbz := hbel.size
          have HG := Lib.hid hg
          have HT := Lib.hid ht
          clear hcons hcons' hown hin h1 hN0 hg ht
          go_wp2_with (first
            | (go_at_call 94; refine (CK _).out.mono ?_; rintro e w' ⟨rfl, rfl⟩))
          clear CK
          go_loop [8] (fun x => ∃ e : Nat, k + 1 ≤ e ∧ e ≤ s.size ∧ x = .int .i64 e ∧ e - k ≤ (runL (s.data.toList.drop k)).length) (fun x => s.size - (intOf x).toNat)
          case atStart => exact ⟨k + 1, Nat.le_refl _, hlt, by go_num, hr0⟩
          case round =>
            obtain ⟨e, he1, he2, rfl, hr⟩ := hrel
            clear hr0
            by_cases hes : e < s.size ∧ innB (s.data.toList.getD e 0) = true
            · obtain ⟨hes, hin⟩ := hes
              have hin' : innB s[e] = true := by
                rw [List.getD_eq_getElem?_getD, List.getElem?_eq_getElem (by rw [bytes_len]; exact hes)] at hin; exact hin
              obtain ⟨k1, k2⟩ := kind_in hin'
              have hr' := run_go (by omega) hes hin' hr
              clear hin hin' hr
              go_wp2_with (first
                | (go_at_call 94; refine (kind_any _ _).mono ?_; rintro e' w' ⟨rfl, rfl⟩))
              go_round
              case rel => exact ⟨e + 1, by omega, hes, by go_num, hr'⟩
              case measure => simp [intOf]; omega
            · have hout : (¬ e < s.size) ∨ (∃ h : e < s.size, kindN s[e] = 0) ∨ (∃ h : e < s.size, 4 ≤ kindN s[e]) := by
                by_cases h : e < s.size
                · have hno : innB s[e] = false := by
                    have : ¬ innB (s.data.toList.getD e 0) = true := fun e' => hes ⟨h, e'⟩
                    rw [List.getD_eq_getElem?_getD, List.getElem?_eq_getElem (by rw [bytes_len]; exact h)] at this
                    exact Bool.eq_false_iff.2 this
                  rcases kind_out hno with h' | h'
                  · exact .inr (.inl ⟨h, h'⟩)
                  · exact .inr (.inr ⟨h, h'⟩)
                · exact .inl h
              obtain ⟨hx, hRe⟩ := run_end (k := k) (by omega) he2 (fun h => by
                have : ¬ innB (s.data.toList.getD e 0) = true := fun e' => hes ⟨h, e'⟩
                rw [List.getD_eq_getElem?_getD, List.getElem?_eq_getElem (by rw [bytes_len]; exact h)] at this
                exact Bool.eq_false_iff.2 this) hr
              have HX := Lib.hid hx
              have hke : k + (runL (s.data.toList.drop k)).length = e := by clear hout hes; omega
              have HRB : Hid (∀ j, k ≤ j → j < e → ∃ h : j < s.size, (runL (s.data.toList.drop k)).drop (j - k) = s[j] :: (runL (s.data.toList.drop k)).drop (j + 1 - k)) := Lib.hid (fun j h1 h2 => run_byte h1 h2 he2 hx)
              have HKE := Lib.hid hke
              obtain ⟨wo, rfl⟩ : ∃ wo : World, wo = wr := ⟨_, rfl⟩
              clear hx hes hke hr hRe hR
              rcases hout with ho | ⟨hes, ho⟩ | ⟨hes, ho⟩
              all_goals
                go_wp2_with (first
                  | (go_at_call 94; refine (kind_any _ _).mono ?_; rintro e' w' ⟨rfl, rfl⟩))
                clear ho
                go_loopw [10] (fun x wr => DigRel s w wo (.slice va l.length vc) l k e x wr) (fun x _ => e - (intOf x).toNat)
                case atStart => exact ⟨k, 0, Nat.le_refl _, by omega, rfl, by omega, heap_alloc_new wo _, HO.out.alloc _, hbel.alloc hbz _, by simp, Lib.hid (by simpa using HN0.out)⟩
                case round =>
                  obtain ⟨j, v, hj1, hj2, rfl, hv, hbox, hown3, hbel3, hsz3, HN⟩ := hrel
                  obtain ⟨b0, b1, b2, b3, b4⟩ := tbox_cells hbox
                  by_cases hje : j < e
                  · obtain ⟨hjs, hdrop⟩ := HRB.out j hj1 hje
                    have hz : ∀ z f, numR z f v ((runL (s.data.toList.drop k)).drop (j - k)) = if digB s[j] && !(z && !f) && decide (v ≤ 1048576) then numR z false (10 * v + (s[j].toNat - 48)) ((runL (s.data.toList.drop k)).drop (j + 1 - k)) else none := by
                      intro z f; rw [hdrop, numR]
                    have HNZ := HN.out
                    rw [hz] at HNZ
                    have hek : (s.data.toList.getD k 0) = s[k] := by rw [List.getD_eq_getElem?_getD, List.getElem?_eq_getElem hlt']; rfl
                    rw [hek] at HNZ
                    clear HN hz hdrop
                    cases hd : digB s[j] with
                    | false =>
                      have HF : Hid (lexL s.data.toList = ([], k, 2)) := Lib.hid (by
                        rw [← HR.out]
                        refine lex_form hlt' HG.out ?_
                        rw [HT.out, ← HNZ, hd]; rfl)
                      have hk2 : ((kindN s[j] : Int) != 2) = true := by
                        rw [bne_iff_ne]
                        have := kind_two (c := s[j]) hd
                        omega
                      clear HNZ hek hd
                      go_wp2_with (first
                        | (go_at_call 94; refine (kind_any _ _).mono ?_; rintro e' w' ⟨rfl, rfl⟩))
                      go_ret3
                      exact refOf_err HF.out hbel3
                    | true =>
                      obtain ⟨d1, d2⟩ := dig_facts hd
                      have CK2 := fun W => Lib.hid (kind_at (kind_dig hd) W)
                      rw [hd] at HNZ
                      by_cases hvM : v ≤ 1048576
                      · rw [decide_eq_true hvM] at HNZ
                        have hvM' : decide ((1048576 : Int) < (v : Int)) = false := by simp; omega
                        by_cases h48 : s[k].toNat = 48
                        · have h48' : ((s[k].toNat : Int) == 48) = true := by rw [beq_iff_eq]; omega
                          rw [decide_eq_true h48] at HNZ
                          by_cases hjk : j = k
                          · have hjk' : decide (k < j) = false := by simp; omega
                            rw [decide_eq_true hjk] at HNZ
                            have HN' : Hid (numR (decide ((s.data.toList.getD k 0).toNat = 48)) (decide (j + 1 = k)) (10 * v + (s[j].toNat - 48)) ((runL (s.data.toList.drop k)).drop (j + 1 - k)) = numL (runL (s.data.toList.drop k))) := Lib.hid (by rw [← HNZ, hek, decide_eq_true h48, decide_eq_false (by omega : ¬ j + 1 = k)]; rfl)
                            clear HNZ hek hd hjk h48
                            go_wp2_with (first
                              | (go_at_call 94; refine (CK2 _).out.mono ?_; rintro e' w' ⟨rfl, rfl⟩))
                            go_region
                            go_wp2_with fail
                            go_roundw
                            case rel => exact dig_step HO.out hbz hj1 hje hvM d1 d2 hbox hown3 hbel3 hsz3 HN'
                            case measure => simp [intOf]; omega
                          · have hjk' : decide (k < j) = true := by simp; omega
                            have HF : Hid (lexL s.data.toList = ([], k, 2)) := Lib.hid (by
                              rw [← HR.out]
                              refine lex_form hlt' HG.out ?_
                              rw [HT.out, ← HNZ, decide_eq_false hjk]; rfl)
                            clear HNZ hek hd hjk h48 hvM
                            go_wp2_with (first
                              | (go_at_call 94; refine (CK2 _).out.mono ?_; rintro e' w' ⟨rfl, rfl⟩))
                            go_ret3
                            exact refOf_err HF.out hbel3
                        · have h48' : ((s[k].toNat : Int) == 48) = false := by rw [beq_eq_false_iff_ne]; omega
                          have HN' : Hid (numR (decide ((s.data.toList.getD k 0).toNat = 48)) (decide (j + 1 = k)) (10 * v + (s[j].toNat - 48)) ((runL (s.data.toList.drop k)).drop (j + 1 - k)) = numL (runL (s.data.toList.drop k))) := Lib.hid (by rw [← HNZ, hek, decide_eq_false h48, decide_eq_false (by omega : ¬ j + 1 = k)]; rfl)
                          clear HNZ hek hd h48
                          go_wp2_with (first
                            | (go_at_call 94; refine (CK2 _).out.mono ?_; rintro e' w' ⟨rfl, rfl⟩))
                          go_region
                          go_wp2_with fail
                          go_roundw
                          case rel => exact dig_step HO.out hbz hj1 hje hvM d1 d2 hbox hown3 hbel3 hsz3 HN'
                          case measure => simp [intOf]; omega
                      · have HF : Hid (lexL s.data.toList = ([], k, 2)) := Lib.hid (by
                          rw [← HR.out]
                          refine lex_form hlt' HG.out ?_
                          rw [HT.out, ← HNZ, decide_eq_false hvM, Bool.and_false]; rfl)
                        have hvM' : decide ((1048576 : Int) < (v : Int)) = true := by simp; omega
                        clear HNZ hek hd
                        have h48' : (((s[k].toNat : Int) == 48) = true ∧ decide (k < j) = true) ∨ (((s[k].toNat : Int) == 48) = true ∧ decide (k < j) = false) ∨ (((s[k].toNat : Int) == 48) = false ∧ True) := by
                          by_cases h48 : s[k].toNat = 48
                          · by_cases hjk : k < j
                            · left; rw [beq_iff_eq, decide_eq_true_eq]; omega
                            · right; left; rw [beq_iff_eq, decide_eq_false_iff_not]; omega
                          · right; right; refine ⟨?_, trivial⟩; rw [beq_eq_false_iff_ne]; omega
                        rcases h48' with ⟨q1, q2⟩ | ⟨q1, q2⟩ | ⟨q1, _⟩
                        all_goals
                          go_wp2_with (first
                            | (go_at_call 94; refine (CK2 _).out.mono ?_; rintro e' w' ⟨rfl, rfl⟩))
                          go_ret3
                          exact refOf_err HF.out hbel3
                  · obtain rfl : j = e := by omega
                    have hN := dig_done HKE.out HN.out
                    clear HN
                    by_cases hvM : v ≤ 1048576
                    · rw [if_pos hvM] at hN
                      have ht := HT.out
                      rw [hN, Option.map_some] at ht
                      have hvM' : decide ((1048576 : Int) < (v : Int)) = false := by simp; omega
                      by_cases h5 : l.length = 5000
                      · have HF : Hid (lexL s.data.toList = ([], k, 4)) := Lib.hid (by rw [← HR.out]; exact lex_many hlt' HG.out ht h5)
                        have h5' : 5000 ≤ l.length := by omega
                        clear ht hN h5 hl
                        go_wp2_with fail
                        go_ret3
                        exact refOf_err HF.out hbel3
                      · have HR' : Hid (lexS (s.data.toList.drop j) 0 j (l ++ [⟨2, runL (s.data.toList.drop k), v, k⟩]) = lexL s.data.toList) := Lib.hid (by rw [← HR.out, lex_tok hlt' HG.out ht h5]; simp only [HKE.out])
                        have h5' : l.length + 1 ≤ 5000 := by omega
                        have HO3 := Lib.hid hown3
                        have hz3 := hbel3.size
                        have HZ3 := Lib.hid hsz3
                        clear ht hN h5 hl hown3 HN0 HRB
                        go_wp2_with (first
                          | (at_builtin; refine wpList_append_own _ rfl (.tmp 126) (.tmp 128) 131 rfl w.heap.size 135 i0 _ 4 40 Try.underlying131 HI.out HZ0.out HZ1.out HZ2.out rfl (by omega) _ _ _ rfl (HO3.out.alloc _) ⟨wo.heap.size + 1, 0, none⟩ 1 1 [.int .i64 2, .string (s.extract k j), .int .i64 v, .int .i64 k] rfl rfl (new4 HZ3.out.symm) (one4 _ _ _ _) (by unfold maxLen; omega) (by omega) (by simp; omega) ?_))
                        intro v' w2 hown' hgrow _
                        have hb2 := dig_behind hbel3 HO3.out hgrow
                        have HO' := Lib.hid (ref_row (t := ⟨2, runL (s.data.toList.drop k), v, k⟩) hown' HX.out)
                        clear hown' hgrow
                        go_wp2
                        go_roundw
                        case rel => exact ⟨j, l ++ [⟨2, runL (s.data.toList.drop k), v, k⟩], he2, rfl, HO'.out, hb2, by simpa using h5', HR'⟩
                        case measure => simp [intOf]; omega
                    · rw [if_neg hvM] at hN
                      have HF : Hid (lexL s.data.toList = ([], k, 2)) := Lib.hid (by
                        rw [← HR.out]
                        refine lex_form hlt' HG.out ?_
                        rw [HT.out, hN]; rfl)
                      have hvM' : decide ((1048576 : Int) < (v : Int)) = true := by simp; omega
                      clear hN
                      go_wp2_with fail
                      go_ret3
                      exact refOf_err HF.out hbel3
        · have ht : takeL (s.data.toList.drop k) k = some ⟨3, [59], 0, k⟩ := take_semi hlt (by rw [hcons]; simp only [semiB, decide_eq_true_eq]; exact h1)
          have HX : Hid (s.extract k (k + 1) = ⟨#[59]⟩) := Lib.hid (by
            have : (s.extract k (k + 1)).data.toList = [59] := by
              rw [Lib.extract_data, hcons, show k + 1 - k = 1 from by omega, List.take_succ_cons, List.take_zero]
              congr 1
              exact (u8_eq (n := 59) (by omega)).2 h1
            exact bytes_eq this)
          have CK := fun W => Lib.hid (kind_at (kind_semi h1) W)
          obtain ⟨va, vc, rfl⟩ := own_slice hown
          have HO := Lib.hid hown
          have hbz := hbel.size
          by_cases h5 : l.length = 5000
          · have HF : Hid (lexL s.data.toList = ([], k, 4)) := by rw [← HR.out]; exact lex_many hlt' hg ht h5
            have h5' : 5000 ≤ l.length := by omega
            clear HR ht hcons hg h1 hown h5 hl HX
            go_wp2_with (first
              | (go_at_call 94; refine (CK _).out.mono ?_; rintro e w' ⟨rfl, rfl⟩))
            go_loop [8] (fun e => e = .int .i64 (k + 1)) (fun _ => 0)
            case atStart => rfl
            case round =>
              subst hrel
              go_wp2_with fail
              go_loop [10] (fun e => e = .int .i64 k) (fun _ => 0)
              case atStart => rfl
              case round =>
                subst hrel
                go_wp2_with fail
                go_ret3
                exact refOf_err HF.out (hbel.alloc hbz _)
          · have HR' : Hid (lexS (s.data.toList.drop (k + 1)) 0 (k + 1) (l ++ [⟨3, [59], 0, k⟩]) = lexL s.data.toList) := by rw [← HR.out]; exact (lex_tok hlt' hg ht h5).symm
            have h5' : l.length + 1 ≤ 5000 := by omega
            clear HR ht hcons hg h1 hown h5 hl
            go_wp2_with (first
              | (go_at_call 94; refine (CK _).out.mono ?_; rintro e w' ⟨rfl, rfl⟩))
            go_loop [8] (fun e => e = .int .i64 (k + 1)) (fun _ => 0)
            case atStart => rfl
            case round =>
              subst hrel
              go_wp2_with fail
              go_loop [10] (fun e => e = .int .i64 k) (fun _ => 0)
              case atStart => rfl
              case round =>
                subst hrel
                go_wp2_with (first
                  | (at_builtin; refine wpList_append_own _ rfl (.tmp 126) (.tmp 128) 131 rfl w.heap.size 135 i0 _ 4 40 Try.underlying131 HI.out HZ0.out HZ1.out HZ2.out rfl (by omega) _ _ _ rfl ((HO.out.alloc _).alloc _) ⟨wr.heap.size + 1, 0, none⟩ 1 1 [.int .i64 3, .string (s.extract k (k + 1)), .int .i64 0, .int .i64 k] rfl rfl (new4 (by simp)) (one4 _ _ _ _) (by unfold maxLen; omega) (by omega) (by simp; omega) ?_))
                intro v' w2 hown' hgrow _
                have hb2 := ref_behind hbel HO.out hgrow
                have HO' := Lib.hid (ref_row (t := ⟨3, [59], 0, k⟩) hown' HX.out)
                clear hown' hgrow
                go_wp2
                go_roundw
                case rel => exact ⟨k + 1, l ++ [⟨3, [59], 0, k⟩], hlt, by go_num, HO'.out, hb2, by simpa using h5', HR'⟩
                case measure => simp [intOf]; omega
        · have ht : takeL (s.data.toList.drop k) k = none := by rw [hcons]; exact take_bad k h1 h2 h3
          have HF : Hid (lexL s.data.toList = ([], k, 2)) := by rw [← HR.out]; exact lex_form hlt' hg ht
          have hn : kindN s[k] ≤ 5 := by rcases h0 with h | h <;> omega
          clear HR ht hcons hg h1 h2 h3 hown
          rcases h0 with h0 | h0
          all_goals
            have CK := fun W => Lib.hid (kind_at h0 W)
            clear h0
            go_wp2_with (first
              | (go_at_call 94; refine (CK _).out.mono ?_; rintro e w' ⟨rfl, rfl⟩))
            go_ret3
            exact refOf_err HF.out hbel
    · have HF : Hid (lexL s.data.toList = (l, 0, 0)) := by rw [← HR.out]; exact lex_end (by rw [bytes_len]; omega)
      clear HR
      go_wp2_with fail
      go_ret3
      exact refOf_ok HF.out hown hbel
end Go.Proofs.Ytahhhhacoigpmaa
