/-
  Contract of eventWords (gen_tpq.py).
-/
import Derived.Test.YtjgcjnkeeiaafaaGreatDoorTcba
namespace Go.Proofs.YtjgcjnkeeiaafaaGreatDoor.P3.C
open Go.RowKit Go.Shelf Go.Proofs.YtjgcjnkeeiaafaaGreatDoor.B Go.Proofs.YtjgcjnkeeiaafaaGreatDoor.Lx Go.Proofs.YtjgcjnkeeiaafaaGreatDoor.P3
/-- What stands while an event's words are put together: its box, the words so far. -/
structure EW (w : World) (y : Nat) (nm gr ro : ByteArray) (inn dn : Bool) (du : Int) (v : Value) (n : Nat) (xs : List Value) (W : World) : Prop where
  x : W.heap[y]? = some (.cells #[.string nm, .string gr, .string ro, .bool inn, .bool dn, .int .i64 du] 40 (0, 0))
  o : W.ownsRow w.heap.size 9 1 v n xs
  b : Below w.heap.size w W
section
variable {w W W1 : World} {y n m : Nat} {nm gr ro : ByteArray} {inn dn : Bool} {du : Int} {v v' : Value} {xs news : List Value}
theorem EW.lt (h : EW w y nm gr ro inn dn du v n xs W) : y < W.heap.size := blk_lt h.x
theorem EW.cells (h : EW w y nm gr ro inn dn du v n xs W) : W.cell? ⟨y, 2, none⟩ = some (.string ro) ∧ W.cell? ⟨y, 3, none⟩ = some (.bool inn) ∧ W.cell? ⟨y, 4, none⟩ = some (.bool dn) ∧ W.cell? ⟨y, 5, none⟩ = some (.int .i64 du) :=
  ⟨cell_blk h.x rfl, cell_blk h.x rfl, cell_blk h.x rfl, cell_blk h.x rfl⟩
theorem EW.below (h : EW w y nm gr ro inn dn du v n xs W) (hb : Below W.heap.size W W1) : EW w y nm gr ro inn dn du v n xs W1 :=
  ⟨(hb.block _ h.lt).trans h.x, Go.Proofs.YtjgcjnkeeiaafaaGreatDoor.B.own_below h.o hb, h.b.trans (hb.mono h.b.size)⟩
theorem EW.grow (h : EW w y nm gr ro inn dn du v n xs W) (o : Obj) (ho : W1.ownsRow w.heap.size 9 1 v' (n + m) (xs ++ news)) (hg : (W.alloc o).grownBy W1 v.ownBlock) : EW w y nm gr ro inn dn du v' (n + m) (xs ++ news) W1 := by
  have h1 := h.below ((Below.refl _ _).alloc (Nat.le_refl _) o)
  exact ⟨(hg.block _ h1.lt (fun e => own_far h1.o h1.x (by decide) e.symm)).trans h1.x, ho, h1.b.grown hg h1.b.size (fun q hq => (h1.o.lt q hq).1)⟩
end
theorem wd1 (a : ByteArray) : ∀ u ∈ ([.string a] : List Value), u.oneCell' = true := by intro u hu; simp at hu; subst hu; rfl
theorem wd2 (a b : ByteArray) : ∀ u ∈ ([.string a, .string b] : List Value), u.oneCell' = true := by intro u hu; simp at hu; rcases hu with rfl | rfl <;> rfl
set_option maxRecDepth 100000 in
set_option maxHeartbeats 8000000 in
theorem event_words (w : World) (v : Ev) (ht : Tab w.heap.size w) (h0 : -1 ≤ v.due ∧ v.due ≤ 1048576) :
    Calls Tryz.prog 22 #[.agg #[.string v.name, .string v.group, .string v.role, .bool v.inn, .bool v.done, .int .i64 v.due]] w (WdP w (evW v)) := by
  obtain ⟨i0, hi0, hi1, hi2, hi3⟩ := info_parts info_str
  obtain ⟨nm, gr, ro, inn, dn, du⟩ := v
  simp only at h0
  obtain ⟨hd0, hd1⟩ := h0
  obtain ⟨y, hy⟩ : ∃ y, y = w.heap.size := ⟨_, rfl⟩
  obtain ⟨W, hW⟩ : ∃ W, W = (w.alloc (.cells #[.string nm, .string gr, .string ro, .bool inn, .bool dn, .int .i64 du] 40)).alloc (.cells #[sb [101, 118, 101, 110, 116], .string nm] 9) := ⟨_, rfl⟩
  have hal := (Below.refl w.heap.size w).alloc (Nat.le_refl _) (.cells #[.string nm, .string gr, .string ro, .bool inn, .bool dn, .int .i64 du] 40)
  have hb : Below w.heap.size w W := by rw [hW]; exact hal.alloc hal.size _
  have ho : W.ownsRow w.heap.size 9 1 (.slice (some ⟨y + 1, 0, none⟩) 2 2) [([101, 118, 101, 110, 116] : List UInt8), nm.toList].length ([([101, 118, 101, 110, 116] : List UInt8), nm.toList].map sb) := by
    rw [hW, hy]
    have := own_new (w.alloc (.cells #[.string nm, .string gr, .string ro, .bool inn, .bool dn, .int .i64 du] 40)) (B := w.heap.size) (e := 9) (z := 1) (n := 2) (xs := [sb [101, 118, 101, 110, 116], .string nm]) hal.size rfl (by unfold maxLen; omega)
    rw [World.size_alloc] at this
    rw [List.map_cons, List.map_cons, List.map_nil, sb_of]
    exact this
  have hx : W.heap[y]? = some (.cells #[.string nm, .string gr, .string ro, .bool inn, .bool dn, .int .i64 du] 40 (0, 0)) := by rw [hW, hy]; exact heap_old (by rw [World.size_alloc]; omega) (heap_new _ _)
  have HC := Lib.hid (opt_words w.heap.size W _ [([101, 118, 101, 110, 116] : List UInt8), nm.toList] [105, 110] gr.toList ho hb.size (by simp))
  rw [sb_of] at HC
  have HB := Lib.hid hb
  have HX := Lib.hid hx
  have HT := Lib.hid ht
  have hWs : W.heap.size = y + 1 + 1 := by rw [hW, hy, World.size_alloc, World.size_alloc]
  have HYW := Lib.hid hy
  have HE : Hid (evW ⟨nm, gr, ro, inn, dn, du⟩ = optB [([101, 118, 101, 110, 116] : List UInt8), nm.toList] [105, 110] gr.toList ++ [([114, 111, 108, 101] : List UInt8), ro.toList] ++ (if inn then [] else [([101, 120, 99, 108, 117, 100, 101, 100] : List UInt8)]) ++ (if dn then [([100, 111, 110, 101] : List UInt8)] else []) ++ dueW du) := Lib.hid rfl
  have HPO : Hid (∀ v w', w'.ownsRow w.heap.size 9 1 v (evW ⟨nm, gr, ro, inn, dn, du⟩).length ((evW ⟨nm, gr, ro, inn, dn, du⟩).map sb) → Below w.heap.size w w' → WdP w (evW ⟨nm, gr, ro, inn, dn, du⟩) (.returned v) w') := Lib.hid (fun v w' h1 h2 => ⟨v, rfl, h1, h2⟩)
  generalize WdP w (evW ⟨nm, gr, ro, inn, dn, du⟩) = PO at *
  rw [HE.out] at HPO
  have hon : (optB [([101, 118, 101, 110, 116] : List UInt8), nm.toList] [105, 110] gr.toList).length ≤ 4 := by unfold optB; split <;> simp
  obtain ⟨O, hO⟩ : ∃ O, O = optB [([101, 118, 101, 110, 116] : List UInt8), nm.toList] [105, 110] gr.toList := ⟨_, rfl⟩
  rw [← hO] at HC HPO hon
  have HSR := Lib.hid (sb_of ro)
  obtain ⟨n0, hn0⟩ : ∃ n0, n0 = O.length := ⟨_, rfl⟩
  obtain ⟨xs0, hxs0⟩ : ∃ xs0, xs0 = O.map sb := ⟨_, rfl⟩
  rw [← hn0, ← hxs0] at HC
  rw [← hn0] at hon
  have HN0 := Lib.hid hn0
  have HXS := Lib.hid hxs0
  clear ho hb hx hal ht HE hO hn0 hxs0
  go_enter Tryz.func22, Tryz.ntmps22
  go_wp2_with fail
  rw [← hy]
  rw [← hW]
  clear hW hy
  refine HC.out.mono ?_
  rintro e w2 ⟨v2, rfl, h1, h2⟩
  obtain ⟨p2, c2, rfl⟩ := Go.Proofs.YtjgcjnkeeiaafaaGreatDoor.B.own_slice h1
  have h2' : W.grownBy w2 (some (y + 1)) := h2
  have S2 : Hid (EW w y nm gr ro inn dn du (.slice p2 n0 c2) n0 xs0 w2) := Lib.hid ⟨(h2'.block _ (blk_lt HX.out) (fun e => by have := Option.some.inj e; omega)).trans HX.out, h1, HB.out.grown h2' HB.out.size (fun j hj => by have := HYW.out; cases hj; omega)⟩
  clear HC h1 h2 h2' HX HB hWs
  obtain ⟨q2, q3, q4, q5⟩ := S2.out.cells
  have hlt := S2.out.lt
  have hsz := S2.out.b.size
  have C1 := Lib.hid (cells_new w2 9 [.string ⟨#[114, 111, 108, 101]⟩, .string ro])
  have C2 := Lib.hid (wd2 ⟨#[114, 111, 108, 101]⟩ ro)
  go_wp2_with (at_builtin; refine wpList_append_own_at _ rfl (.tmp 10) (.tmp 13) 72 rfl w.heap.size 9 i0 _ 1 16 Tryz.underlying72 hi0 hi1 hi2 hi3 rfl (by omega) _ _ _ rfl (S2.out.o.alloc _) ⟨w2.heap.size, 0, none⟩ 2 2 [.string ⟨#[114, 111, 108, 101]⟩, .string ro] rfl rfl C1.out C2.out (by unfold maxLen; omega) (by omega) (by rw [World.size_alloc]; omega) ?_)
  intro v3 w3 hown hgrow _ _
  obtain ⟨p3, c3, rfl⟩ := Go.Proofs.YtjgcjnkeeiaafaaGreatDoor.B.own_slice hown
  have S3 := Lib.hid (S2.out.grow (m := 2) (news := [.string ⟨#[114, 111, 108, 101]⟩, .string ro]) _ (by simpa using hown) hgrow)
  clear hown hgrow C1 C2 q2 q3 q4 q5 hlt hsz S2
  by_cases hm : du = -1
  · have hdu := hm
    clear hm
    cases inn with
    | true =>
      cases dn with
      | true =>
        subst hdu
        have hdw : dueW (-1) = [] := rfl
        have HF : Hid (∀ v w', w'.ownsRow w.heap.size 9 1 v (n0 + 2 + 1) ((xs0 ++ [.string ⟨#[114, 111, 108, 101]⟩, .string ro]) ++ [.string ⟨#[100, 111, 110, 101]⟩]) → Below w.heap.size w w' → PO (.returned v) w') := Lib.hid (fun v w' h1 h2 => HPO.out v w' (by
          rw [hdw]
          have a1 : (O ++ [[114, 111, 108, 101], ro.toList] ++ (if true = true then [] else [[101, 120, 99, 108, 117, 100, 101, 100]]) ++ (if true = true then [[100, 111, 110, 101]] else []) ++ [] : List (List UInt8)).length = n0 + 2 + 1 := by rw [HN0.out]; simp
          have a2 : (O ++ [[114, 111, 108, 101], ro.toList] ++ (if true = true then [] else [[101, 120, 99, 108, 117, 100, 101, 100]]) ++ (if true = true then [[100, 111, 110, 101]] else []) ++ [] : List (List UInt8)).map sb = ((xs0 ++ [.string ⟨#[114, 111, 108, 101]⟩, .string ro]) ++ [.string ⟨#[100, 111, 110, 101]⟩]) := by rw [HXS.out, ← HSR.out]; simp
          rw [a1, a2]; exact h1) h2)
        clear HPO hdw
        obtain ⟨q2, q3, q4, q5⟩ := S3.out.cells
        have hlt := S3.out.lt
        have hsz := S3.out.b.size
        have C1 := Lib.hid (cells_new w3 9 [.string ⟨#[100, 111, 110, 101]⟩])
        have C2 := Lib.hid (wd1 ⟨#[100, 111, 110, 101]⟩)
        go_wp2_with (at_builtin; refine wpList_append_own_at _ rfl (.tmp 23) (.tmp 24) 72 rfl w.heap.size 9 i0 _ 1 16 Tryz.underlying72 hi0 hi1 hi2 hi3 rfl (by omega) _ _ _ rfl (S3.out.o.alloc _) ⟨w3.heap.size, 0, none⟩ 1 1 [.string ⟨#[100, 111, 110, 101]⟩] rfl rfl C1.out C2.out (by unfold maxLen; omega) (by omega) (by rw [World.size_alloc]; omega) ?_)
        intro v4 w4 hown hgrow _ _
        obtain ⟨p4, c4, rfl⟩ := Go.Proofs.YtjgcjnkeeiaafaaGreatDoor.B.own_slice hown
        have S4 := Lib.hid (S3.out.grow (m := 1) (news := [.string ⟨#[100, 111, 110, 101]⟩]) _ (by simpa using hown) hgrow)
        clear hown hgrow C1 C2 q2 q3 q4 q5 hlt hsz S3
        have HG := Lib.hid (HF.out _ _ S4.out.o S4.out.b)
        obtain ⟨q2, q3, q4, q5⟩ := S4.out.cells
        have hlt := S4.out.lt
        go_wp2_with fail
        first | exact HG.out | (go_ret; exact HG.out)
      | false =>
        subst hdu
        have hdw : dueW (-1) = [] := rfl
        have HF : Hid (∀ v w', w'.ownsRow w.heap.size 9 1 v (n0 + 2) (xs0 ++ [.string ⟨#[114, 111, 108, 101]⟩, .string ro]) → Below w.heap.size w w' → PO (.returned v) w') := Lib.hid (fun v w' h1 h2 => HPO.out v w' (by
          rw [hdw]
          have a1 : (O ++ [[114, 111, 108, 101], ro.toList] ++ (if true = true then [] else [[101, 120, 99, 108, 117, 100, 101, 100]]) ++ (if false = true then [[100, 111, 110, 101]] else []) ++ [] : List (List UInt8)).length = n0 + 2 := by rw [HN0.out]; simp
          have a2 : (O ++ [[114, 111, 108, 101], ro.toList] ++ (if true = true then [] else [[101, 120, 99, 108, 117, 100, 101, 100]]) ++ (if false = true then [[100, 111, 110, 101]] else []) ++ [] : List (List UInt8)).map sb = (xs0 ++ [.string ⟨#[114, 111, 108, 101]⟩, .string ro]) := by rw [HXS.out, ← HSR.out]; simp
          rw [a1, a2]; exact h1) h2)
        clear HPO hdw
        have HG := Lib.hid (HF.out _ _ S3.out.o S3.out.b)
        obtain ⟨q2, q3, q4, q5⟩ := S3.out.cells
        have hlt := S3.out.lt
        go_wp2_with fail
        first | exact HG.out | (go_ret; exact HG.out)
    | false =>
      cases dn with
      | true =>
        subst hdu
        have hdw : dueW (-1) = [] := rfl
        have HF : Hid (∀ v w', w'.ownsRow w.heap.size 9 1 v (n0 + 2 + 1 + 1) (((xs0 ++ [.string ⟨#[114, 111, 108, 101]⟩, .string ro]) ++ [.string ⟨#[101, 120, 99, 108, 117, 100, 101, 100]⟩]) ++ [.string ⟨#[100, 111, 110, 101]⟩]) → Below w.heap.size w w' → PO (.returned v) w') := Lib.hid (fun v w' h1 h2 => HPO.out v w' (by
          rw [hdw]
          have a1 : (O ++ [[114, 111, 108, 101], ro.toList] ++ (if false = true then [] else [[101, 120, 99, 108, 117, 100, 101, 100]]) ++ (if true = true then [[100, 111, 110, 101]] else []) ++ [] : List (List UInt8)).length = n0 + 2 + 1 + 1 := by rw [HN0.out]; simp
          have a2 : (O ++ [[114, 111, 108, 101], ro.toList] ++ (if false = true then [] else [[101, 120, 99, 108, 117, 100, 101, 100]]) ++ (if true = true then [[100, 111, 110, 101]] else []) ++ [] : List (List UInt8)).map sb = (((xs0 ++ [.string ⟨#[114, 111, 108, 101]⟩, .string ro]) ++ [.string ⟨#[101, 120, 99, 108, 117, 100, 101, 100]⟩]) ++ [.string ⟨#[100, 111, 110, 101]⟩]) := by rw [HXS.out, ← HSR.out]; simp
          rw [a1, a2]; exact h1) h2)
        clear HPO hdw
        obtain ⟨q2, q3, q4, q5⟩ := S3.out.cells
        have hlt := S3.out.lt
        have hsz := S3.out.b.size
        have C1 := Lib.hid (cells_new w3 9 [.string ⟨#[101, 120, 99, 108, 117, 100, 101, 100]⟩])
        have C2 := Lib.hid (wd1 ⟨#[101, 120, 99, 108, 117, 100, 101, 100]⟩)
        go_wp2_with (at_builtin; refine wpList_append_own_at _ rfl (.tmp 18) (.tmp 19) 72 rfl w.heap.size 9 i0 _ 1 16 Tryz.underlying72 hi0 hi1 hi2 hi3 rfl (by omega) _ _ _ rfl (S3.out.o.alloc _) ⟨w3.heap.size, 0, none⟩ 1 1 [.string ⟨#[101, 120, 99, 108, 117, 100, 101, 100]⟩] rfl rfl C1.out C2.out (by unfold maxLen; omega) (by omega) (by rw [World.size_alloc]; omega) ?_)
        intro v4 w4 hown hgrow _ _
        obtain ⟨p4, c4, rfl⟩ := Go.Proofs.YtjgcjnkeeiaafaaGreatDoor.B.own_slice hown
        have S4 := Lib.hid (S3.out.grow (m := 1) (news := [.string ⟨#[101, 120, 99, 108, 117, 100, 101, 100]⟩]) _ (by simpa using hown) hgrow)
        clear hown hgrow C1 C2 q2 q3 q4 q5 hlt hsz S3
        obtain ⟨q2, q3, q4, q5⟩ := S4.out.cells
        have hlt := S4.out.lt
        have hsz := S4.out.b.size
        have C1 := Lib.hid (cells_new w4 9 [.string ⟨#[100, 111, 110, 101]⟩])
        have C2 := Lib.hid (wd1 ⟨#[100, 111, 110, 101]⟩)
        go_wp2_with (at_builtin; refine wpList_append_own_at _ rfl (.tmp 23) (.tmp 24) 72 rfl w.heap.size 9 i0 _ 1 16 Tryz.underlying72 hi0 hi1 hi2 hi3 rfl (by omega) _ _ _ rfl (S4.out.o.alloc _) ⟨w4.heap.size, 0, none⟩ 1 1 [.string ⟨#[100, 111, 110, 101]⟩] rfl rfl C1.out C2.out (by unfold maxLen; omega) (by omega) (by rw [World.size_alloc]; omega) ?_)
        intro v5 w5 hown hgrow _ _
        obtain ⟨p5, c5, rfl⟩ := Go.Proofs.YtjgcjnkeeiaafaaGreatDoor.B.own_slice hown
        have S5 := Lib.hid (S4.out.grow (m := 1) (news := [.string ⟨#[100, 111, 110, 101]⟩]) _ (by simpa using hown) hgrow)
        clear hown hgrow C1 C2 q2 q3 q4 q5 hlt hsz S4
        have HG := Lib.hid (HF.out _ _ S5.out.o S5.out.b)
        obtain ⟨q2, q3, q4, q5⟩ := S5.out.cells
        have hlt := S5.out.lt
        go_wp2_with fail
        first | exact HG.out | (go_ret; exact HG.out)
      | false =>
        subst hdu
        have hdw : dueW (-1) = [] := rfl
        have HF : Hid (∀ v w', w'.ownsRow w.heap.size 9 1 v (n0 + 2 + 1) ((xs0 ++ [.string ⟨#[114, 111, 108, 101]⟩, .string ro]) ++ [.string ⟨#[101, 120, 99, 108, 117, 100, 101, 100]⟩]) → Below w.heap.size w w' → PO (.returned v) w') := Lib.hid (fun v w' h1 h2 => HPO.out v w' (by
          rw [hdw]
          have a1 : (O ++ [[114, 111, 108, 101], ro.toList] ++ (if false = true then [] else [[101, 120, 99, 108, 117, 100, 101, 100]]) ++ (if false = true then [[100, 111, 110, 101]] else []) ++ [] : List (List UInt8)).length = n0 + 2 + 1 := by rw [HN0.out]; simp
          have a2 : (O ++ [[114, 111, 108, 101], ro.toList] ++ (if false = true then [] else [[101, 120, 99, 108, 117, 100, 101, 100]]) ++ (if false = true then [[100, 111, 110, 101]] else []) ++ [] : List (List UInt8)).map sb = ((xs0 ++ [.string ⟨#[114, 111, 108, 101]⟩, .string ro]) ++ [.string ⟨#[101, 120, 99, 108, 117, 100, 101, 100]⟩]) := by rw [HXS.out, ← HSR.out]; simp
          rw [a1, a2]; exact h1) h2)
        clear HPO hdw
        obtain ⟨q2, q3, q4, q5⟩ := S3.out.cells
        have hlt := S3.out.lt
        have hsz := S3.out.b.size
        have C1 := Lib.hid (cells_new w3 9 [.string ⟨#[101, 120, 99, 108, 117, 100, 101, 100]⟩])
        have C2 := Lib.hid (wd1 ⟨#[101, 120, 99, 108, 117, 100, 101, 100]⟩)
        go_wp2_with (at_builtin; refine wpList_append_own_at _ rfl (.tmp 18) (.tmp 19) 72 rfl w.heap.size 9 i0 _ 1 16 Tryz.underlying72 hi0 hi1 hi2 hi3 rfl (by omega) _ _ _ rfl (S3.out.o.alloc _) ⟨w3.heap.size, 0, none⟩ 1 1 [.string ⟨#[101, 120, 99, 108, 117, 100, 101, 100]⟩] rfl rfl C1.out C2.out (by unfold maxLen; omega) (by omega) (by rw [World.size_alloc]; omega) ?_)
        intro v4 w4 hown hgrow _ _
        obtain ⟨p4, c4, rfl⟩ := Go.Proofs.YtjgcjnkeeiaafaaGreatDoor.B.own_slice hown
        have S4 := Lib.hid (S3.out.grow (m := 1) (news := [.string ⟨#[101, 120, 99, 108, 117, 100, 101, 100]⟩]) _ (by simpa using hown) hgrow)
        clear hown hgrow C1 C2 q2 q3 q4 q5 hlt hsz S3
        have HG := Lib.hid (HF.out _ _ S4.out.o S4.out.b)
        obtain ⟨q2, q3, q4, q5⟩ := S4.out.cells
        have hlt := S4.out.lt
        go_wp2_with fail
        first | exact HG.out | (go_ret; exact HG.out)
  · by_cases hp : du = 1048576
    · have hdu := hp
      clear hp hm
      cases inn with
      | true =>
        cases dn with
        | true =>
          subst hdu
          have hdw : dueW 1048576 = [[112, 101, 110, 100, 105, 110, 103]] := rfl
          have HF : Hid (∀ v w', w'.ownsRow w.heap.size 9 1 v (n0 + 2 + 1 + 1) (((xs0 ++ [.string ⟨#[114, 111, 108, 101]⟩, .string ro]) ++ [.string ⟨#[100, 111, 110, 101]⟩]) ++ [.string ⟨#[112, 101, 110, 100, 105, 110, 103]⟩]) → Below w.heap.size w w' → PO (.returned v) w') := Lib.hid (fun v w' h1 h2 => HPO.out v w' (by
            rw [hdw]
            have a1 : (O ++ [[114, 111, 108, 101], ro.toList] ++ (if true = true then [] else [[101, 120, 99, 108, 117, 100, 101, 100]]) ++ (if true = true then [[100, 111, 110, 101]] else []) ++ [[112, 101, 110, 100, 105, 110, 103]] : List (List UInt8)).length = n0 + 2 + 1 + 1 := by rw [HN0.out]; simp
            have a2 : (O ++ [[114, 111, 108, 101], ro.toList] ++ (if true = true then [] else [[101, 120, 99, 108, 117, 100, 101, 100]]) ++ (if true = true then [[100, 111, 110, 101]] else []) ++ [[112, 101, 110, 100, 105, 110, 103]] : List (List UInt8)).map sb = (((xs0 ++ [.string ⟨#[114, 111, 108, 101]⟩, .string ro]) ++ [.string ⟨#[100, 111, 110, 101]⟩]) ++ [.string ⟨#[112, 101, 110, 100, 105, 110, 103]⟩]) := by rw [HXS.out, ← HSR.out]; simp
            rw [a1, a2]; exact h1) h2)
          clear HPO hdw
          obtain ⟨q2, q3, q4, q5⟩ := S3.out.cells
          have hlt := S3.out.lt
          have hsz := S3.out.b.size
          have C1 := Lib.hid (cells_new w3 9 [.string ⟨#[100, 111, 110, 101]⟩])
          have C2 := Lib.hid (wd1 ⟨#[100, 111, 110, 101]⟩)
          go_wp2_with (at_builtin; refine wpList_append_own_at _ rfl (.tmp 23) (.tmp 24) 72 rfl w.heap.size 9 i0 _ 1 16 Tryz.underlying72 hi0 hi1 hi2 hi3 rfl (by omega) _ _ _ rfl (S3.out.o.alloc _) ⟨w3.heap.size, 0, none⟩ 1 1 [.string ⟨#[100, 111, 110, 101]⟩] rfl rfl C1.out C2.out (by unfold maxLen; omega) (by omega) (by rw [World.size_alloc]; omega) ?_)
          intro v4 w4 hown hgrow _ _
          obtain ⟨p4, c4, rfl⟩ := Go.Proofs.YtjgcjnkeeiaafaaGreatDoor.B.own_slice hown
          have S4 := Lib.hid (S3.out.grow (m := 1) (news := [.string ⟨#[100, 111, 110, 101]⟩]) _ (by simpa using hown) hgrow)
          clear hown hgrow C1 C2 q2 q3 q4 q5 hlt hsz S3
          obtain ⟨q2, q3, q4, q5⟩ := S4.out.cells
          have hlt := S4.out.lt
          have hsz := S4.out.b.size
          have C1 := Lib.hid (cells_new w4 9 [.string ⟨#[112, 101, 110, 100, 105, 110, 103]⟩])
          have C2 := Lib.hid (wd1 ⟨#[112, 101, 110, 100, 105, 110, 103]⟩)
          go_wp2_with (at_builtin; refine wpList_append_own_at _ rfl (.tmp 33) (.tmp 34) 72 rfl w.heap.size 9 i0 _ 1 16 Tryz.underlying72 hi0 hi1 hi2 hi3 rfl (by omega) _ _ _ rfl (S4.out.o.alloc _) ⟨w4.heap.size, 0, none⟩ 1 1 [.string ⟨#[112, 101, 110, 100, 105, 110, 103]⟩] rfl rfl C1.out C2.out (by unfold maxLen; omega) (by omega) (by rw [World.size_alloc]; omega) ?_)
          intro v5 w5 hown hgrow _ _
          obtain ⟨p5, c5, rfl⟩ := Go.Proofs.YtjgcjnkeeiaafaaGreatDoor.B.own_slice hown
          have S5 := Lib.hid (S4.out.grow (m := 1) (news := [.string ⟨#[112, 101, 110, 100, 105, 110, 103]⟩]) _ (by simpa using hown) hgrow)
          clear hown hgrow C1 C2 q2 q3 q4 q5 hlt hsz S4
          have HG := Lib.hid (HF.out _ _ S5.out.o S5.out.b)
          go_wp2_with fail
          first | exact HG.out | (go_ret; exact HG.out)
        | false =>
          subst hdu
          have hdw : dueW 1048576 = [[112, 101, 110, 100, 105, 110, 103]] := rfl
          have HF : Hid (∀ v w', w'.ownsRow w.heap.size 9 1 v (n0 + 2 + 1) ((xs0 ++ [.string ⟨#[114, 111, 108, 101]⟩, .string ro]) ++ [.string ⟨#[112, 101, 110, 100, 105, 110, 103]⟩]) → Below w.heap.size w w' → PO (.returned v) w') := Lib.hid (fun v w' h1 h2 => HPO.out v w' (by
            rw [hdw]
            have a1 : (O ++ [[114, 111, 108, 101], ro.toList] ++ (if true = true then [] else [[101, 120, 99, 108, 117, 100, 101, 100]]) ++ (if false = true then [[100, 111, 110, 101]] else []) ++ [[112, 101, 110, 100, 105, 110, 103]] : List (List UInt8)).length = n0 + 2 + 1 := by rw [HN0.out]; simp
            have a2 : (O ++ [[114, 111, 108, 101], ro.toList] ++ (if true = true then [] else [[101, 120, 99, 108, 117, 100, 101, 100]]) ++ (if false = true then [[100, 111, 110, 101]] else []) ++ [[112, 101, 110, 100, 105, 110, 103]] : List (List UInt8)).map sb = ((xs0 ++ [.string ⟨#[114, 111, 108, 101]⟩, .string ro]) ++ [.string ⟨#[112, 101, 110, 100, 105, 110, 103]⟩]) := by rw [HXS.out, ← HSR.out]; simp
            rw [a1, a2]; exact h1) h2)
          clear HPO hdw
          obtain ⟨q2, q3, q4, q5⟩ := S3.out.cells
          have hlt := S3.out.lt
          have hsz := S3.out.b.size
          have C1 := Lib.hid (cells_new w3 9 [.string ⟨#[112, 101, 110, 100, 105, 110, 103]⟩])
          have C2 := Lib.hid (wd1 ⟨#[112, 101, 110, 100, 105, 110, 103]⟩)
          go_wp2_with (at_builtin; refine wpList_append_own_at _ rfl (.tmp 33) (.tmp 34) 72 rfl w.heap.size 9 i0 _ 1 16 Tryz.underlying72 hi0 hi1 hi2 hi3 rfl (by omega) _ _ _ rfl (S3.out.o.alloc _) ⟨w3.heap.size, 0, none⟩ 1 1 [.string ⟨#[112, 101, 110, 100, 105, 110, 103]⟩] rfl rfl C1.out C2.out (by unfold maxLen; omega) (by omega) (by rw [World.size_alloc]; omega) ?_)
          intro v4 w4 hown hgrow _ _
          obtain ⟨p4, c4, rfl⟩ := Go.Proofs.YtjgcjnkeeiaafaaGreatDoor.B.own_slice hown
          have S4 := Lib.hid (S3.out.grow (m := 1) (news := [.string ⟨#[112, 101, 110, 100, 105, 110, 103]⟩]) _ (by simpa using hown) hgrow)
          clear hown hgrow C1 C2 q2 q3 q4 q5 hlt hsz S3
          have HG := Lib.hid (HF.out _ _ S4.out.o S4.out.b)
          go_wp2_with fail
          first | exact HG.out | (go_ret; exact HG.out)
      | false =>
        cases dn with
        | true =>
          subst hdu
          have hdw : dueW 1048576 = [[112, 101, 110, 100, 105, 110, 103]] := rfl
          have HF : Hid (∀ v w', w'.ownsRow w.heap.size 9 1 v (n0 + 2 + 1 + 1 + 1) ((((xs0 ++ [.string ⟨#[114, 111, 108, 101]⟩, .string ro]) ++ [.string ⟨#[101, 120, 99, 108, 117, 100, 101, 100]⟩]) ++ [.string ⟨#[100, 111, 110, 101]⟩]) ++ [.string ⟨#[112, 101, 110, 100, 105, 110, 103]⟩]) → Below w.heap.size w w' → PO (.returned v) w') := Lib.hid (fun v w' h1 h2 => HPO.out v w' (by
            rw [hdw]
            have a1 : (O ++ [[114, 111, 108, 101], ro.toList] ++ (if false = true then [] else [[101, 120, 99, 108, 117, 100, 101, 100]]) ++ (if true = true then [[100, 111, 110, 101]] else []) ++ [[112, 101, 110, 100, 105, 110, 103]] : List (List UInt8)).length = n0 + 2 + 1 + 1 + 1 := by rw [HN0.out]; simp
            have a2 : (O ++ [[114, 111, 108, 101], ro.toList] ++ (if false = true then [] else [[101, 120, 99, 108, 117, 100, 101, 100]]) ++ (if true = true then [[100, 111, 110, 101]] else []) ++ [[112, 101, 110, 100, 105, 110, 103]] : List (List UInt8)).map sb = ((((xs0 ++ [.string ⟨#[114, 111, 108, 101]⟩, .string ro]) ++ [.string ⟨#[101, 120, 99, 108, 117, 100, 101, 100]⟩]) ++ [.string ⟨#[100, 111, 110, 101]⟩]) ++ [.string ⟨#[112, 101, 110, 100, 105, 110, 103]⟩]) := by rw [HXS.out, ← HSR.out]; simp
            rw [a1, a2]; exact h1) h2)
          clear HPO hdw
          obtain ⟨q2, q3, q4, q5⟩ := S3.out.cells
          have hlt := S3.out.lt
          have hsz := S3.out.b.size
          have C1 := Lib.hid (cells_new w3 9 [.string ⟨#[101, 120, 99, 108, 117, 100, 101, 100]⟩])
          have C2 := Lib.hid (wd1 ⟨#[101, 120, 99, 108, 117, 100, 101, 100]⟩)
          go_wp2_with (at_builtin; refine wpList_append_own_at _ rfl (.tmp 18) (.tmp 19) 72 rfl w.heap.size 9 i0 _ 1 16 Tryz.underlying72 hi0 hi1 hi2 hi3 rfl (by omega) _ _ _ rfl (S3.out.o.alloc _) ⟨w3.heap.size, 0, none⟩ 1 1 [.string ⟨#[101, 120, 99, 108, 117, 100, 101, 100]⟩] rfl rfl C1.out C2.out (by unfold maxLen; omega) (by omega) (by rw [World.size_alloc]; omega) ?_)
          intro v4 w4 hown hgrow _ _
          obtain ⟨p4, c4, rfl⟩ := Go.Proofs.YtjgcjnkeeiaafaaGreatDoor.B.own_slice hown
          have S4 := Lib.hid (S3.out.grow (m := 1) (news := [.string ⟨#[101, 120, 99, 108, 117, 100, 101, 100]⟩]) _ (by simpa using hown) hgrow)
          clear hown hgrow C1 C2 q2 q3 q4 q5 hlt hsz S3
          obtain ⟨q2, q3, q4, q5⟩ := S4.out.cells
          have hlt := S4.out.lt
          have hsz := S4.out.b.size
          have C1 := Lib.hid (cells_new w4 9 [.string ⟨#[100, 111, 110, 101]⟩])
          have C2 := Lib.hid (wd1 ⟨#[100, 111, 110, 101]⟩)
          go_wp2_with (at_builtin; refine wpList_append_own_at _ rfl (.tmp 23) (.tmp 24) 72 rfl w.heap.size 9 i0 _ 1 16 Tryz.underlying72 hi0 hi1 hi2 hi3 rfl (by omega) _ _ _ rfl (S4.out.o.alloc _) ⟨w4.heap.size, 0, none⟩ 1 1 [.string ⟨#[100, 111, 110, 101]⟩] rfl rfl C1.out C2.out (by unfold maxLen; omega) (by omega) (by rw [World.size_alloc]; omega) ?_)
          intro v5 w5 hown hgrow _ _
          obtain ⟨p5, c5, rfl⟩ := Go.Proofs.YtjgcjnkeeiaafaaGreatDoor.B.own_slice hown
          have S5 := Lib.hid (S4.out.grow (m := 1) (news := [.string ⟨#[100, 111, 110, 101]⟩]) _ (by simpa using hown) hgrow)
          clear hown hgrow C1 C2 q2 q3 q4 q5 hlt hsz S4
          obtain ⟨q2, q3, q4, q5⟩ := S5.out.cells
          have hlt := S5.out.lt
          have hsz := S5.out.b.size
          have C1 := Lib.hid (cells_new w5 9 [.string ⟨#[112, 101, 110, 100, 105, 110, 103]⟩])
          have C2 := Lib.hid (wd1 ⟨#[112, 101, 110, 100, 105, 110, 103]⟩)
          go_wp2_with (at_builtin; refine wpList_append_own_at _ rfl (.tmp 33) (.tmp 34) 72 rfl w.heap.size 9 i0 _ 1 16 Tryz.underlying72 hi0 hi1 hi2 hi3 rfl (by omega) _ _ _ rfl (S5.out.o.alloc _) ⟨w5.heap.size, 0, none⟩ 1 1 [.string ⟨#[112, 101, 110, 100, 105, 110, 103]⟩] rfl rfl C1.out C2.out (by unfold maxLen; omega) (by omega) (by rw [World.size_alloc]; omega) ?_)
          intro v6 w6 hown hgrow _ _
          obtain ⟨p6, c6, rfl⟩ := Go.Proofs.YtjgcjnkeeiaafaaGreatDoor.B.own_slice hown
          have S6 := Lib.hid (S5.out.grow (m := 1) (news := [.string ⟨#[112, 101, 110, 100, 105, 110, 103]⟩]) _ (by simpa using hown) hgrow)
          clear hown hgrow C1 C2 q2 q3 q4 q5 hlt hsz S5
          have HG := Lib.hid (HF.out _ _ S6.out.o S6.out.b)
          go_wp2_with fail
          first | exact HG.out | (go_ret; exact HG.out)
        | false =>
          subst hdu
          have hdw : dueW 1048576 = [[112, 101, 110, 100, 105, 110, 103]] := rfl
          have HF : Hid (∀ v w', w'.ownsRow w.heap.size 9 1 v (n0 + 2 + 1 + 1) (((xs0 ++ [.string ⟨#[114, 111, 108, 101]⟩, .string ro]) ++ [.string ⟨#[101, 120, 99, 108, 117, 100, 101, 100]⟩]) ++ [.string ⟨#[112, 101, 110, 100, 105, 110, 103]⟩]) → Below w.heap.size w w' → PO (.returned v) w') := Lib.hid (fun v w' h1 h2 => HPO.out v w' (by
            rw [hdw]
            have a1 : (O ++ [[114, 111, 108, 101], ro.toList] ++ (if false = true then [] else [[101, 120, 99, 108, 117, 100, 101, 100]]) ++ (if false = true then [[100, 111, 110, 101]] else []) ++ [[112, 101, 110, 100, 105, 110, 103]] : List (List UInt8)).length = n0 + 2 + 1 + 1 := by rw [HN0.out]; simp
            have a2 : (O ++ [[114, 111, 108, 101], ro.toList] ++ (if false = true then [] else [[101, 120, 99, 108, 117, 100, 101, 100]]) ++ (if false = true then [[100, 111, 110, 101]] else []) ++ [[112, 101, 110, 100, 105, 110, 103]] : List (List UInt8)).map sb = (((xs0 ++ [.string ⟨#[114, 111, 108, 101]⟩, .string ro]) ++ [.string ⟨#[101, 120, 99, 108, 117, 100, 101, 100]⟩]) ++ [.string ⟨#[112, 101, 110, 100, 105, 110, 103]⟩]) := by rw [HXS.out, ← HSR.out]; simp
            rw [a1, a2]; exact h1) h2)
          clear HPO hdw
          obtain ⟨q2, q3, q4, q5⟩ := S3.out.cells
          have hlt := S3.out.lt
          have hsz := S3.out.b.size
          have C1 := Lib.hid (cells_new w3 9 [.string ⟨#[101, 120, 99, 108, 117, 100, 101, 100]⟩])
          have C2 := Lib.hid (wd1 ⟨#[101, 120, 99, 108, 117, 100, 101, 100]⟩)
          go_wp2_with (at_builtin; refine wpList_append_own_at _ rfl (.tmp 18) (.tmp 19) 72 rfl w.heap.size 9 i0 _ 1 16 Tryz.underlying72 hi0 hi1 hi2 hi3 rfl (by omega) _ _ _ rfl (S3.out.o.alloc _) ⟨w3.heap.size, 0, none⟩ 1 1 [.string ⟨#[101, 120, 99, 108, 117, 100, 101, 100]⟩] rfl rfl C1.out C2.out (by unfold maxLen; omega) (by omega) (by rw [World.size_alloc]; omega) ?_)
          intro v4 w4 hown hgrow _ _
          obtain ⟨p4, c4, rfl⟩ := Go.Proofs.YtjgcjnkeeiaafaaGreatDoor.B.own_slice hown
          have S4 := Lib.hid (S3.out.grow (m := 1) (news := [.string ⟨#[101, 120, 99, 108, 117, 100, 101, 100]⟩]) _ (by simpa using hown) hgrow)
          clear hown hgrow C1 C2 q2 q3 q4 q5 hlt hsz S3
          obtain ⟨q2, q3, q4, q5⟩ := S4.out.cells
          have hlt := S4.out.lt
          have hsz := S4.out.b.size
          have C1 := Lib.hid (cells_new w4 9 [.string ⟨#[112, 101, 110, 100, 105, 110, 103]⟩])
          have C2 := Lib.hid (wd1 ⟨#[112, 101, 110, 100, 105, 110, 103]⟩)
          go_wp2_with (at_builtin; refine wpList_append_own_at _ rfl (.tmp 33) (.tmp 34) 72 rfl w.heap.size 9 i0 _ 1 16 Tryz.underlying72 hi0 hi1 hi2 hi3 rfl (by omega) _ _ _ rfl (S4.out.o.alloc _) ⟨w4.heap.size, 0, none⟩ 1 1 [.string ⟨#[112, 101, 110, 100, 105, 110, 103]⟩] rfl rfl C1.out C2.out (by unfold maxLen; omega) (by omega) (by rw [World.size_alloc]; omega) ?_)
          intro v5 w5 hown hgrow _ _
          obtain ⟨p5, c5, rfl⟩ := Go.Proofs.YtjgcjnkeeiaafaaGreatDoor.B.own_slice hown
          have S5 := Lib.hid (S4.out.grow (m := 1) (news := [.string ⟨#[112, 101, 110, 100, 105, 110, 103]⟩]) _ (by simpa using hown) hgrow)
          clear hown hgrow C1 C2 q2 q3 q4 q5 hlt hsz S4
          have HG := Lib.hid (HF.out _ _ S5.out.o S5.out.b)
          go_wp2_with fail
          first | exact HG.out | (go_ret; exact HG.out)
    · cases inn with
      | true =>
        cases dn with
        | true =>
          have HI := Lib.hid (fun (W4 : World) (hb4 : Below w.heap.size w W4) => itoa_any w.heap.size du (by omega) hd1 W4 (HT.out.on hb4))
          obtain ⟨da, hda⟩ : ∃ da : ByteArray, da = ⟨(digL du.toNat).toArray⟩ := ⟨_, rfl⟩
          rw [show sb (digL du.toNat) = .string da by rw [hda]] at HI
          have hdw : dueW du = [[100, 117, 101], digL du.toNat] := by unfold dueW; rw [if_neg hm, if_neg hp]
          have HF : Hid (∀ v w', w'.ownsRow w.heap.size 9 1 v (n0 + 2 + 1 + 2) (((xs0 ++ [.string ⟨#[114, 111, 108, 101]⟩, .string ro]) ++ [.string ⟨#[100, 111, 110, 101]⟩]) ++ [.string ⟨#[100, 117, 101]⟩, .string da]) → Below w.heap.size w w' → PO (.returned v) w') := Lib.hid (fun v w' h1 h2 => HPO.out v w' (by
            rw [hdw]
            have a1 : (O ++ [[114, 111, 108, 101], ro.toList] ++ (if true = true then [] else [[101, 120, 99, 108, 117, 100, 101, 100]]) ++ (if true = true then [[100, 111, 110, 101]] else []) ++ [[100, 117, 101], digL du.toNat] : List (List UInt8)).length = n0 + 2 + 1 + 2 := by rw [HN0.out]; simp
            have a2 : (O ++ [[114, 111, 108, 101], ro.toList] ++ (if true = true then [] else [[101, 120, 99, 108, 117, 100, 101, 100]]) ++ (if true = true then [[100, 111, 110, 101]] else []) ++ [[100, 117, 101], digL du.toNat] : List (List UInt8)).map sb = (((xs0 ++ [.string ⟨#[114, 111, 108, 101]⟩, .string ro]) ++ [.string ⟨#[100, 111, 110, 101]⟩]) ++ [.string ⟨#[100, 117, 101]⟩, .string da]) := by rw [HXS.out, ← HSR.out, hda]; simp
            rw [a1, a2]; exact h1) h2)
          have hqm : (du == -1) = false := by rw [beq_eq_false_iff_ne]; exact hm
          have hqp : (du == 1048576) = false := by rw [beq_eq_false_iff_ne]; exact hp
          clear HPO hdw hda hm hp
          obtain ⟨q2, q3, q4, q5⟩ := S3.out.cells
          have hlt := S3.out.lt
          have hsz := S3.out.b.size
          have C1 := Lib.hid (cells_new w3 9 [.string ⟨#[100, 111, 110, 101]⟩])
          have C2 := Lib.hid (wd1 ⟨#[100, 111, 110, 101]⟩)
          go_wp2_with (at_builtin; refine wpList_append_own_at _ rfl (.tmp 23) (.tmp 24) 72 rfl w.heap.size 9 i0 _ 1 16 Tryz.underlying72 hi0 hi1 hi2 hi3 rfl (by omega) _ _ _ rfl (S3.out.o.alloc _) ⟨w3.heap.size, 0, none⟩ 1 1 [.string ⟨#[100, 111, 110, 101]⟩] rfl rfl C1.out C2.out (by unfold maxLen; omega) (by omega) (by rw [World.size_alloc]; omega) ?_)
          intro v4 w4 hown hgrow _ _
          obtain ⟨p4, c4, rfl⟩ := Go.Proofs.YtjgcjnkeeiaafaaGreatDoor.B.own_slice hown
          have S4 := Lib.hid (S3.out.grow (m := 1) (news := [.string ⟨#[100, 111, 110, 101]⟩]) _ (by simpa using hown) hgrow)
          clear hown hgrow C1 C2 q2 q3 q4 q5 hlt hsz S3
          obtain ⟨q2, q3, q4, q5⟩ := S4.out.cells
          have hlt := S4.out.lt
          have HI2 := Lib.hid (HI.out w4 S4.out.b)
          go_wp2_with fail
          refine HI2.out.mono ?_
          rintro e w5 ⟨rfl, hb⟩
          have S5 := Lib.hid (S4.out.below hb)
          clear hb HI2 q2 q3 q4 q5 hlt S4
          obtain ⟨q2, q3, q4, q5⟩ := S5.out.cells
          have hlt := S5.out.lt
          have hsz := S5.out.b.size
          have C1 := Lib.hid (cells_new w5 9 [.string ⟨#[100, 117, 101]⟩, .string da])
          have C2 := Lib.hid (wd2 ⟨#[100, 117, 101]⟩ da)
          go_wp2_with (at_builtin; refine wpList_append_own_at _ rfl (.tmp 36) (.tmp 40) 72 rfl w.heap.size 9 i0 _ 1 16 Tryz.underlying72 hi0 hi1 hi2 hi3 rfl (by omega) _ _ _ rfl (S5.out.o.alloc _) ⟨w5.heap.size, 0, none⟩ 2 2 [.string ⟨#[100, 117, 101]⟩, .string da] rfl rfl C1.out C2.out (by unfold maxLen; omega) (by omega) (by rw [World.size_alloc]; omega) ?_)
          intro v6 w6 hown hgrow _ _
          obtain ⟨p6, c6, rfl⟩ := Go.Proofs.YtjgcjnkeeiaafaaGreatDoor.B.own_slice hown
          have S6 := Lib.hid (S5.out.grow (m := 2) (news := [.string ⟨#[100, 117, 101]⟩, .string da]) _ (by simpa using hown) hgrow)
          clear hown hgrow C1 C2 q2 q3 q4 q5 hlt hsz S5
          have HG := Lib.hid (HF.out _ _ S6.out.o S6.out.b)
          go_wp2_with fail
          first | exact HG.out | (go_ret; exact HG.out)
        | false =>
          have HI := Lib.hid (fun (W4 : World) (hb4 : Below w.heap.size w W4) => itoa_any w.heap.size du (by omega) hd1 W4 (HT.out.on hb4))
          obtain ⟨da, hda⟩ : ∃ da : ByteArray, da = ⟨(digL du.toNat).toArray⟩ := ⟨_, rfl⟩
          rw [show sb (digL du.toNat) = .string da by rw [hda]] at HI
          have hdw : dueW du = [[100, 117, 101], digL du.toNat] := by unfold dueW; rw [if_neg hm, if_neg hp]
          have HF : Hid (∀ v w', w'.ownsRow w.heap.size 9 1 v (n0 + 2 + 2) ((xs0 ++ [.string ⟨#[114, 111, 108, 101]⟩, .string ro]) ++ [.string ⟨#[100, 117, 101]⟩, .string da]) → Below w.heap.size w w' → PO (.returned v) w') := Lib.hid (fun v w' h1 h2 => HPO.out v w' (by
            rw [hdw]
            have a1 : (O ++ [[114, 111, 108, 101], ro.toList] ++ (if true = true then [] else [[101, 120, 99, 108, 117, 100, 101, 100]]) ++ (if false = true then [[100, 111, 110, 101]] else []) ++ [[100, 117, 101], digL du.toNat] : List (List UInt8)).length = n0 + 2 + 2 := by rw [HN0.out]; simp
            have a2 : (O ++ [[114, 111, 108, 101], ro.toList] ++ (if true = true then [] else [[101, 120, 99, 108, 117, 100, 101, 100]]) ++ (if false = true then [[100, 111, 110, 101]] else []) ++ [[100, 117, 101], digL du.toNat] : List (List UInt8)).map sb = ((xs0 ++ [.string ⟨#[114, 111, 108, 101]⟩, .string ro]) ++ [.string ⟨#[100, 117, 101]⟩, .string da]) := by rw [HXS.out, ← HSR.out, hda]; simp
            rw [a1, a2]; exact h1) h2)
          have hqm : (du == -1) = false := by rw [beq_eq_false_iff_ne]; exact hm
          have hqp : (du == 1048576) = false := by rw [beq_eq_false_iff_ne]; exact hp
          clear HPO hdw hda hm hp
          obtain ⟨q2, q3, q4, q5⟩ := S3.out.cells
          have hlt := S3.out.lt
          have HI2 := Lib.hid (HI.out w3 S3.out.b)
          go_wp2_with fail
          refine HI2.out.mono ?_
          rintro e w4 ⟨rfl, hb⟩
          have S4 := Lib.hid (S3.out.below hb)
          clear hb HI2 q2 q3 q4 q5 hlt S3
          obtain ⟨q2, q3, q4, q5⟩ := S4.out.cells
          have hlt := S4.out.lt
          have hsz := S4.out.b.size
          have C1 := Lib.hid (cells_new w4 9 [.string ⟨#[100, 117, 101]⟩, .string da])
          have C2 := Lib.hid (wd2 ⟨#[100, 117, 101]⟩ da)
          go_wp2_with (at_builtin; refine wpList_append_own_at _ rfl (.tmp 36) (.tmp 40) 72 rfl w.heap.size 9 i0 _ 1 16 Tryz.underlying72 hi0 hi1 hi2 hi3 rfl (by omega) _ _ _ rfl (S4.out.o.alloc _) ⟨w4.heap.size, 0, none⟩ 2 2 [.string ⟨#[100, 117, 101]⟩, .string da] rfl rfl C1.out C2.out (by unfold maxLen; omega) (by omega) (by rw [World.size_alloc]; omega) ?_)
          intro v5 w5 hown hgrow _ _
          obtain ⟨p5, c5, rfl⟩ := Go.Proofs.YtjgcjnkeeiaafaaGreatDoor.B.own_slice hown
          have S5 := Lib.hid (S4.out.grow (m := 2) (news := [.string ⟨#[100, 117, 101]⟩, .string da]) _ (by simpa using hown) hgrow)
          clear hown hgrow C1 C2 q2 q3 q4 q5 hlt hsz S4
          have HG := Lib.hid (HF.out _ _ S5.out.o S5.out.b)
          go_wp2_with fail
          first | exact HG.out | (go_ret; exact HG.out)
      | false =>
        cases dn with
        | true =>
          have HI := Lib.hid (fun (W4 : World) (hb4 : Below w.heap.size w W4) => itoa_any w.heap.size du (by omega) hd1 W4 (HT.out.on hb4))
          obtain ⟨da, hda⟩ : ∃ da : ByteArray, da = ⟨(digL du.toNat).toArray⟩ := ⟨_, rfl⟩
          rw [show sb (digL du.toNat) = .string da by rw [hda]] at HI
          have hdw : dueW du = [[100, 117, 101], digL du.toNat] := by unfold dueW; rw [if_neg hm, if_neg hp]
          have HF : Hid (∀ v w', w'.ownsRow w.heap.size 9 1 v (n0 + 2 + 1 + 1 + 2) ((((xs0 ++ [.string ⟨#[114, 111, 108, 101]⟩, .string ro]) ++ [.string ⟨#[101, 120, 99, 108, 117, 100, 101, 100]⟩]) ++ [.string ⟨#[100, 111, 110, 101]⟩]) ++ [.string ⟨#[100, 117, 101]⟩, .string da]) → Below w.heap.size w w' → PO (.returned v) w') := Lib.hid (fun v w' h1 h2 => HPO.out v w' (by
            rw [hdw]
            have a1 : (O ++ [[114, 111, 108, 101], ro.toList] ++ (if false = true then [] else [[101, 120, 99, 108, 117, 100, 101, 100]]) ++ (if true = true then [[100, 111, 110, 101]] else []) ++ [[100, 117, 101], digL du.toNat] : List (List UInt8)).length = n0 + 2 + 1 + 1 + 2 := by rw [HN0.out]; simp
            have a2 : (O ++ [[114, 111, 108, 101], ro.toList] ++ (if false = true then [] else [[101, 120, 99, 108, 117, 100, 101, 100]]) ++ (if true = true then [[100, 111, 110, 101]] else []) ++ [[100, 117, 101], digL du.toNat] : List (List UInt8)).map sb = ((((xs0 ++ [.string ⟨#[114, 111, 108, 101]⟩, .string ro]) ++ [.string ⟨#[101, 120, 99, 108, 117, 100, 101, 100]⟩]) ++ [.string ⟨#[100, 111, 110, 101]⟩]) ++ [.string ⟨#[100, 117, 101]⟩, .string da]) := by rw [HXS.out, ← HSR.out, hda]; simp
            rw [a1, a2]; exact h1) h2)
          have hqm : (du == -1) = false := by rw [beq_eq_false_iff_ne]; exact hm
          have hqp : (du == 1048576) = false := by rw [beq_eq_false_iff_ne]; exact hp
          clear HPO hdw hda hm hp
          obtain ⟨q2, q3, q4, q5⟩ := S3.out.cells
          have hlt := S3.out.lt
          have hsz := S3.out.b.size
          have C1 := Lib.hid (cells_new w3 9 [.string ⟨#[101, 120, 99, 108, 117, 100, 101, 100]⟩])
          have C2 := Lib.hid (wd1 ⟨#[101, 120, 99, 108, 117, 100, 101, 100]⟩)
          go_wp2_with (at_builtin; refine wpList_append_own_at _ rfl (.tmp 18) (.tmp 19) 72 rfl w.heap.size 9 i0 _ 1 16 Tryz.underlying72 hi0 hi1 hi2 hi3 rfl (by omega) _ _ _ rfl (S3.out.o.alloc _) ⟨w3.heap.size, 0, none⟩ 1 1 [.string ⟨#[101, 120, 99, 108, 117, 100, 101, 100]⟩] rfl rfl C1.out C2.out (by unfold maxLen; omega) (by omega) (by rw [World.size_alloc]; omega) ?_)
          intro v4 w4 hown hgrow _ _
          obtain ⟨p4, c4, rfl⟩ := Go.Proofs.YtjgcjnkeeiaafaaGreatDoor.B.own_slice hown
          have S4 := Lib.hid (S3.out.grow (m := 1) (news := [.string ⟨#[101, 120, 99, 108, 117, 100, 101, 100]⟩]) _ (by simpa using hown) hgrow)
          clear hown hgrow C1 C2 q2 q3 q4 q5 hlt hsz S3
          obtain ⟨q2, q3, q4, q5⟩ := S4.out.cells
          have hlt := S4.out.lt
          have hsz := S4.out.b.size
          have C1 := Lib.hid (cells_new w4 9 [.string ⟨#[100, 111, 110, 101]⟩])
          have C2 := Lib.hid (wd1 ⟨#[100, 111, 110, 101]⟩)
          go_wp2_with (at_builtin; refine wpList_append_own_at _ rfl (.tmp 23) (.tmp 24) 72 rfl w.heap.size 9 i0 _ 1 16 Tryz.underlying72 hi0 hi1 hi2 hi3 rfl (by omega) _ _ _ rfl (S4.out.o.alloc _) ⟨w4.heap.size, 0, none⟩ 1 1 [.string ⟨#[100, 111, 110, 101]⟩] rfl rfl C1.out C2.out (by unfold maxLen; omega) (by omega) (by rw [World.size_alloc]; omega) ?_)
          intro v5 w5 hown hgrow _ _
          obtain ⟨p5, c5, rfl⟩ := Go.Proofs.YtjgcjnkeeiaafaaGreatDoor.B.own_slice hown
          have S5 := Lib.hid (S4.out.grow (m := 1) (news := [.string ⟨#[100, 111, 110, 101]⟩]) _ (by simpa using hown) hgrow)
          clear hown hgrow C1 C2 q2 q3 q4 q5 hlt hsz S4
          obtain ⟨q2, q3, q4, q5⟩ := S5.out.cells
          have hlt := S5.out.lt
          have HI2 := Lib.hid (HI.out w5 S5.out.b)
          go_wp2_with fail
          refine HI2.out.mono ?_
          rintro e w6 ⟨rfl, hb⟩
          have S6 := Lib.hid (S5.out.below hb)
          clear hb HI2 q2 q3 q4 q5 hlt S5
          obtain ⟨q2, q3, q4, q5⟩ := S6.out.cells
          have hlt := S6.out.lt
          have hsz := S6.out.b.size
          have C1 := Lib.hid (cells_new w6 9 [.string ⟨#[100, 117, 101]⟩, .string da])
          have C2 := Lib.hid (wd2 ⟨#[100, 117, 101]⟩ da)
          go_wp2_with (at_builtin; refine wpList_append_own_at _ rfl (.tmp 36) (.tmp 40) 72 rfl w.heap.size 9 i0 _ 1 16 Tryz.underlying72 hi0 hi1 hi2 hi3 rfl (by omega) _ _ _ rfl (S6.out.o.alloc _) ⟨w6.heap.size, 0, none⟩ 2 2 [.string ⟨#[100, 117, 101]⟩, .string da] rfl rfl C1.out C2.out (by unfold maxLen; omega) (by omega) (by rw [World.size_alloc]; omega) ?_)
          intro v7 w7 hown hgrow _ _
          obtain ⟨p7, c7, rfl⟩ := Go.Proofs.YtjgcjnkeeiaafaaGreatDoor.B.own_slice hown
          have S7 := Lib.hid (S6.out.grow (m := 2) (news := [.string ⟨#[100, 117, 101]⟩, .string da]) _ (by simpa using hown) hgrow)
          clear hown hgrow C1 C2 q2 q3 q4 q5 hlt hsz S6
          have HG := Lib.hid (HF.out _ _ S7.out.o S7.out.b)
          go_wp2_with fail
          first | exact HG.out | (go_ret; exact HG.out)
        | false =>
          have HI := Lib.hid (fun (W4 : World) (hb4 : Below w.heap.size w W4) => itoa_any w.heap.size du (by omega) hd1 W4 (HT.out.on hb4))
          obtain ⟨da, hda⟩ : ∃ da : ByteArray, da = ⟨(digL du.toNat).toArray⟩ := ⟨_, rfl⟩
          rw [show sb (digL du.toNat) = .string da by rw [hda]] at HI
          have hdw : dueW du = [[100, 117, 101], digL du.toNat] := by unfold dueW; rw [if_neg hm, if_neg hp]
          have HF : Hid (∀ v w', w'.ownsRow w.heap.size 9 1 v (n0 + 2 + 1 + 2) (((xs0 ++ [.string ⟨#[114, 111, 108, 101]⟩, .string ro]) ++ [.string ⟨#[101, 120, 99, 108, 117, 100, 101, 100]⟩]) ++ [.string ⟨#[100, 117, 101]⟩, .string da]) → Below w.heap.size w w' → PO (.returned v) w') := Lib.hid (fun v w' h1 h2 => HPO.out v w' (by
            rw [hdw]
            have a1 : (O ++ [[114, 111, 108, 101], ro.toList] ++ (if false = true then [] else [[101, 120, 99, 108, 117, 100, 101, 100]]) ++ (if false = true then [[100, 111, 110, 101]] else []) ++ [[100, 117, 101], digL du.toNat] : List (List UInt8)).length = n0 + 2 + 1 + 2 := by rw [HN0.out]; simp
            have a2 : (O ++ [[114, 111, 108, 101], ro.toList] ++ (if false = true then [] else [[101, 120, 99, 108, 117, 100, 101, 100]]) ++ (if false = true then [[100, 111, 110, 101]] else []) ++ [[100, 117, 101], digL du.toNat] : List (List UInt8)).map sb = (((xs0 ++ [.string ⟨#[114, 111, 108, 101]⟩, .string ro]) ++ [.string ⟨#[101, 120, 99, 108, 117, 100, 101, 100]⟩]) ++ [.string ⟨#[100, 117, 101]⟩, .string da]) := by rw [HXS.out, ← HSR.out, hda]; simp
            rw [a1, a2]; exact h1) h2)
          have hqm : (du == -1) = false := by rw [beq_eq_false_iff_ne]; exact hm
          have hqp : (du == 1048576) = false := by rw [beq_eq_false_iff_ne]; exact hp
          clear HPO hdw hda hm hp
          obtain ⟨q2, q3, q4, q5⟩ := S3.out.cells
          have hlt := S3.out.lt
          have hsz := S3.out.b.size
          have C1 := Lib.hid (cells_new w3 9 [.string ⟨#[101, 120, 99, 108, 117, 100, 101, 100]⟩])
          have C2 := Lib.hid (wd1 ⟨#[101, 120, 99, 108, 117, 100, 101, 100]⟩)
          go_wp2_with (at_builtin; refine wpList_append_own_at _ rfl (.tmp 18) (.tmp 19) 72 rfl w.heap.size 9 i0 _ 1 16 Tryz.underlying72 hi0 hi1 hi2 hi3 rfl (by omega) _ _ _ rfl (S3.out.o.alloc _) ⟨w3.heap.size, 0, none⟩ 1 1 [.string ⟨#[101, 120, 99, 108, 117, 100, 101, 100]⟩] rfl rfl C1.out C2.out (by unfold maxLen; omega) (by omega) (by rw [World.size_alloc]; omega) ?_)
          intro v4 w4 hown hgrow _ _
          obtain ⟨p4, c4, rfl⟩ := Go.Proofs.YtjgcjnkeeiaafaaGreatDoor.B.own_slice hown
          have S4 := Lib.hid (S3.out.grow (m := 1) (news := [.string ⟨#[101, 120, 99, 108, 117, 100, 101, 100]⟩]) _ (by simpa using hown) hgrow)
          clear hown hgrow C1 C2 q2 q3 q4 q5 hlt hsz S3
          obtain ⟨q2, q3, q4, q5⟩ := S4.out.cells
          have hlt := S4.out.lt
          have HI2 := Lib.hid (HI.out w4 S4.out.b)
          go_wp2_with fail
          refine HI2.out.mono ?_
          rintro e w5 ⟨rfl, hb⟩
          have S5 := Lib.hid (S4.out.below hb)
          clear hb HI2 q2 q3 q4 q5 hlt S4
          obtain ⟨q2, q3, q4, q5⟩ := S5.out.cells
          have hlt := S5.out.lt
          have hsz := S5.out.b.size
          have C1 := Lib.hid (cells_new w5 9 [.string ⟨#[100, 117, 101]⟩, .string da])
          have C2 := Lib.hid (wd2 ⟨#[100, 117, 101]⟩ da)
          go_wp2_with (at_builtin; refine wpList_append_own_at _ rfl (.tmp 36) (.tmp 40) 72 rfl w.heap.size 9 i0 _ 1 16 Tryz.underlying72 hi0 hi1 hi2 hi3 rfl (by omega) _ _ _ rfl (S5.out.o.alloc _) ⟨w5.heap.size, 0, none⟩ 2 2 [.string ⟨#[100, 117, 101]⟩, .string da] rfl rfl C1.out C2.out (by unfold maxLen; omega) (by omega) (by rw [World.size_alloc]; omega) ?_)
          intro v6 w6 hown hgrow _ _
          obtain ⟨p6, c6, rfl⟩ := Go.Proofs.YtjgcjnkeeiaafaaGreatDoor.B.own_slice hown
          have S6 := Lib.hid (S5.out.grow (m := 2) (news := [.string ⟨#[100, 117, 101]⟩, .string da]) _ (by simpa using hown) hgrow)
          clear hown hgrow C1 C2 q2 q3 q4 q5 hlt hsz S5
          have HG := Lib.hid (HF.out _ _ S6.out.o S6.out.b)
          go_wp2_with fail
          first | exact HG.out | (go_ret; exact HG.out)
end Go.Proofs.YtjgcjnkeeiaafaaGreatDoor.P3.C
