/-
  Contract of needs.Net.
-/
import Derived.Test.YtigicbnkfmbolaaCbb
import Derived.Test.YtigicbnkfmbolaaCbc
namespace Go.Proofs.Ytigicbnkfmbolaa.N7
open Go.RowKit Go.Shelf Go.Proofs.Ytigicbnkfmbolaa.B Go.Proofs.Ytigicbnkfmbolaa.R6
/-- What blocks an event, and what it may call for. -/
def needS (N : Nat) (ts : List Ti) (a b : Nat) : Bool := gW N (fun t => t.to) (fun t => t.fr) blkK ts a b || gW N (fun t => t.fr) (fun t => t.to) clK ts a b
def netL (N : Nat) (S : Nat → Nat → Bool) : NetL := (List.range N).map fun a => inL N (S a)
theorem netL_len (N : Nat) (S : Nat → Nat → Bool) : (netL N S).length = N := by simp [netL]
theorem netL_at {N a : Nat} {S : Nat → Nat → Bool} (ha : a < N) : (netL N S)[a]! = inL N (S a) := by rw [getElem!_pos _ a (by rw [netL_len]; exact ha)]; simp [netL]
/-- The rows ahead of k are sorted. -/
structure SP (N : Nat) (S : Nat → Nat → Bool) (k : Nat) (ls : List (List Int)) : Prop where
  len : ls.length = N
  fin : ∀ a : Nat, a < k → a < N → ls[a]! = inL N (S a)
  todo : ∀ a : Nat, k ≤ a → a < N → (ls[a]!).mergeSort (fun x y => decide (x ≤ y)) = inL N (S a) ∧ (ls[a]!).length ≤ N
theorem SP.start {N : Nat} {S : Nat → Nat → Bool} {left : Lit → Bool} {ls : List (List Int)} (h : LP N S left ls) (hl : ∀ l, left l = false) : SP N S 0 ls := ⟨h.len, fun _ ha => absurd ha (Nat.not_lt_zero _), fun _ _ ha => ⟨h.sorted hl ha, h.lens ha⟩⟩
theorem SP.next {N k : Nat} {S : Nat → Nat → Bool} {ls : List (List Int)} (h : SP N S k ls) (hk : k < N) : SP N S (k + 1) (ls.set k ((ls[k]!).mergeSort fun x y => decide (x ≤ y))) := by
  have hkl : k < ls.length := by rw [h.len]; exact hk
  refine ⟨by rw [List.length_set]; exact h.len, fun a ha hN => ?_, fun a ha hN => ?_⟩
  · rw [set_get hkl]
    by_cases e : a = k
    · subst e; rw [if_pos rfl]; exact (h.todo a (Nat.le_refl _) hN).1
    · rw [if_neg e]; exact h.fin a (by omega) hN
  · rw [set_get hkl, if_neg (by omega)]
    exact h.todo a (by omega) hN
theorem SP.all {N : Nat} {S : Nat → Nat → Bool} {ls : List (List Int)} (h : SP N S N ls) : ls = netL N S := by
  refine list_ext (by rw [h.len, netL_len]) (fun i hi => ?_)
  rw [h.len] at hi
  rw [h.fin i hi hi, netL_at hi]
/-- A net of a call's own. -/
def NetP (w : World) (N : Nat) (l : NetL) (e : Ending) (w' : World) : Prop := ∃ g vs, e = .returned (.slice (some ⟨g, 0, none⟩) N N) ∧ ORv w.heap.size w.heap.size w' (.slice (some ⟨g, 0, none⟩) N N) vs l ∧ Below w.heap.size w w'
section
variable (w : World) (EA TA : Option Addr) (ec tc : Nat) (es : List Ev) (ts : List Ti)
set_option maxRecDepth 100000 in
set_option maxHeartbeats 8000000 in
theorem net_of (h : FI w EA TA es ts) (hs : SmF es ts) :
    Calls Try.prog 13 #[FV EA TA es.length ec ts.length tc] w (NetP w es.length (netL es.length (needS es.length ts))) := by
  obtain ⟨i0, hi0, hi1, hi2, hi3⟩ := info_parts info_int'
  obtain ⟨W1, hW1⟩ : ∃ W1, W1 = w.alloc (.cells #[.slice EA es.length ec, .slice TA ts.length tc] 25) := ⟨_, rfl⟩
  have s1 : W1.heap.size = w.heap.size + 1 := by rw [hW1, World.size_alloc]
  have hb1 : Below w.heap.size w W1 := by rw [hW1]; exact (Below.refl _ w).alloc (Nat.le_refl _) _
  have n1 : W1.heap[w.heap.size]? = some (.cells #[.slice EA es.length ec, .slice TA ts.length tc] 25 (0, 0)) := by rw [hW1]; exact heap_new _ _
  have hl := hs.t
  have he := hs.e
  have C := gathered_way W1 EA TA es.length ec tc ts (fun t => t.to) (fun t => t.fr) blkK 31 #[] (h.below hb1).t (by omega) (by omega) (enters_of Try.func31 (by kernel_rfl) rfl) (fun W t _ => net1_any W t) btw_to btw_fr
  have HG := Lib.hid (fun (W : World) (hW : FI W EA TA es ts) => gathered_way W EA TA es.length ec tc ts (fun t => t.fr) (fun t => t.to) clK 32 #[] hW.t (by omega) (by omega) (enters_of Try.func32 (by kernel_rfl) rfl)
    (fun W t _ => net2_any W t) btw_fr btw_to)
  have HF := Lib.hid h
  have HB1 := Lib.hid hb1
  have HE : Hid (needS es.length ts = fun a b => gW es.length (fun t => t.to) (fun t => t.fr) blkK ts a b || gW es.length (fun t => t.fr) (fun t => t.to) clK ts a b) := Lib.hid rfl
  rw [s1] at C
  generalize gW es.length (fun t => t.to) (fun t => t.fr) blkK ts = S1 at *
  generalize gW es.length (fun t => t.fr) (fun t => t.to) clK ts = S2 at *
  have HC := Lib.hid C
  have N1 := Lib.hid n1
  clear C n1 hb1 h
  subst hW1
  rw [HE.out]
  clear HE
  obtain ⟨S, hS⟩ : ∃ S : Nat → Nat → Bool, S = fun a b => S1 a b || S2 a b := ⟨_, rfl⟩
  rw [← hS]
  have HS := Lib.hid hS
  clear hS
  go_enter Try.func13, Try.ntmps13
  go_wp2_with fail
  refine HC.out.mono ?_
  rintro e w3 ⟨rfl, hm, hb3⟩
  have hb3' : Below w.heap.size w w3 := HB1.out.trans (hb3.mono (by omega))
  have c0 : w3.cell? ⟨w.heap.size, 0, none⟩ = some (.slice EA es.length ec) := cell_blk ((hb3.block _ (by omega)).trans N1.out) rfl
  have c1 : w3.cell? ⟨w.heap.size, 1, none⟩ = some (.slice TA ts.length tc) := cell_blk ((hb3.block _ (by omega)).trans N1.out) rfl
  have n3 := (hb3.block w.heap.size (by omega)).trans N1.out
  have N3 := Lib.hid n3
  have HC2 := Lib.hid (HG.out w3 (HF.out.below hb3'))
  have HM := Lib.hid hm
  have HB3 := Lib.hid hb3'
  clear hm hb3 hb3' HC HB1 N1 HG n3
  go_wp2_with fail
  refine HC2.out.mono ?_
  rintro e w4 ⟨rfl, hm4, hb4⟩
  have hwl := blk_lt N3.out
  have d0 : w4.cell? ⟨w.heap.size, 0, none⟩ = some (.slice EA es.length ec) := cell_blk ((hb4.block _ hwl).trans N3.out) rfl
  have hb4' : Below w.heap.size w w4 := HB3.out.trans (hb4.mono HB3.out.size)
  have hmk := make_rows es.length (by omega) w4
  obtain ⟨cs, hcs⟩ : ∃ cs, cs = (List.replicate es.length (Value.slice none 0 0)).toArray := ⟨_, rfl⟩
  rw [← hcs] at hmk
  have hsz5 : (w4.alloc (.cells cs 33)).heap.size = w4.heap.size + 1 := World.size_alloc _ _
  have hal5 : Below w4.heap.size w4 (w4.alloc (.cells cs 33)) := (Below.refl _ _).alloc (Nat.le_refl _) _
  have hal6 : Below w4.heap.size w4 ((w4.alloc (.cells cs 33)).alloc (.cells #[.map (some (w.heap.size + 1 + 1)), .map (some (w3.heap.size + 1))] 57)) := hal5.alloc (by rw [hsz5]; omega) _
  have CJ := joined_way ((w4.alloc (.cells cs 33)).alloc (.cells #[.map (some (w.heap.size + 1 + 1)), .map (some (w3.heap.size + 1))] 57)) (some ⟨w4.heap.size + 1, 0, none⟩) 2 es.length [⟨w.heap.size + 1 + 1, ts.length, S1⟩, ⟨w3.heap.size + 1, ts.length, S2⟩]
    ⟨row_blk (by rw [← hsz5]; exact heap_new _ _), fun x hx => by
      rcases List.mem_cons.1 hx with rfl | hx
      · exact ⟨(HM.out.below hb4).below hal6, by show ts.length ≤ 1000000; omega⟩
      · obtain rfl : x = _ := List.mem_singleton.1 hx; exact ⟨hm4.below hal6, by show ts.length ≤ 1000000; omega⟩⟩ (by simp) (by omega)
  have hor : orW [⟨w.heap.size + 1 + 1, ts.length, S1⟩, ⟨w3.heap.size + 1, ts.length, S2⟩] = S := by rw [HS.out]; funext a b; simp [orW]
  rw [hor, World.size_alloc, hsz5] at CJ
  have HJ := Lib.hid CJ
  have hrows : (w4.alloc (.cells cs 33)).heap[w4.heap.size]? = some (.cells (List.replicate es.length (Value.slice none 0 0)).toArray 33 (0, 0)) := by rw [hcs]; exact heap_new _ _
  have hrows6 : ((w4.alloc (.cells cs 33)).alloc (.cells #[.map (some (w.heap.size + 1 + 1)), .map (some (w3.heap.size + 1))] 57)).heap[w4.heap.size]? = some (.cells (List.replicate es.length (Value.slice none 0 0)).toArray 33 (0, 0)) := heap_old (by rw [hsz5]; omega) hrows
  have HW6 := Lib.hid hrows6
  have HB6 := Lib.hid (hb4'.trans (hal6.mono hb4'.size))
  have hs6 : ((w4.alloc (.cells cs 33)).alloc (.cells #[.map (some (w.heap.size + 1 + 1)), .map (some (w3.heap.size + 1))] 57)).heap.size = w4.heap.size + 1 + 1 := by rw [World.size_alloc, hsz5]
  have HS6 := Lib.hid hs6
  have hz4 := hb4'.size
  clear hcs CJ hor hrows hrows6 hal5 hal6 hs6 hsz5 hb4 hb4' hm4 HC2 HM HB3 N3 c0 c1 HS
  go_wp2_with fail
  refine HJ.out.mono ?_
  rintro e w7 ⟨rfl, hm7, hb7⟩
  obtain ⟨D, hown, hD⟩ := hm7
  have hO7 : ORows w.heap.size w.heap.size w7 (.slice (some ⟨w4.heap.size, 0, none⟩) es.length es.length) (List.replicate es.length []) := orows_nil hz4 ((hb7.block _ (by omega)).trans HW6.out) (by omega) _ (by simp) (fun i hi => by rw [getElem!_pos _ i (by simpa using hi)]; simp)
  obtain ⟨vs0, hv0⟩ := hO7
  have HO7 := Lib.hid hv0
  have HOW := Lib.hid hown
  have HD := Lib.hid hD
  have HB7 := Lib.hid (HB6.out.trans (hb7.mono (by omega)))
  have hz7 := hb7.size
  rw [HS6.out] at hz7
  clear hown hD hv0 hb7 HJ HW6 HB6 d0 hmk HS6
  generalize hg : w4.heap.size = g at *
  clear hg
  go_wp2_with (at_range; refine wpList_range_own _ rfl _ 57 rfl 60 77 lawW Try.underlying57 Ru (g + 1 + 1) 10000000 D rfl HOW.out ?_; intro w0 hrg0 hg0 hs0)
  go_frame
  have R0 : Hid (NR w es.length g (g + 1 + 1) w7.heap.size 10000000 S D (Maps.has D) (Maps.size D) (Maps.has D) vs0 (List.replicate es.length []) w0) := Lib.hid ⟨hrg0, HO7.out.keep (fun q hq => hg0.block q (by
    rcases hq with hq | ⟨i, hi, hq⟩
    · exact (own_block HO7.out.out hq).2
    · exact (own_block (HO7.out.inn i hi) hq).2) (by simp)), LP.start HD.out, HB7.out.grown hg0 HB7.out.size (fun j hj => by cases hj)⟩
  have hz7' := HB7.out.size
  clear hrg0 hg0 hs0 HO7 HOW HB7
  generalize w7.heap.size = r at *
  go_loopw [] (fun wr => ∃ left cnt vs ls, Hid (NR w es.length g (g + 1 + 1) r 10000000 S D left cnt left vs ls wr)) (fun wr => wr.rangeLeft (g + 1 + 1) r)
  case atStart => exact ⟨_, _, _, _, R0⟩
  case round =>
    clear R0
    obtain ⟨left, cnt, vs, ls, RR⟩ := hrel
    obtain ⟨wo, rfl⟩ : ∃ wo, wo = wr := ⟨wr, rfl⟩
    have HRL := Lib.hid RR.out.rg.left_eq
    go_wp2_with (at_next; refine wpList_next_ranges _ rfl _ rfl 60 lawW Ru (fun v => v) (fun _ : Unit => Value.agg #[]) (fun key _ _ => ⟨key, rfl⟩) (fun v y hy => ⟨(), Ru_inv hy⟩) (g + 1 + 1) r 10000000 _ _ _ rfl RR.out.rg (fun hc0 hl0 => ?_) (fun x c kl y w1 cnt1 hkey hlx hRv hat hrg1 hlt1 hg1 hs1 hen => ?_); (have SS := Lib.hid (SP.start RR.out.p hl0)); (have OO := Lib.hid RR.out.o); (have BB := Lib.hid RR.out.l); clear hl0 RR hc0 HRL; rotate_left; (obtain ⟨a, b, hka, hkb, hSab, rfl, rfl⟩ := way_key HD.out (by omega) hkey hat); (have R1 := Lib.hid (RR.out.come hrg1 hg1 hz7')); (have HSab := Lib.hid hSab); (have HLX := Lib.hid hlx); (have HLT := Lib.hid hlt1); (have hl := hrg1.lt); clear hrg1 hg1 hs1 hkey hlx hRv hat RR hlt1 hSab; rotate_left)
    · go_loopw [41] (fun i wr => ∃ (k : Nat) (ls' : List (List Int)), k ≤ es.length ∧ i = .int .i64 k ∧ Hid (SP es.length S k ls') ∧ Hid (ORv w.heap.size w.heap.size wr (.slice (some ⟨g, 0, none⟩) es.length es.length) vs ls') ∧ Hid (Below w.heap.size w wr)) (fun i _ => es.length - (intOf i).toNat)
      case atStart => exact ⟨0, ls, Nat.zero_le _, rfl, SS, OO, BB⟩
      case round =>
        clear SS OO BB
        obtain ⟨k, lq, hk, rfl, SS, OO, BB⟩ := hrel
        obtain ⟨wi, rfl⟩ : ∃ wi, wi = wr := ⟨wr, rfl⟩
        by_cases hlt : k < es.length
        · have hk0 : (0 : Int) ≤ (k : Int) := Int.natCast_nonneg _
          have hk1 : (k : Int) < (es.length : Int) := by omega
          have hkl : k < lq.length := by rw [SS.out.len]; exact hlt
          obtain ⟨ra, rc, hv⟩ := own_slice (OO.out.inn k hkl)
          have hlen := (SS.out.todo k (Nat.le_refl _) hlt).2
          have C := sort_own wi vs[k]! w.heap.size lq[k]! (OO.out.inn k hkl) (by omega)
          have hout := OO.out.out
          rw [SS.out.len] at hout
          have hcv : wi.cell? ⟨g, k, none⟩ = some vs[k]! := (hout.cellAt k (by omega)).trans (by rw [getElem!_pos vs k (by rw [OO.out.len]; exact hkl), List.getElem?_eq_getElem (by rw [OO.out.len]; exact hkl)])
          have HT := Lib.hid (fun (W1 : World) h1 h2 => ORv.turnRow OO.out (W1 := W1) (l' := (lq[k]!).mergeSort fun x y => decide (x ≤ y)) hkl (List.length_mergeSort _) h1 h2)
          have HN := Lib.hid (SS.out.next hlt)
          have HBK := Lib.hid (fun j (hj : vs[k]!.ownBlock = some j) => (own_block (OO.out.inn k hkl) hj).1)
          have hbw := BB.out.size
          generalize (lq[k]!).mergeSort (fun x y => decide (x ≤ y)) = lz at *
          rw [hv] at hcv C
          have HV := Lib.hid hv
          have HC := Lib.hid C
          clear C hv SS OO hlen hout
          generalize (lq[k]!).length = nz at *
          go_wp2_with fail
          refine HC.out.mono ?_
          rintro e w5 ⟨rfl, ho, hg⟩
          rw [← HV.out] at ho hg
          have O5 := Lib.hid (HT.out _ ho hg)
          have B5 := Lib.hid (BB.out.grown hg hbw HBK.out)
          clear ho hg HC HT HBK BB hcv
          go_wp2_with fail
          go_roundw
          case rel => exact ⟨k + 1, _, hlt, by go_num, HN, O5, B5⟩
          case measure => simp [intOf]; omega
        · obtain rfl : k = es.length := by omega
          have hoo := OO.out
          rw [SS.out.all] at hoo
          have HOO := Lib.hid hoo
          clear hoo OO SS
          go_wp2_with fail
          go_ret
          exact ⟨g, vs, rfl, HOO.out, BB.out⟩
    · have R2 := R1.out.grown (World.grownBy_alloc w1 (.cells #[.int .i64 (a : Int), .int .i64 (b : Int)] 60) none)
      have hn2 := heap_new w1 (.cells #[.int .i64 (a : Int), .int .i64 (b : Int)] 60)
      have hz2 : (w1.alloc (.cells #[.int .i64 (a : Int), .int .i64 (b : Int)] 60)).heap.size = w1.heap.size + 1 := World.size_alloc _ _
      clear R1 hen
      generalize w1.alloc (.cells #[.int .i64 (a : Int), .int .i64 (b : Int)] 60) = W2 at *
      generalize w1.heap.size = wb at *
      have hal : a < ls.length := by rw [R2.p.len]; exact hka
      have hlen := R2.p.lens hka
      have ka0 : (0 : Int) ≤ (a : Int) := Int.natCast_nonneg _
      have ka1 : (a : Int) < (es.length : Int) := by omega
      obtain ⟨ra, rc, hv⟩ := own_slice (R2.o.inn a hal)
      have hin := R2.o.inn a hal
      have hgl := (own_block R2.o.out (g := g) rfl).2
      have hout := R2.o.out
      rw [R2.p.len] at hout
      have ag : (Value.slice ra ls[a]!.length rc).ownBlock ≠ some g := by rw [← hv]; exact fun e => own_types hin R2.o.out (by decide) e rfl
      have aw : (Value.slice ra ls[a]!.length rc).ownBlock ≠ some wb := by rw [← hv]; exact own_far hin hn2 (by decide)
      have cv : W2.cell? ⟨g, a, none⟩ = some (.slice ra ls[a]!.length rc) := by rw [← hv]; exact (hout.cellAt a (by omega)).trans (by rw [getElem!_pos vs a (by rw [R2.o.len]; exact hal), List.getElem?_eq_getElem (by rw [R2.o.len]; exact hal)])
      have fv : W2.frozen? ⟨g, a, none⟩ = false := hout.frozenAt a
      have cw0 : W2.cell? ⟨wb, 0, none⟩ = some (.int .i64 (a : Int)) := cell_blk hn2 rfl
      have cw1 : W2.cell? ⟨wb, 1, none⟩ = some (.int .i64 (b : Int)) := cell_blk hn2 rfl
      have R3 := R2.grown (World.grownBy_alloc W2 (.cells #[iv b] 3) none)
      have R4 := Lib.hid (R3.grown (grown_drew (row := none)))
      rw [hv] at hin
      obtain ⟨lr, hlr⟩ : ∃ lr, ls[a]! = lr := ⟨_, rfl⟩
      rw [hlr] at hin ag aw cv hlen hv
      have HIN := Lib.hid hin
      have HV := Lib.hid hv
      have HLR := Lib.hid hlr
      have hwl : wb < W2.heap.size := by omega
      have hbw := R2.l.size
      have HZ2 := Lib.hid hz2
      have hb3 : Below W2.heap.size W2 (World.drew (W2.alloc (.cells #[iv b] 3))) := below_draws ((Below.refl _ W2).alloc (Nat.le_refl _) _) 1
      have FV3 := Lib.hid ((hb3.frozen (p := ⟨g, a, none⟩) hgl).trans fv)
      clear hb3
      clear R2 R3 hn2 hin hv hout hlr hz2
      have hbd : Below W2.heap.size W2 W2.drew := below_draws (Below.refl _ _) 1
      have hba : Below W2.heap.size W2 (World.drew (W2.alloc (.cells #[iv b] 3))) := below_draws ((Below.refl _ W2).alloc (Nat.le_refl _) _) 1
      have hS0 : W2.drew.cell? ⟨wb, 0, none⟩ = some (.int .i64 (a : Int)) ∧ W2.drew.cell? ⟨wb, 1, none⟩ = some (.int .i64 (b : Int)) ∧ W2.drew.cell? ⟨g, a, none⟩ = some (.slice ra lr.length rc) := ⟨(hbd.cell (p := ⟨wb, 0, none⟩) hwl).trans cw0, (hbd.cell (p := ⟨wb, 1, none⟩) hwl).trans cw1, (hbd.cell (p := ⟨g, a, none⟩) hgl).trans cv⟩
      have hS1 : (World.drew (W2.alloc (.cells #[iv b] 3))).cell? ⟨wb, 0, none⟩ = some (.int .i64 (a : Int)) ∧ (World.drew (W2.alloc (.cells #[iv b] 3))).cell? ⟨wb, 1, none⟩ = some (.int .i64 (b : Int)) ∧ (World.drew (W2.alloc (.cells #[iv b] 3))).cell? ⟨g, a, none⟩ = some (.slice ra lr.length rc) := ⟨(hba.cell (p := ⟨wb, 0, none⟩) hwl).trans cw0, (hba.cell (p := ⟨wb, 1, none⟩) hwl).trans cw1, (hba.cell (p := ⟨g, a, none⟩) hgl).trans cv⟩
      have HS0 := Lib.hid hS0
      have HS1 := Lib.hid hS1
      have hszb : (World.drew (W2.alloc (.cells #[iv b] 3))).heap.size = W2.heap.size + 1 := by rw [World.size_drew, World.size_alloc]
      have HSB := Lib.hid hszb
      clear hbd hba hS0 hS1 cw0 cw1 cv fv hszb
      refine wp_region_T (S := fun w' => w'.cell? ⟨wb, 0, none⟩ = some (.int .i64 (a : Int)) ∧ w'.cell? ⟨wb, 1, none⟩ = some (.int .i64 (b : Int)) ∧ w'.cell? ⟨g, a, none⟩ = some (.slice ra lr.length rc)) (z := 13) (by kernel_rfl) ?_
      refine anyT_take (i := 0) 0 [] (v := ?_) rfl (by kernel_rfl) (by kernel_rfl) (by kernel_rfl) (by kernel_rfl) (fun _ _ _ h => h) HS0.out (by rfl) ?_ ?_
      rotate_left
      · intro W hSw
        obtain ⟨q0, q1, q2⟩ := hSw
        go_simp
        try with_reducible rfl
      simp only [Act.put, List.setIfInBounds_toArray, List.set_cons_zero, List.set_cons_succ, List.getElem_toArray, List.getElem_cons_zero]
      refine anyT_take (i := 1) 1 [] (v := ?_) rfl (by kernel_rfl) (by kernel_rfl) (by kernel_rfl) (by kernel_rfl) (fun _ _ _ h => h) HS0.out (by rfl) ?_ ?_
      rotate_left
      · intro W hSw
        obtain ⟨q0, q1, q2⟩ := hSw
        go_simp
        try with_reducible rfl
      simp only [Act.put, List.setIfInBounds_toArray, List.set_cons_zero, List.set_cons_succ, List.getElem_toArray, List.getElem_cons_zero, List.getElem_cons_succ]
      refine anyT_take (i := 2) 2 [] (v := ?_) rfl (by kernel_rfl) (by kernel_rfl) (by kernel_rfl) (by kernel_rfl) (fun _ _ _ h => h) HS0.out (by rfl) ?_ ?_
      rotate_left
      · intro W hSw
        obtain ⟨q0, q1, q2⟩ := hSw
        go_simp
        try with_reducible rfl
      simp only [Act.put, List.setIfInBounds_toArray, List.set_cons_zero, List.set_cons_succ, List.getElem_toArray, List.getElem_cons_zero, List.getElem_cons_succ]
      refine anyT_take (i := 3) 3 [] (v := ?_) rfl (by kernel_rfl) (by kernel_rfl) (by kernel_rfl) (by kernel_rfl) (fun _ _ _ h => h) HS0.out (by rfl) ?_ ?_
      rotate_left
      · intro W hSw
        obtain ⟨q0, q1, q2⟩ := hSw
        go_simp
        try with_reducible rfl
      simp only [Act.put, List.setIfInBounds_toArray, List.set_cons_zero, List.set_cons_succ, List.getElem_toArray, List.getElem_cons_zero, List.getElem_cons_succ]
      refine anyT_take (i := 4) 4 [] (v := ?_) rfl (by kernel_rfl) (by kernel_rfl) (by kernel_rfl) (by kernel_rfl) (fun _ _ _ h => h) HS0.out (by rfl) ?_ ?_
      rotate_left
      · intro W hSw
        obtain ⟨q0, q1, q2⟩ := hSw
        go_simp
        try with_reducible rfl
      simp only [Act.put, List.setIfInBounds_toArray, List.set_cons_zero, List.set_cons_succ, List.getElem_toArray, List.getElem_cons_zero, List.getElem_cons_succ]
      refine anyT_take (i := 5) 5 [] (v := ?_) rfl (by kernel_rfl) (by kernel_rfl) (by kernel_rfl) (by kernel_rfl) (fun _ _ _ h => h) HS0.out (by rfl) ?_ ?_
      rotate_left
      · intro W hSw
        obtain ⟨q0, q1, q2⟩ := hSw
        go_simp
        try with_reducible rfl
      simp only [Act.put, List.setIfInBounds_toArray, List.set_cons_zero, List.set_cons_succ, List.getElem_toArray, List.getElem_cons_zero, List.getElem_cons_succ]
      refine anyT_take (i := 6) 6 [] (v := ?_) rfl (by kernel_rfl) (by kernel_rfl) (by kernel_rfl) (by kernel_rfl) (fun _ _ _ h => h) HS0.out (by rfl) ?_ ?_
      rotate_left
      · intro W hSw
        obtain ⟨q0, q1, q2⟩ := hSw
        go_simp
        try with_reducible rfl
      simp only [Act.put, List.setIfInBounds_toArray, List.set_cons_zero, List.set_cons_succ, List.getElem_toArray, List.getElem_cons_zero, List.getElem_cons_succ]
      refine anyT_take (i := 7) 7 [] (v := ?_) rfl (by kernel_rfl) (by kernel_rfl) (by kernel_rfl) (by kernel_rfl) (fun _ _ _ h => h) HS0.out (by rfl) ?_ ?_
      rotate_left
      · intro W hSw
        obtain ⟨q0, q1, q2⟩ := hSw
        go_simp
        try with_reducible rfl
      simp only [Act.put, List.setIfInBounds_toArray, List.set_cons_zero, List.set_cons_succ, List.getElem_toArray, List.getElem_cons_zero, List.getElem_cons_succ]
      refine anyT_take (i := 8) 8 [] (v := ?_) rfl (by kernel_rfl) (by kernel_rfl) (by kernel_rfl) (by kernel_rfl) (fun _ _ _ h => h) HS0.out (by rfl) ?_ ?_
      rotate_left
      · intro W hSw
        obtain ⟨q0, q1, q2⟩ := hSw
        go_simp
        try with_reducible rfl
      simp only [Act.put, List.setIfInBounds_toArray, List.set_cons_zero, List.set_cons_succ, List.getElem_toArray, List.getElem_cons_zero, List.getElem_cons_succ]
      refine anyT_take (i := 9) 9 [] (v := ?_) rfl (by kernel_rfl) (by kernel_rfl) (by kernel_rfl) (by kernel_rfl) (fun _ _ _ h => h) HS0.out (by rfl) ?_ ?_
      rotate_left
      · intro W hSw
        obtain ⟨q0, q1, q2⟩ := hSw
        go_simp
        try with_reducible rfl
      simp only [Act.put, List.setIfInBounds_toArray, List.set_cons_zero, List.set_cons_succ, List.getElem_toArray, List.getElem_cons_zero, List.getElem_cons_succ]
      refine anyT_one' (i := 10) (by kernel_rfl) rfl (by rfl) (fun K0 hK0 => ?_)
      have HK0 := Lib.hid hK0
      clear hK0
      unfold Oper.wp
      go_simp
      refine HK0.out _ _ (fun _ => HS1.out) ?_
      refine anyT_one' (i := 11) (by kernel_rfl) rfl (by rfl) (fun K1 hK1 => ?_)
      have HK1 := Lib.hid hK1
      clear hK1
      refine wp_append_lies _ (.tmp 33) (.tmp 36) 33 (by rfl) w.heap.size 3 i0 _ 1 8 Try.underlying33 hi0 hi1 hi2 hi3 rfl (by omega) (.slice ra lr.length rc) lr.length (lr.map (Value.int .i64)) (by rfl) ((HIN.out.alloc _).drew)
        ⟨W2.heap.size, 0, none⟩ 1 1 [iv b] (by rfl) (by rfl) (World.news_of_block (cs := #[iv b]) (t := 3) (fr := (0, 0)) (heap_alloc_new W2 _)) (by simp [Value.oneCell']) (by omega) (by unfold maxLen; omega) (by omega) (by rw [HSB.out]; omega) (W2.heap.size + 1) HSB.out ?_
      intro gg cap w4 hown1 hgrow hat hlt
      have ff4 : w4.frozen? ⟨g, a, none⟩ = false := (hgrow.frozen_far _ (by show g < _; rw [HSB.out]; omega) (Ne.symm ag)).trans FV3.out
      have hS4 : w4.cell? ⟨wb, 0, none⟩ = some (.int .i64 (a : Int)) ∧ w4.cell? ⟨wb, 1, none⟩ = some (.int .i64 (b : Int)) ∧ w4.cell? ⟨g, a, none⟩ = some (.slice ra lr.length rc) := ⟨(hgrow.cell_far _ (by show wb < _; rw [HSB.out]; omega) (Ne.symm aw)).trans HS1.out.1, (hgrow.cell_far _ (by show wb < _; rw [HSB.out]; omega) (Ne.symm aw)).trans HS1.out.2.1, (hgrow.cell_far _ (by show g < _; rw [HSB.out]; omega) (Ne.symm ag)).trans HS1.out.2.2⟩
      have hR5 := R4.out.put (a := a) (b := b) (v' := .slice (some ⟨gg, 0, none⟩) (lr.length + 1) cap) (by omega) hka hkb HSab.out HLX.out (by rw [HLR.out]; exact hown1) (by rw [HV.out]; exact hgrow) (by
        rw [HV.out]
        rcases hat with h | h
        · exact .inl h.symm
        · exact .inr ⟨gg, rfl, by rw [HSB.out, h]; exact Nat.le_refl _⟩)
      have R5 := Lib.hid hR5
      have HS4 := Lib.hid hS4
      have hc4 := hS4.2.2
      clear hown1 hgrow hat hlt hR5 hS4 R4
      refine HK1.out _ _ (fun _ => HS4.out) ?_
      refine anyT_one' (i := 12) (by kernel_rfl) rfl (by rfl) (fun K2 hK2 => ?_)
      have HK2 := Lib.hid hK2
      clear hK2
      unfold Oper.wp
      go_simp
      refine HK2.out _ _ (fun _ => HS4.out) ?_
      refine anyT_one' (i := 13) (by kernel_rfl) rfl (by rfl) (fun K3 hK3 => ?_)
      have HK3 := Lib.hid hK3
      clear hK3 HK2 HK1 HK0
      unfold Oper.wp
      go_simp
      refine HK3.out _ _ (fun h => absurd rfl h) ?_
      refine anyT_done (by kernel_rfl) ?_ _
      go_wp2_with fail
      go_roundw
      case rel => exact ⟨_, _, _, _, R5⟩
      case measure => rw [R5.out.rg.left_eq, HRL.out]; exact HLT.out
end
end Go.Proofs.Ytigicbnkfmbolaa.N7
