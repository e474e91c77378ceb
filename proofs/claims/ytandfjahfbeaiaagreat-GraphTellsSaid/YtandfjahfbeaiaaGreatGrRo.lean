/-
  Contract of graph.Roles, of every graph.
-/
import Derived.Test.YtandfjahfbeaiaaGreatGrAb
import Derived.Test.YtandfjahfbeaiaaGreatShelf
import Derived.Lib.OwnBridge
import Derived.Lib.RowBridge
import Derived.Sort.OwnSorted
import Derived.Laws.AppendOwnNone
namespace Go.Proofs.YtandfjahfbeaiaaGreat
open Go.RowKit Go.Shelf Go.Sort

/-- All roles as they stand: the events', then the users'. -/
def rolesE (g : Gr) (k : Nat) : List ByteArray := (g.es.take k).map (·.role)
def rolesU (g : Gr) (k : Nat) : List ByteArray := g.es.map (·.role) ++ (g.us.take k).flatMap (·.roles)
def rolesAll (g : Gr) : List ByteArray := g.es.map (·.role) ++ g.us.flatMap (·.roles)
def sortK (l : List Key) : List Key := l.mergeSort fun x y => decide (x ≤ y)
def rolesK (g : Gr) : List Key := Lib.compact (sortK ((rolesAll g).map (·.data.toList)))
def strK (k : Key) : ByteArray := ⟨k.toArray⟩
/-- All roles, each once, in order. -/
def rolesL (g : Gr) : List ByteArray := if mayL g then (rolesK g).map strK else []
theorem rolesE_succ {g : Gr} {k : Nat} (h : k < g.es.length) : rolesE g (k + 1) = rolesE g k ++ [g.es[k]!.role] := by
  rw [rolesE, List.take_succ_eq_append_getElem h, List.map_append, getElem!_pos g.es k h]; rfl
theorem rolesU_succ {g : Gr} {k : Nat} (h : k < g.us.length) : rolesU g (k + 1) = rolesU g k ++ g.us[k]!.roles := by
  rw [rolesU, List.take_succ_eq_append_getElem h, List.flatMap_append, getElem!_pos g.us k h, ← List.append_assoc]; simp [rolesU]
theorem rolesE_all (g : Gr) : rolesE g g.es.length = rolesU g 0 := by simp [rolesE, rolesU]
theorem rolesU_all (g : Gr) : rolesU g g.us.length = rolesAll g := by simp [rolesU, rolesAll]
theorem rolesE_len {g : Gr} {k : Nat} (h : k ≤ g.es.length) : (rolesE g k).length = k := by simp [rolesE]; omega
structure FewG (g : Gr) : Prop where
  gs : g.gs.length ≤ 40
  es : g.es.length ≤ 80
  rs : g.rs.length ≤ 300
  us : g.us.length ≤ 40
  ro : ∀ u ∈ g.us, u.roles.length ≤ 8
theorem may_few {g : Gr} (h : mayL g = true) : FewG g := by
  have h1 := (may_iff.1 h).1
  unfold limitE at h1
  by_cases a : 40 < g.gs.length
  · rw [if_pos a] at h1; cases h1
  rw [if_neg a] at h1
  by_cases b : 80 < g.es.length
  · rw [if_pos b] at h1; cases h1
  rw [if_neg b] at h1
  by_cases c : 300 < g.rs.length
  · rw [if_pos c] at h1; cases h1
  rw [if_neg c] at h1
  by_cases d : 40 < g.us.length
  · rw [if_pos d] at h1; cases h1
  rw [if_neg d] at h1
  by_cases e : (g.us.any (fun u => decide (8 < u.roles.length))) = true
  · rw [if_pos e] at h1; cases h1
  refine ⟨by omega, by omega, by omega, by omega, fun u hu => ?_⟩
  rcases Nat.lt_or_ge 8 u.roles.length with h8 | h8
  · exact absurd (List.any_eq_true.2 ⟨u, hu, by simpa using h8⟩) e
  · exact h8
theorem flat_few {l : List Us} {m : Nat} (h : ∀ u ∈ l, u.roles.length ≤ m) : (l.flatMap (·.roles)).length ≤ l.length * m := by
  induction l with
  | nil => simp
  | cons u r ih =>
    have h1 := h u (by simp)
    have h2 := ih (fun v hv => h v (by simp [hv]))
    rw [List.flatMap_cons, List.length_append, List.length_cons, Nat.succ_mul]; omega
theorem rolesU_len {g : Gr} (h : FewG g) {k : Nat} (hk : k ≤ g.us.length) : (rolesU g k).length ≤ 80 + k * 8 := by
  have h1 := flat_few (l := g.us.take k) (m := 8) (fun u hu => h.ro u (List.mem_of_mem_take hu))
  rw [List.length_take, Nat.min_eq_left hk] at h1
  have h2 := h.es
  rw [rolesU, List.length_append, List.length_map]; omega

def ERel (g : Gr) (W0 : World) (v i : Value) (wr : World) : Prop :=
  ∃ k : Nat, k ≤ g.es.length ∧ i = .int .i64 k ∧ Hid (wr.ownsRow W0.heap.size 9 1 v (rolesE g k).length ((rolesE g k).map Value.string)) ∧ Below W0.heap.size W0 wr
def URel (g : Gr) (W0 : World) (v i : Value) (wr : World) : Prop :=
  ∃ k : Nat, k ≤ g.us.length ∧ i = .int .i64 k ∧ Hid (wr.ownsRow W0.heap.size 9 1 v (rolesU g k).length ((rolesU g k).map Value.string)) ∧ Below W0.heap.size W0 wr

set_option maxRecDepth 100000 in
set_option maxHeartbeats 4000000 in
theorem roles_any (w : World) (g : Gr) (hI : InG w g) (hz : SzG g) (hcap : ∀ u ∈ g.us, u.roles.length ≤ u.rc) (hnil : ∀ u ∈ g.us, u.ra = none → u.rc = 0) :
    Calls Tryz.prog 13 #[.agg #[.slice g.ga g.gs.length g.gc, .slice g.ea g.es.length g.ec, .slice g.ra g.rs.length g.rc, .slice g.ua g.us.length g.uc]] w (StrsOf (rolesL g) w) := by
  have C1 := Lib.hid (mayBe_any (boxW w g) g (hI.below (Nat.le_refl _) (box_below w g)) hz hcap)
  have hb0 := box_below w g
  have hs0 := box_size w g
  have z2 := hz.es
  have z4 := hz.us
  have HI := Lib.hid hI
  have HZ := Lib.hid hz
  have HN := Lib.hid hnil
  have HL : Hid (rolesL g = if mayL g then (rolesK g).map strK else []) := Lib.hid rfl
  have HS0 := Lib.hid hs0
  clear hI hz hcap hs0 hnil
  cases hm : mayL g with
  | false =>
    rw [hm] at C1 HL
    rw [if_neg (by decide)] at HL
    clear hm
    go_enter Tryz.func13, Tryz.ntmps13
    go_wp2_with fail
    refine C1.out.mono ?_
    rintro e w1 ⟨rfl, hb1⟩
    go_wp2_with fail
    go_ret
    exact ⟨_, rfl, by rw [HL.out]; exact World.ownsRow_nil _ _ _ _, hb0.trans (hb1.mono hb0.size)⟩
  | true =>
    rw [hm, if_pos rfl] at HL
    rw [hm] at C1
    have HF := Lib.hid (may_few hm)
    have f2 := HF.out.es
    have f4 := HF.out.us
    clear hm
    go_enter Tryz.func13, Tryz.ntmps13
    go_wp2_with fail
    refine C1.out.mono ?_
    rintro e w1 ⟨rfl, hb1⟩
    have B1 := Lib.hid (hb0.trans (hb1.mono hb0.size))
    have X1 := Lib.hid (hb1.mono (by rw [HS0.out]; exact Nat.le_refl _) : Below (w.heap.size + 1) (boxW w g) w1)
    obtain ⟨a0, a1, a2, a3⟩ := box_cells X1.out
    have y1 : w.heap.size + 1 ≤ w1.heap.size := by have := X1.out.size; rw [HS0.out] at this; exact this
    obtain ⟨i0, hi, hz0, hz1, hz2⟩ := info_parts info_st
    have HI0 := Lib.hid hi
    have HZ0 := Lib.hid hz0
    have HZ1 := Lib.hid hz1
    have HZ2 := Lib.hid hz2
    clear hb1 C1 hi hz0 hz1 hz2
    go_wp2_with fail
    obtain ⟨ea, hea⟩ : ∃ ea, g.ea = ea := ⟨_, rfl⟩
    rw [hea]
    have HEA := Lib.hid hea
    clear hea a0 a1 a2 a3
    go_loopw [3, 14] (fun v i wr => ERel g w1 v i wr) (fun _ i _ => g.es.length - (intOf i).toNat)
    case atStart => exact ⟨0, Nat.zero_le _, rfl, Lib.hid (World.ownsRow_nil _ _ _ _), Below.refl _ _⟩
    case round =>
      obtain ⟨k, hk, rfl, HV, hB⟩ := hrel
      have hBz := hB.size
      have hel := rolesE_len hk
      by_cases hlt : k < g.es.length
      · obtain ⟨b, off, hA, hb, hc⟩ := HI.out.es.at_ (k := 6) (fun _ => rfl) (by omega) hlt
        obtain rfl : ea = some ⟨b, off, none⟩ := HEA.out.symm.trans hA
        clear hA
        have hBB := B1.out.trans (hB.mono (by have := B1.out.size; omega))
        have k0 := hc 0 _ rfl
        rw [Nat.add_zero] at k0
        have k1 := hc 1 _ rfl
        have k2 := hc 2 _ rfl
        have k3 := hc 3 _ rfl
        have k4 := hc 4 _ rfl
        have k5 := hc 5 _ rfl
        rw [← hBB.cell (p := ⟨b, _, none⟩) hb] at k0 k1 k2 k3 k4 k5
        have HBB := Lib.hid hBB
        have hbk : b < wr.heap.size := by have := HBB.out.size; omega
        have HR := Lib.hid (rolesE_succ hlt)
        have HEL := Lib.hid hel
        have hel' : (rolesE g k).length ≤ 80 := by omega
        obtain ⟨va, vc, rfl⟩ := own_slice HV.out
        clear hc hBB hel
        generalize g.es[k]! = x at *
        go_wp2_with (at_builtin; refine wpList_append_own _ rfl (.tmp 18) (.tmp 21) 34 rfl w1.heap.size 9 i0 _ 1 16 Tryz.underlying34 HI0.out HZ0.out HZ1.out HZ2.out rfl (by omega) _ _ _ rfl ((HV.out.alloc _).alloc _) ⟨wr.heap.size + 1, 0, none⟩ 1 1 [.string x.role] rfl rfl ?c1 ?c2 ?c3 ?c4 ?c5 ?_)
        case c1 =>
          intro j u hj
          match j, hj with
          | 0, hj => simp at hj; subst hj; simp [Addr.add]
        case c2 => intro u hu; simp at hu; subst hu; rfl
        case c3 => unfold maxLen; omega
        case c4 => omega
        case c5 => simp; omega
        intro v' w4 hown' hgrow _
        have HB4 : Hid (Below w1.heap.size w1 w4) := Lib.hid (((hB.alloc hBz _).alloc (by rw [World.size_alloc]; omega) _).grown hgrow (by rw [World.size_alloc, World.size_alloc]; omega) (fun j hj => (HV.out.lt j hj).1))
        have HV4 : Hid (w4.ownsRow w1.heap.size 9 1 v' (rolesE g (k + 1)).length ((rolesE g (k + 1)).map Value.string)) := Lib.hid (by
          rw [HR.out, List.map_append, List.length_append]; exact hown')
        clear hown' hgrow
        go_wp2_with fail
        go_roundw
        case rel => exact ⟨k + 1, hlt, by go_num, HV4, HB4.out⟩
        case measure => simp [intOf]; omega
      · obtain rfl : k = g.es.length := by omega
        have BR := Lib.hid (B1.out.trans (hB.mono (by have := B1.out.size; omega)))
        have XR := Lib.hid (X1.out.trans (hB.mono (by omega)))
        obtain ⟨a0, a1, a2, a3⟩ := box_cells XR.out
        have HV0 : Hid (wr.ownsRow w1.heap.size 9 1 _ (rolesU g 0).length ((rolesU g 0).map Value.string)) := Lib.hid (by rw [← rolesE_all]; exact HV.out)
        clear hel HV
        go_wp2_with fail
        obtain ⟨ua, hua⟩ : ∃ ua, g.ua = ua := ⟨_, rfl⟩
        rw [hua]
        have HUA := Lib.hid hua
        clear hua a0 a1 a2 a3
        go_loopw [3, 27] (fun v i wr => URel g w1 v i wr) (fun _ i _ => g.us.length - (intOf i).toNat)
        case atStart => exact ⟨0, Nat.zero_le _, rfl, HV0, hB⟩
        case round =>
          clear HV0 hB hBz
          obtain ⟨k, hk, rfl, HV, hB⟩ := hrel
          have hBz := hB.size
          have hul := rolesU_len HF.out hk
          by_cases hlt : k < g.us.length
          · obtain ⟨b, off, hA, hb, hc⟩ := HI.out.us.at_ (k := 3) (fun _ => rfl) (by omega) hlt
            obtain rfl : ua = some ⟨b, off, none⟩ := HUA.out.symm.trans hA
            clear hA
            have hBB := B1.out.trans (hB.mono (by have := B1.out.size; omega))
            have k0 := hc 0 _ rfl
            rw [Nat.add_zero] at k0
            have k1 := hc 1 _ rfl
            have k2 := hc 2 _ rfl
            rw [← hBB.cell (p := ⟨b, _, none⟩) hb] at k0 k1 k2
            have HBB := Lib.hid hBB
            have hbk : b < wr.heap.size := by have := HBB.out.size; omega
            have HR := Lib.hid (rolesU_succ hlt)
            have hro := HF.out.ro _ (mem_at hlt)
            have HRw := Lib.hid (HI.out.roles _ (mem_at hlt))
            have hnl := HN.out _ (mem_at hlt)
            obtain ⟨va, vc, rfl⟩ := own_slice HV.out
            have hul' : (rolesU g k).length ≤ 400 := by omega
            clear hc hBB hul
            generalize g.us[k]! = x at *
            obtain ⟨xn, xa, xc, xr, xs⟩ := x
            simp only at k0 k1 k2 HR hro HRw hnl
            cases xa with
            | none =>
              have hx0 : xr = [] := by
                cases xr with
                | nil => rfl
                | cons t r => obtain ⟨b', off', e, _⟩ := HRw.out (by simp); cases e
              obtain rfl : xc = 0 := hnl rfl
              subst hx0
              clear hnl
              have hl0 : ([] : List ByteArray).length = 0 := rfl
              simp only [hl0] at k1
              clear hl0
              have HR' : Hid (rolesU g (k + 1) = rolesU g k) := Lib.hid (by rw [HR.out, List.append_nil])
              go_wp2_with (at_builtin; refine wpList_append_own_none rfl (.tmp 31) (.tmp 33) 34 rfl w1.heap.size 9 i0 1 Tryz.underlying34 HI0.out _ _ _ rfl (HV.out.alloc _) rfl ?_)
              go_roundw
              case rel => exact ⟨k + 1, hlt, by go_num, Lib.hid (by rw [HR'.out]; exact HV.out.alloc _), hB.alloc hBz _⟩
              case measure => simp [intOf]; omega
            | some ad =>
              clear hnl
              go_wp2_with (at_builtin; refine wpList_append_own _ rfl (.tmp 31) (.tmp 33) 34 rfl w1.heap.size 9 i0 _ 1 16 Tryz.underlying34 HI0.out HZ0.out HZ1.out HZ2.out rfl (by omega) _ _ _ rfl (HV.out.alloc _) ad xr.length xc (xr.map Value.string) rfl (by simp) ?c1 ?c2 ?c3 ?c4 ?c5 ?_)
              case c1 =>
                intro j u hj
                obtain ⟨b', off', e, hb', hcell⟩ := HRw.out (fun h0 => by rw [h0, List.getElem?_nil] at hj; cases hj)
                obtain rfl : ad = ⟨b', off', none⟩ := Option.some.inj e
                rw [Addr.add_lit]
                have h1 := hcell j u hj
                rw [← HBB.out.cell (p := ⟨b', _, none⟩) hb'] at h1
                exact (World.cell?_alloc_lt _ _ ⟨b', off' + j, none⟩ (by have := HBB.out.size; show b' < wr.heap.size; omega)).trans h1
              case c2 => intro u hu; simp at hu; obtain ⟨s, _, rfl⟩ := hu; rfl
              case c3 => unfold maxLen; omega
              case c4 => omega
              case c5 => simp; omega
              intro v' w4 hown' hgrow _
              have HB4 : Hid (Below w1.heap.size w1 w4) := Lib.hid ((hB.alloc hBz _).grown hgrow (by rw [World.size_alloc]; omega) (fun j hj => (HV.out.lt j hj).1))
              have HV4 : Hid (w4.ownsRow w1.heap.size 9 1 v' (rolesU g (k + 1)).length ((rolesU g (k + 1)).map Value.string)) := Lib.hid (by
                rw [HR.out, List.map_append, List.length_append]; exact hown')
              clear hown' hgrow
              go_wp2_with fail
              go_roundw
              case rel => exact ⟨k + 1, hlt, by go_num, HV4, HB4.out⟩
              case measure => simp [intOf]; omega
          · obtain rfl : k = g.us.length := by omega
            rw [rolesU_all] at HV hul
            have BW := Lib.hid (B1.out.trans (hB.mono (by have := B1.out.size; omega)))
            have hwz : w.heap.size ≤ w1.heap.size := B1.out.size
            have HB := Lib.hid hB
            clear hB
            generalize hra : rolesAll g = ra at *
            have HRA := Lib.hid hra
            clear hra
            obtain ⟨va0, hva0⟩ : ∃ v : Value, v = u3 := ⟨_, rfl⟩
            subst hva0
            by_cases h0 : ra.length = 0
            · obtain rfl : ra = [] := List.eq_nil_of_length_eq_zero h0
              obtain ⟨va, vc, rfl⟩ := own_slice HV.out
              have HK : Hid (rolesL g = []) := Lib.hid (by rw [HL.out, rolesK, HRA.out]; simp [sortK, Lib.compact, Lib.compactUpTo])
              have HV' := Lib.hid (own_base HV.out hwz)
              clear HV h0
              have C2 := Lib.hid (slices_Sort_string_none va vc wr)
              have C3 := Lib.hid (slices_Compact_string_empty va vc wr)
              simp only [List.length_nil] at HV' C2 C3 ⊢
              go_wp2_with fail
              refine C2.out.mono ?_
              rintro e w5 ⟨rfl, rfl⟩
              go_wp2_with fail
              refine C3.out.mono ?_
              rintro e w6 ⟨rfl, rfl⟩
              go_wp2_with fail
              go_ret
              exact ⟨_, rfl, by rw [HK.out]; exact HV'.out, BW.out⟩
            · have hne : va0 ≠ .slice none 0 0 := by
                intro e
                have h1 := HV.out
                rw [e] at h1
                obtain ⟨_, _, h2⟩ := own_slice h1
                injection h2 with _ h3 _
                exact h0 h3.symm
              obtain ⟨gb, cap, rfl, hbase, hgl, hn, hm, hlen, hH⟩ := Lib.holds_of_ownsRow (enc := encStr) (zs := ra.map (·.data.toList)) (by rw [Lib.map_encStr]; exact HV.out) hne
              obtain ⟨g', cap', cur, hv, _, hgc, _, _, hcs, hct⟩ := (HV.out.2).resolve_left (fun h => hne h.1)
              obtain ⟨rfl, rfl⟩ : g' = gb ∧ cap' = cap := by injection hv with h1 _ h3; injection h1 with h1; injection h1 with h1; exact ⟨h1.symm, h3.symm⟩
              have hsl : (ra.map (·.data.toList)).length = ra.length := List.length_map ..
              have C2 := Lib.hid (slices_Sort_string g' 0 cap' (ra.map (·.data.toList)) wr hH hgl (by omega))
              rw [hsl] at C2
              have hml : (sortK (ra.map (·.data.toList))).length = (ra.map (·.data.toList)).length := List.length_mergeSort _
              have O5 : ∀ (n : Nat) (os : Array Obj), Hid ((grow (putRow encStr (Sort.ahead wr n) g' 0 (sortK (ra.map (·.data.toList))).toArray) os).ownsRow w1.heap.size 9 1 (.slice (some ⟨g', 0, none⟩) (ra.map (·.data.toList)).length cap') (ra.map (·.data.toList)).length ((sortK (ra.map (·.data.toList))).map encStr)) := fun n os =>
                Lib.hid (ownsRow_sorted hml hbase hgc (by omega) hm hcs)
              have HB5 : ∀ (n : Nat) (os : Array Obj), Hid (Below w1.heap.size w1 (grow (putRow encStr (Sort.ahead wr n) g' 0 (sortK (ra.map (·.data.toList))).toArray) os)) := fun n os =>
                Lib.hid (HB.out.grown (grownBy_sorted _) hBz (fun j hj => by cases hj; exact hbase))
              have HK : Hid (rolesL g = (Lib.compact (sortK (ra.map (·.data.toList)))).map strK) := Lib.hid (by rw [HL.out, rolesK, HRA.out])
              have hul3 : ra.length ≤ 400 := by omega
              have HBA := Lib.hid hbase
              have HN' := Lib.hid hn
              clear hH hgc hct hv hne hbase hn hm hcs HV
              go_wp2_with fail
              refine C2.out.mono ?_
              rintro e w5 ⟨rfl, n, os, hw5⟩
              have o5 := O5 n os
              have b5 := HB5 n os
              rw [show grow (putRow encStr (Sort.ahead wr n) g' 0 (sortK (ra.map (·.data.toList))).toArray) os = w5 from hw5.symm] at o5 b5
              clear hw5 O5 HB5 C2
              obtain ⟨g2, cap2, hv2, _, _, hn2, _, hlen2, hH2⟩ := Lib.holds_of_ownsRow (enc := encStr) o5.out (by intro e; cases e)
              obtain ⟨rfl, rfl⟩ : g2 = g' ∧ cap2 = cap' := by injection hv2 with h1 _ h3; injection h1 with h1; injection h1 with h1; exact ⟨h1.symm, h3.symm⟩
              have C3 := Lib.hid (slices_Compact_string g2 0 cap2 (sortK (ra.map (·.data.toList))) w5 hH2 (by omega) (by omega))
              rw [hml, hsl] at C3
              clear hv2 hH2
              go_wp2_with fail
              refine C3.out.mono ?_
              rintro e w6 ⟨rfl, q, hw6⟩
              have hcl : (Lib.compact (sortK (ra.map (·.data.toList)))).length ≤ (ra.map (·.data.toList)).length := by
                have := Lib.compact_length_le (sortK (ra.map (·.data.toList))); omega
              have o6 := Lib.hid (Lib.ownsRow_putRow (q := q) (k := (Lib.compact (sortK (ra.map (·.data.toList)))).length) o5.out (ys := Lib.compact (sortK (ra.map (·.data.toList))) ++ List.replicate (ra.length - (Lib.compact (sortK (ra.map (·.data.toList)))).length) []) (by rw [List.length_append, List.length_replicate]; omega) hcl)
              have b6 := Lib.hid (Lib.below_putRow (enc := encStr) (q := q) (d := (Lib.compact (sortK (ra.map fun x : ByteArray => x.data.toList)) ++ List.replicate (ra.length - (Lib.compact (sortK (ra.map fun x : ByteArray => x.data.toList))).length) []).toArray) b5.out HBA.out)
              rw [← hw6] at o6 b6
              clear hw6 C3
              go_wp2_with fail
              go_ret
              refine ⟨_, rfl, ?_, B1.out.trans (b6.out.mono hwz)⟩
              rw [HK.out, List.length_map, List.map_map]
              have h6 := own_base o6.out hwz
              rw [List.take_left] at h6
              exact h6
end Go.Proofs.YtandfjahfbeaiaaGreat
