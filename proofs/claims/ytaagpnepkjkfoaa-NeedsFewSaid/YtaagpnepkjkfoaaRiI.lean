/-
  Contract of heads.
-/
import Derived.Test.YtaagpnepkjkfoaaRiH
namespace Go.Proofs.Ytaagpnepkjkfoaa.R6
open Go.RowKit Go.Shelf Go.Proofs.Ytaagpnepkjkfoaa.B

theorem uo_heads (x : Cx) (g : Nat) (h1 : x.fc = .func (.func 74) #[] #[pt (g + 1), pt (g + 6), pt (g + 3), pt (g + 5)]) (h2 : x.fw = .func (.func 75) #[] #[pt (g + 1), pt (g + 5)]) (h3 : x.fl = .func (.func 76) #[] #[pt (g + 3), pt (g + 5), pt (g + 6), pt (g + 1)]) :
    UO Try.prog x opT (UHx x.rs.length g) (fun _ s => s.o.length ≤ 100000) (fun a s => s.o.length ≤ 100000 ∧ s.m[a]! < s.o.length ∧ ∀ p ∈ s.o, p < x.rs.length)
      74 75 76 #[pt (g + 1), pt (g + 6), pt (g + 3), pt (g + 5)] #[pt (g + 1), pt (g + 5)] #[pt (g + 3), pt (g + 5), pt (g + 6), pt (g + 1)] := by
  refine ⟨h1, h2, h3, enters_of Try.func74 (by kernel_rfl) rfl, enters_of Try.func75 (by kernel_rfl) rfl, enters_of Try.func76 (by kernel_rfl) rfl,
    fun s W W' F h _ hk => ?_, fun s W F k h hk => ?_, fun s W F a h ha hQ => ?_, fun s W F a b h ha hb => ?_, fun s W F a h ha hQ => ?_⟩
  · obtain ⟨vo, h, rfl⟩ := h
    exact ⟨vo, h.keep hk, rfl⟩
  · obtain ⟨vo, h, rfl⟩ := h
    exact h.flt hk
  · obtain ⟨vo, h, rfl⟩ := h
    show Calls Try.prog 74 #[iv a, pt (g + 1), pt (g + 6), pt (g + 3), pt (g + 5)] W _
    exact (come_any W x.rs.length g a s vo h ha hQ).mono fun e W' ⟨hv, v', hu, he, hF⟩ => ⟨hv, _, ⟨v', hu, rfl⟩, he, hF⟩
  · obtain ⟨vo, h, rfl⟩ := h
    show Calls Try.prog 75 #[iv a, iv b, pt (g + 1), pt (g + 5)] W _
    exact (way_any W x.rs.length g a b s vo h ha hb).mono fun e W' ⟨hv, hu, he⟩ => ⟨hv, _, ⟨vo, hu, rfl⟩, he, fun k hk => .inl hk⟩
  · obtain ⟨vo, h, rfl⟩ := h
    show Calls Try.prog 76 #[iv a, pt (g + 3), pt (g + 5), pt (g + 6), pt (g + 1)] W _
    exact (leave_any W x.rs.length g a s vo h ha hQ.1 hQ.2.1 hQ.2.2).mono fun e W' ⟨hv, v', hu, he, hF⟩ => ⟨hv, _, ⟨v', hu, rfl⟩, he, hF⟩
theorem TI.o_len {n : NetL} {s : St TJ} (h : TI n s) : s.2.o.length ≤ n.length := pigeon h.nd (fun _ hx => h.o_lt hx)
theorem q_heads {n : NetL} (hN : n.length ≤ 900) (a : Nat) (s : St TJ) (ws : List Nat) (t : St TJ) (h : InvT n a s ws t) : t.2.o.length ≤ 100000 := by have := h.ti.o_len; omega
theorem ql_heads {n : NetL} (hN : n.length ≤ 900) (a : Nat) (s : St TJ) (t : St TJ) (h : InvT n a s (wy n a) t) : t.2.o.length ≤ 100000 ∧ t.2.m[a]! < t.2.o.length ∧ ∀ p ∈ t.2.o, p < n.length := by
  obtain ⟨O, ho⟩ := h.s
  obtain ⟨T, h1, _⟩ := h.o O ho
  have hpos : t.2.o[O.length]? = some a := by rw [h1]; simp
  refine ⟨q_heads hN a s _ t h, ?_, fun p hp => h.ti.o_lt hp⟩
  rw [h.ti.mr _ a hpos, h1]; simp
theorem walkI_head (n : NetL) (k : Nat) (hk : k < n.length) : walkI n opT (headSt n k) (k : Int) = headSt n (k + 1) := by
  rw [headSt_step]
  unfold walkI
  have : hasI n.length (k : Int) = true := by unfold hasI; rw [decide_eq_true (by omega), decide_eq_true (by omega)]; rfl
  rw [this, if_pos rfl, Int.toNat_natCast]
theorem pre_head (n : NetL) (k : Nat) (hk : k < n.length) : ∀ a : Nat, (k : Int) = (a : Int) → a < n.length → (headSt n k).1[a]! = false → (headSt n k).2.o.length ≤ 100000 ∧ PreT n a (goT opT a (headSt n k)) := by
  intro a e ha hkn
  obtain rfl : k = a := by omega
  obtain ⟨h1, h2, _⟩ := headSt_ti n k (by omega)
  exact ⟨by rw [h2]; simp, h1.come ha hkn (fun x hx => by rw [h2] at hx; simp at hx), ⟨[], by rw [goT_o, h2]⟩⟩

def hblocks (g N : Nat) : List Obj :=
  [.cells ((List.replicate N (0 : Int)).map (Value.int .i64)).toArray 3, .cells #[rowAt g N] 26, .cells ((List.replicate N (0 : Int)).map (Value.int .i64)).toArray 3, .cells #[rowAt (g + 2) N] 26,
   .cells ((List.replicate N (0 : Int)).map (Value.int .i64)).toArray 3, .cells #[rowAt (g + 4) N] 26, .cells #[.slice none 0 0] 26]
theorem zeros_iv (N : Nat) : (List.replicate N (0 : Int)).map (Value.int .i64) = (List.replicate N (0 : Nat)).map iv := by simp
theorem hblocks_uh (w : World) (N : Nat) (hN : N ≤ 100000) : UH N w.heap.size ⟨List.replicate N 0, List.replicate N 0, List.replicate N 0, []⟩ ((hblocks w.heap.size N).foldl World.alloc w) (.slice none 0 0) := by
  have at_ := fun k => allocs_at (hblocks w.heap.size N) w k
  have h0 := at_ 0 (by simp [hblocks])
  rw [Nat.add_zero] at h0
  refine ⟨by simp, by simp, by simp, at_ 1 (by simp [hblocks]), at_ 3 (by simp [hblocks]), at_ 5 (by simp [hblocks]), at_ 6 (by simp [hblocks]), ?_, ?_, ?_, World.ownsRow_nil _ _ _ _⟩
  · exact own_all (Nat.le_refl _) h0 (by simp) hN
  · exact own_all (by omega) ((at_ 2 (by simp [hblocks])).trans (by rw [← zeros_iv]; rfl)) (by simp) hN
  · exact own_all (by omega) ((at_ 4 (by simp [hblocks])).trans (by rw [← zeros_iv]; rfl)) (by simp) hN

set_option maxRecDepth 100000 in
set_option maxHeartbeats 4000000 in
theorem heads_any (w : World) (A : Option Addr) (c : Nat) (rs : List RW) (hn : NetIn w A rs) (hN : rs.length ≤ 900) (hrow : ∀ r ∈ rs, r.l.length ≤ 100000) :
    Calls Try.prog 47 #[.slice A rs.length c] w fun e w' => e = .returned (rowAt w.heap.size rs.length) ∧ w'.ownsRow w.heap.size 3 1 (rowAt w.heap.size rs.length) rs.length ((headL (netOf rs)).map (Value.int .i64)) ∧ Below w.heap.size w w' := by
  have hnl : (netOf rs).length = rs.length := net_len _
  have hmf : ∀ (fn : Fn) (first cap : Array Value) (w : World), (Instr.makeFunc fn first cap).run Try.prog w = .ok (.func fn first cap) w := fun _ _ _ _ => rfl
  have hb := make_ints rs.length (by omega)
  have e43 := enters_of Try.func79 (by kernel_rfl) rfl
  obtain ⟨cs, hcs⟩ : ∃ cs, cs = ((List.replicate rs.length (0 : Int)).map (Value.int .i64)).toArray := ⟨_, rfl⟩
  rw [← hcs] at hb
  obtain ⟨W2, hW2⟩ : ∃ W2, W2 = (hblocks w.heap.size rs.length).foldl World.alloc w := ⟨_, rfl⟩
  have hs2 : W2.heap.size = w.heap.size + 7 := by rw [hW2, allocs_size]; rfl
  have hb2 : Below w.heap.size w W2 := by rw [hW2]; exact allocs_below _ _ (Nat.le_refl _)
  have hu2 := hblocks_uh w rs.length (by omega)
  rw [← hW2] at hu2
  obtain ⟨x, hx⟩ : ∃ x : Cx, x = ⟨w, W2.heap.size, rs, A, c, .func (.func 74) #[] #[pt (w.heap.size + 1), pt (w.heap.size + 6), pt (w.heap.size + 3), pt (w.heap.size + 5)], .func (.func 75) #[] #[pt (w.heap.size + 1), pt (w.heap.size + 5)], .func (.func 76) #[] #[pt (w.heap.size + 3), pt (w.heap.size + 5), pt (w.heap.size + 6), pt (w.heap.size + 1)]⟩ := ⟨_, rfl⟩
  have hxr : x.rs = rs := by rw [hx]
  have hxn : x.net = netOf rs := by rw [hx]; rfl
  have hxS : x.S = w.heap.size + 7 := by rw [hx]; exact hs2
  have hxw : x.w0 = w := by rw [hx]
  have uo := uo_heads x w.heap.size (by rw [hx]) (by rw [hx]) (by rw [hx])
  have C1 := Lib.hid (walker_any W2 A rs.length c 74 75 76 #[pt (w.heap.size + 1), pt (w.heap.size + 6), pt (w.heap.size + 3), pt (w.heap.size + 5)] #[pt (w.heap.size + 1), pt (w.heap.size + 5)] #[pt (w.heap.size + 3), pt (w.heap.size + 5), pt (w.heap.size + 6), pt (w.heap.size + 1)] hN)
  have hds := blocks_ds hb2 rs A c (.func (.func 74) #[] #[pt (w.heap.size + 1), pt (w.heap.size + 6), pt (w.heap.size + 3), pt (w.heap.size + 5)]) (.func (.func 75) #[] #[pt (w.heap.size + 1), pt (w.heap.size + 5)]) (.func (.func 76) #[] #[pt (w.heap.size + 3), pt (w.heap.size + 5), pt (w.heap.size + 6), pt (w.heap.size + 1)]) hN
  rw [← hx] at hds
  obtain ⟨W3, hW3⟩ : ∃ W3, W3 = (blocks W2.heap.size A rs.length c (.func (.func 74) #[] #[pt (w.heap.size + 1), pt (w.heap.size + 6), pt (w.heap.size + 3), pt (w.heap.size + 5)]) (.func (.func 75) #[] #[pt (w.heap.size + 1), pt (w.heap.size + 5)]) (.func (.func 76) #[] #[pt (w.heap.size + 3), pt (w.heap.size + 5), pt (w.heap.size + 6), pt (w.heap.size + 1)])).foldl World.alloc W2 := ⟨_, rfl⟩
  rw [← hW3] at hds C1
  have hb3 : Below W2.heap.size W2 W3 := by rw [hW3]; exact allocs_below _ _ (Nat.le_refl _)
  have hu3 := hu2.below hb3
  have hdd : DD x (UHx x.rs.length w.heap.size) W3 (headSt x.net 0) (List.replicate rs.length 0) [] := by
    refine ⟨.slice none 0 0, FH w.heap.size (.slice none 0 0), ?_, ⟨_, ?_, rfl⟩, ⟨fun k hk => ?_, fun g hg => by (cases hg)⟩⟩
    · show DS x W3 (List.replicate x.net.length false) _ _ _
      rw [hxn, hnl]; exact hds
    · show UH x.rs.length w.heap.size ⟨List.replicate x.net.length 0, List.replicate x.net.length 0, List.replicate x.net.length 0, []⟩ W3 _
      rw [hxn, hnl, hxr]; exact hu3
    · rw [hxw, hxS]
      rcases hk with hk | hk
      · omega
      · cases hk
  have C2 := fun (k : Nat) (hk : k < rs.length) (X : List Int) (W : World) (h : DD x (UHx x.rs.length w.heap.size) W (headSt x.net k) X []) =>
    Lib.hid (walk_any uo (by rw [hxw, hxr, hx]; exact hn) (by rw [hxr]; exact hN) (by rw [hxr]; exact hrow) (tarjanR x.net) (fun a s ws t b hi _ _ => q_heads (by rw [hxn, hnl]; exact hN) a s ws t hi)
      (fun a s t hi => by have := ql_heads (by rw [hxn, hnl]; exact hN) a s t hi; rw [show x.net.length = x.rs.length from net_len _] at this; exact this) (headSt x.net k) X (k : Int) W h
      (fun a e ha hkn => pre_head x.net k (by rw [hxn, hnl]; exact hk) a e (by rw [hxn, hnl, ← hxr]; exact ha) hkn))
  rw [hxS] at C2
  rw [hs2] at C1
  have HWH := fun (k : Nat) (hk : k < rs.length) => Lib.hid (walkI_head x.net k (by rw [hxn, hnl]; exact hk))
  have HN2 := Lib.hid hxn
  have HXW := Lib.hid hxw
  have HXR := Lib.hid hxr
  have HDD := Lib.hid hdd
  have HNL := Lib.hid hnl
  clear hdd hu3 hb3 hds hW3 uo hu2 hn hrow hx hxr hxS hxw hb2 hxn hnl hs2
  unfold hblocks at hW2
  rw [← hcs] at hW2
  clear hcs
  subst hW2
  go_enter Try.func47, Try.ntmps47
  go_wp2_with fail
  refine C1.out.mono ?_
  rintro e w3 ⟨rfl, rfl⟩
  clear C1 hb
  go_wp2_with fail
  go_loopw [31] (fun j wr => ∃ (k : Nat) (X : List Int), k ≤ rs.length ∧ j = .int .i64 k ∧ Hid (DD x (UHx x.rs.length w.heap.size) wr (headSt x.net k) X [])) (fun j _ => rs.length - (intOf j).toNat)
  case atStart => exact ⟨0, _, Nat.zero_le _, rfl, HDD⟩
  case round =>
    clear HDD
    obtain ⟨k, X, hk, rfl, HD⟩ := hrel
    by_cases hlt : k < rs.length
    · have C3 := C2 k hlt X wr HD.out
      have HW := HWH k hlt
      rw [HW.out] at C3
      have hk0 : (0 : Int) ≤ (k : Int) := Int.natCast_nonneg _
      have hk1 : (k : Int) < (rs.length : Int) := by omega
      go_wp2_with fail
      refine C3.out.mono ?_
      rintro e w5 ⟨⟨v, rfl⟩, X5, hdd5⟩
      have H5 := Lib.hid hdd5
      clear hdd5 C3
      go_wp2_with fail
      go_roundw
      case rel => exact ⟨k + 1, X5, hlt, by go_num, H5⟩
      case measure => simp [intOf]; omega
    · obtain rfl : k = rs.length := by omega
      obtain ⟨vp, F, hd, ⟨vo, hu, rfl⟩, hs⟩ := HD.out
      have hbel := hd.bel
      rw [HXW.out] at hbel
      rw [HXR.out] at hu
      have ch : wr.cell? ⟨w.heap.size + 1, 0, none⟩ = some (rowAt w.heap.size rs.length) := cell_blk (i := 0) hu.hb rfl
      have hhr := hu.hr
      have hhl : (headSt x.net rs.length).2.h = headL (netOf rs) := by rw [HN2.out, ← HNL.out]; rfl
      rw [hhl] at hhr
      have HR := Lib.hid hhr
      have HBB := Lib.hid hbel
      have hz := hu.lt
      clear hhr hbel hd hu hs hhl HD C2 HWH
      go_wp2_with fail
      go_ret
      exact ⟨rfl, HR.out, HBB.out⟩
end Go.Proofs.Ytaagpnepkjkfoaa.R6
