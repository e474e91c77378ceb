/-
  heap.List of any heap: pdqsort's walk of any length.
-/
import Derived.Test.YtcipgjelbnmdiaaHpW
import Derived.Test.YtcipgjelbnmdiaaHqK
namespace Go.Proofs.Ytcipgjelbnmdiaa.HP
open Go.RowKit Go.Shelf Go.Proofs.Ytcipgjelbnmdiaa.B

theorem pdq_full (w0 : World) (g c hh : Nat) (s : Int) (L : List It) (hok : ∀ x ∈ L, OkI x) (hc : w0.cell? ⟨hh, 0, none⟩ = some (.int .i64 s)) (hne : hh ≠ g) (h1 : 1 ≤ s) (h2 : s ≤ 1048576) (hl : L.length ≤ 100000) : PdqC w0 g c hh s L := by
  intro w lim l0 l64 h
  exact pdq_all w0 g c hh L.length s hc hne h1 h2 hl (L.length + 1) w L h rfl hok 0 L.length lim l0 l64 (Nat.zero_le _) (Nat.le_refl _) (by omega) (fun h0 => absurd h0 (Nat.lt_irrefl 0))
theorem hs_listF (F : FW) (w : World) (hb : Nat) (s : Int) (S : List It) (h : HS F w hb s S) :
    Calls Try.prog 24 #[pt hb] w (RowS w S) :=
  hs_list F w hb s S h (fun L hl hok w0 g c hc hne h1 h2 => by
    obtain ⟨A, L0, hpm, ho, hw⟩ := h.ex
    have hf := hw.h.few
    refine pdq_full w0 g c hb s L hok hc hne h1 h2 ?_
    rw [hl, ← hpm.length_eq]
    omega)
end Go.Proofs.Ytcipgjelbnmdiaa.HP
