/- ExactAnswers: what it calls. -/
import Derived.Test.YtdiogfjbjdiclaaPair
import Derived.Test.YtdiogfjbjdiclaaAwake
namespace Go.Proofs.Ytdiogfjbjdiclaa
open Go.RowKit Go.WideShapes Go.ChangeShapes Go.ChangeAt

/-- A slice's length is at most its capacity. -/
def CapAt (v : Value) : Prop := ∀ p n c, v = .slice p n c → n ≤ c

theorem open_cap {H : Type} {enc : TypeId × Value → H} {P : Program} {W : World} {t e : TypeId} {k : IntKind} {base : Nat} {v : Value} {d : DataW H} {ps : List MemPlace} (hu : P.underlying t = some (.slice e)) (he : P.underlying e = some (.int k)) (hc : P.cellsOf e = 1)
    (hok : Value.okWide P W .any base t v) (h : DataW.Trod enc P W 0 (fun _ => true) true t v d ps) : CapAt v := by
  obtain ⟨a0, len, cap, rfl⟩ := okWide_slice hu hok
  intro p n c he'
  cases he'
  obtain ⟨fuel, hf⟩ := h
  rcases open_ints hu he hc hf with ⟨hcs, _⟩ | ⟨a, len', cap', zs, hcs, _, hl, _⟩
  · simp [Value.cells] at hcs
    omega
  · simp [Value.cells] at hcs
    omega

set_option maxHeartbeats 400000 in
theorem new_any (v : Value) (n : Nat) (g : Nat → Int) (w : World) (h : IntsAt .i64 w v n g) (hcap : CapAt v) :
    Calls Try.prog 9 #[v] w fun e w' => e = .returned (.pointer (some ⟨w.heap.size, 0, none⟩)) ∧ Below w.heap.size w w' ∧ Tape w' w.heap.size ∧ w'.heap.size = w.heap.size + 1 := by
  obtain ⟨p, cap, rfl, hm, hc⟩ := h
  have hm' : (n : Int) ≤ 9223372036854775807 := by unfold maxLen at hm; omega
  have hcp : n ≤ cap := hcap _ _ _ rfl
  obtain ⟨m, hmin, hmn, hm4⟩ : ∃ m : Nat, min (n : Int) 400 = (m : Int) ∧ m ≤ n ∧ m ≤ 400 := by
    by_cases h4 : n ≤ 400
    · exact ⟨n, by omega, by omega, h4⟩
    · exact ⟨400, by omega, by omega, by omega⟩
  have hmc : (m : Int) ≤ (cap : Int) := by omega
  have fin : Tape (w.alloc (.cells #[.slice p m cap, .int .i64 0] 47)) w.heap.size := by
    refine ⟨m, g, 0, ⟨⟨p, cap, by simp, fun j hj => ?_⟩, by simp, by simp, hm4, Nat.zero_le _, by simp⟩⟩
    obtain ⟨_, b, o, e, hb, hcj⟩ := hc j (by omega)
    exact ⟨b, o, e, hb, by rw [World.cell?_alloc_past _ _ _ (by exact hb)]; exact hcj⟩
  have HF := Lib.hid fin
  clear fin
  by_cases h0 : n = 0
  · subst h0
    obtain rfl : m = 0 := by omega
    clear hmn hm4 hmc
    go_enter Try.func9, Try.ntmps9
    go_wp2
    go_ret
    exact ⟨rfl, (Below.refl _ _).alloc (Nat.le_refl _) _, HF.out, by simp⟩
  · obtain ⟨_, b, o, rfl, hb, _⟩ := hc 0 (by omega)
    go_enter Try.func9, Try.ntmps9
    go_wp2
    go_ret
    exact ⟨rfl, (Below.refl _ _).alloc (Nat.le_refl _) _, HF.out, by simp⟩
end Go.Proofs.Ytdiogfjbjdiclaa
