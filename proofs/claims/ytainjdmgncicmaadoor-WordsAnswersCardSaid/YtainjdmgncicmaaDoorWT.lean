/- Lines of words in memory. -/
import Derived.Test.YtainjdmgncicmaaDoorWR
namespace Go.Proofs.YtainjdmgncicmaaDoor
open Go.RowKit Go.Shelf

theorem var_keep {w w' : World} {name : String} {cs : Array Value} (h : w.var? Tryd.prog name = some cs) (hb : Below w.heap.size w w') : w'.var? Tryd.prog name = some cs := by
  unfold World.var? at h ⊢
  cases hg : Tryd.prog.globalNamed name with
  | none => rw [hg] at h; cases h
  | some g =>
    rw [hg] at h
    simp only [Option.bind_some] at h ⊢
    have hlt : g < w.heap.size := by
      rcases Nat.lt_or_ge g w.heap.size with h' | h'
      · exact h'
      · rw [Array.getElem?_eq_none h'] at h; cases h
    rw [hb.block g hlt]
    exact h

/-- One line: its words in a block of their own. -/
def LineAt (W : World) (lo : Nat) (v : Value) (ws : List (List UInt8)) : Prop :=
  ∃ b, lo ≤ b ∧ v = .slice (some ⟨b, 0, none⟩) ws.length ws.length ∧ W.heap[b]? = some (.cells (ws.map fun l => Value.string ⟨l.toArray⟩).toArray 9 (0, 0))

def RowsAt (W : World) (lo : Nat) : List Value → List (List (List UInt8)) → Prop
  | [], [] => True
  | v :: vs, l :: ls => LineAt W lo v l ∧ RowsAt W lo vs ls
  | _, _ => False

theorem RowsAt.snoc {W : World} {lo : Nat} {v : Value} {l : List (List UInt8)} : ∀ {vs : List Value} {ls : List (List (List UInt8))}, RowsAt W lo vs ls → LineAt W lo v l → RowsAt W lo (vs ++ [v]) (ls ++ [l])
  | [], [], _, h => ⟨h, trivial⟩
  | _ :: _, _ :: _, h, g => ⟨h.1, h.2.snoc g⟩
  | [], _ :: _, h, _ => h.elim
  | _ :: _, [], h, _ => h.elim

theorem RowsAt.kept {W W' : World} {lo : Nat} (hk : ∀ b cs, lo ≤ b → W.heap[b]? = some (.cells cs 9 (0, 0)) → W'.heap[b]? = some (.cells cs 9 (0, 0))) :
    ∀ {vs : List Value} {ls : List (List (List UInt8))}, RowsAt W lo vs ls → RowsAt W' lo vs ls
  | [], [], _ => trivial
  | _ :: _, _ :: _, ⟨⟨b, h1, h2, h3⟩, h⟩ => ⟨⟨b, h1, h2, hk b _ h1 h3⟩, h.kept hk⟩
  | [], _ :: _, h => h.elim
  | _ :: _, [], h => h.elim

theorem RowsAt.len {W : World} {lo : Nat} : ∀ {vs : List Value} {ls : List (List (List UInt8))}, RowsAt W lo vs ls → vs.length = ls.length
  | [], [], _ => rfl
  | _ :: _, _ :: _, h => by rw [List.length_cons, List.length_cons, h.2.len]
  | [], _ :: _, h => h.elim
  | _ :: _, [], h => h.elim

/-- The block of a row that is owned. -/
theorem own_block {W : World} {base : Nat} {e : TypeId} {size k g : Nat} {v : Value} {xs : List Value} (h : W.ownsRow base e size v k xs) (hg : v.ownBlock = some g) : ∃ cur, W.heap[g]? = some (.cells cur e (0, 0)) := by
  rcases h.2 with ⟨rfl, _⟩ | ⟨g', cap, cur, rfl, _, hgb, _⟩
  · simp [Value.ownBlock] at hg
  · simp [Value.ownBlock] at hg
    subst hg
    exact ⟨cur, hgb⟩

/-- What the loop of Split keeps: the lines so far. -/
def SoFar (w0 : World) (B lo : Nat) (pre : List ByteArray) (W : World) : Prop :=
  (∃ v vs, Boxed W B 22 v ∧ W.ownsRow w0.heap.size 25 1 v pre.length vs ∧ RowsAt W lo vs (pre.map fun x => Lib.fields (codeOf x.data.toList))) ∧ Below w0.heap.size w0 W ∧ lo ≤ W.heap.size

theorem SoFar.own {w0 : World} {B lo : Nat} (base : Nat) (hb : w0.heap.size ≤ base) : OwnFrom base (SoFar w0 B lo) := by
  rintro pre W W' row ⟨⟨v, vs, h1, h2, h3⟩, h4, h5⟩ hg hr
  refine ⟨⟨v, vs, h1.kept hg ?_, h2.kept hg ?_, h3.kept ?_⟩, h4.grown hg h4.size (fun k e => Nat.le_trans hb (hr k e).1), Nat.le_trans h5 hg.size⟩
  · intro e
    obtain ⟨_, o, ho, hc⟩ := hr B e.symm
    rw [show W.heap[B]? = _ from h1] at ho; cases ho; cases hc
  · cases hv : v.ownBlock with
    | none => exact .inl rfl
    | some g =>
      refine .inr fun e => ?_
      obtain ⟨_, o, ho, hc⟩ := hr g e.symm
      obtain ⟨cur, hcur⟩ := own_block h2 hv
      rw [hcur] at ho; cases ho; cases hc
  · intro b cs _ hcs
    rw [hg.block b (Array.getElem?_eq_some_iff.1 hcs).1 ?_]
    · exact hcs
    · intro e
      obtain ⟨_, o, ho, hc⟩ := hr b e.symm
      rw [hcs] at ho; cases ho; cases hc

theorem SoFar.box {w0 : World} {B lo c : Nat} (hc0 : w0.heap.size ≤ c) (hclo : c < lo) {pre : List ByteArray} {W : World} {u v : ByteArray} (h : SoFar w0 B lo pre W) (hu : Boxed W c 9 (.string u)) : SoFar w0 B lo pre (W.setCell ⟨c, 0, none⟩ (.string v)) := by
  obtain ⟨⟨x, vs, h1, h2, h3⟩, h4, h5⟩ := h
  have hg := grownBy_setCell' W c (.string v)
  refine ⟨⟨x, vs, h1.kept hg ?_, h2.kept hg ?_, h3.kept ?_⟩, h4.setCell hc0 _, by simpa using h5⟩
  · intro e
    obtain rfl : B = c := by simpa using e
    have := (show W.heap[B]? = _ from h1).symm.trans hu
    simp at this
  · cases hv : x.ownBlock with
    | none => exact .inl rfl
    | some g =>
      refine .inr fun e => ?_
      obtain rfl : g = c := by simpa using e
      obtain ⟨cur, hcur⟩ := own_block h2 hv
      have := hcur.symm.trans hu
      simp at this
  · intro b cs hb hcs
    rw [Below.heap_setCell _ _ _ _ (show b ≠ c by omega)]
    exact hcs

/-- Lines that can be read. -/
def TextAt (W : World) (v : Value) (ls : List (List (List UInt8))) : Prop :=
  ∃ p cap vs, v = .slice p ls.length cap ∧ (∃ lo, RowsAt W lo vs ls) ∧ ∀ j x, vs[j]? = some x → ∃ b, p = some ⟨b, 0, none⟩ ∧ W.cell? ⟨b, j, none⟩ = some x

theorem cells_of_cell {W : World} {a : Addr} {v : Value} (h : W.cell? a = some v) : ∃ o : Obj, W.heap[a.block]? = some o ∧ o.isCells = true := by
  unfold World.cell? at h
  cases ho : W.heap[a.block]? with
  | none => simp [ho] at h
  | some o => exact ⟨o, rfl, by cases o <;> simp_all [Obj.isCells]⟩

theorem TextAt.kept {W W' : World} {v : Value} {ls : List (List (List UInt8))} (hk : ∀ (k : Nat) (o : Obj), W.heap[k]? = some o → o.isCells = true → W'.heap[k]? = some o) (h : TextAt W v ls) : TextAt W' v ls := by
  obtain ⟨p, cap, vs, e, ⟨lo, hr⟩, hc⟩ := h
  refine ⟨p, cap, vs, e, ⟨lo, hr.kept fun b cs _ hcs => hk b _ hcs rfl⟩, fun j x hj => ?_⟩
  obtain ⟨b, hb, hcb⟩ := hc j x hj
  refine ⟨b, hb, ?_⟩
  obtain ⟨o, ho, hoc⟩ := cells_of_cell hcb
  rw [← hcb]
  exact World.cell?_of_block (w := W) ((hk b o ho hoc).trans ho.symm)

theorem TextAt.below {W W' : World} {v : Value} {ls : List (List (List UInt8))} (hb : Below W.heap.size W W') (h : TextAt W v ls) : TextAt W' v ls :=
  h.kept fun k o hk _ => (hb.block k (Array.getElem?_eq_some_iff.1 hk).1).trans hk

theorem SoFar.text {w0 : World} {B lo : Nat} {pre : List ByteArray} {W : World} (h : SoFar w0 B lo pre W) : ∃ v, Boxed W B 22 v ∧ TextAt W v (pre.map fun x => Lib.fields (codeOf x.data.toList)) := by
  obtain ⟨⟨v, vs, h1, h2, h3⟩, h4, _⟩ := h
  refine ⟨v, h1, ?_⟩
  have hl := h3.len
  rcases h2.2 with ⟨rfl, h0⟩ | ⟨g, cap, cur, rfl, hb, hgb, _, _, _, hx⟩
  · have hp : pre = [] := List.eq_nil_of_length_eq_zero h0
    subst hp
    have hv : vs = [] := List.eq_nil_of_length_eq_zero (by simpa using hl)
    subst hv
    exact ⟨none, 0, [], rfl, ⟨lo, h3⟩, fun j x hj => by simp at hj⟩
  · refine ⟨some ⟨g, 0, none⟩, cap, vs, by simp, ⟨lo, h3⟩, fun j x hj => ⟨g, rfl, ?_⟩⟩
    have hj' : j < vs.length := (List.getElem?_eq_some_iff.1 hj).1
    have hlen : j < pre.length := by rw [hl] at hj'; simpa using hj'
    rw [← hx, List.getElem?_take_of_lt (by omega)] at hj
    simp only [World.cell?]
    rw [hgb]
    simpa using hj
end Go.Proofs.YtainjdmgncicmaaDoor
