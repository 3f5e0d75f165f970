/- Ranges over iterators that hold memory of their own: what an iterator may turn, what a round must keep, the law of the statement, the marks at a function's end. -/
import Derived.RangeFuncNested
import Derived.RangeFuncBound
import Derived.RangeFuncCalls
import Derived.RangeFuncLeaves
import Derived.RangeFuncBox
import Derived.Shelf.Abstract
import Derived.Shelf.RegionOpen
import Derived.WalkKit
import Derived.OwnWalkIn
import Derived.TacticsInMore
import Derived.RegionIn
import Derived.LoopNIn
import Derived.LoopIn
import Derived.Maps.AppendAt
import Derived.Test.YtkpmgdhaollheaaBase
namespace Go.Proofs.Ytkpmgdhaollheaa
open Go.RowKit Go.Shelf

attribute [local go_sem] Oper.semAt_some

/-- The mark of what is no cells, among types. -/
def NC : TypeId := 4294967295
/-- What is of the types U; NC stands for what is no cells. -/
def ofU (U : List TypeId) : Obj → Bool
  | .cells _ t _ => U.contains t
  | _ => U.contains NC

/-- The iterator's word: whatever lies below B, and whatever is not of U, lies as it lay. -/
structure Turn (U : List TypeId) (B : Nat) (W W' : World) : Prop where
  os : W'.os = W.os
  tape : W'.tape = W.tape
  output : W'.output = W.output
  size : W.heap.size ≤ W'.heap.size
  block : ∀ (k : Nat) (o : Obj), W.heap[k]? = some o → (k < B ∨ ofU U o = false) → W'.heap[k]? = some o

theorem Turn.refl (U : List TypeId) (B : Nat) (W : World) : Turn U B W W := ⟨rfl, rfl, rfl, Nat.le_refl _, fun _ _ h _ => h⟩
theorem Turn.trans {U : List TypeId} {B : Nat} {X Y Z : World} (h : Turn U B X Y) (k : Turn U B Y Z) : Turn U B X Z :=
  ⟨k.os.trans h.os, k.tape.trans h.tape, k.output.trans h.output, Nat.le_trans h.size k.size, fun i o hi ho => k.block i o (h.block i o hi ho) ho⟩
theorem Turn.mono {U V : List TypeId} {B C : Nat} {X Y : World} (h : Turn U C X Y) (hB : B ≤ C) (hU : ∀ t ∈ U, t ∈ V) : Turn V B X Y :=
  ⟨h.os, h.tape, h.output, h.size, fun k o hk ho => h.block k o hk (by
    rcases ho with ho | ho
    · exact .inl (by omega)
    · refine .inr ?_
      cases o <;> (simp only [ofU, List.contains_eq_mem, decide_eq_false_iff_not] at ho ⊢; exact fun hh => ho (hU _ hh)))⟩
/-- What lay lies as it lay: only new blocks. -/
theorem Turn.of_below {U : List TypeId} {B : Nat} {X Y : World} (h : Below X.heap.size X Y) : Turn U B X Y :=
  ⟨h.os, h.tape, h.output, h.size, fun k o hk _ => (h.block k (Array.getElem?_eq_some_iff.1 hk).1).trans hk⟩
theorem Turn.of_grown {U : List TypeId} {B : Nat} {X Y : World} {row : Option Nat} (h : X.grownBy Y row) (hr : ∀ r, row = some r → B ≤ r ∧ ∃ o, X.heap[r]? = some o ∧ ofU U o = true) : Turn U B X Y :=
  ⟨h.os, h.tape, h.output, h.size, fun k o hk ho => (h.block k (Array.getElem?_eq_some_iff.1 hk).1 (fun e => by
    obtain ⟨h1, o', h2, h3⟩ := hr k e.symm
    rw [hk] at h2; cases h2
    rcases ho with ho | ho
    · omega
    · rw [h3] at ho; cases ho)).trans hk⟩
theorem Turn.below {U : List TypeId} {B : Nat} {X Y : World} (h : Turn U B X Y) (hB : B ≤ X.heap.size) : Below B X Y :=
  ⟨h.os, h.tape, h.output, h.size, fun k hk => by
    have hlt : k < X.heap.size := by omega
    rw [Array.getElem?_eq_getElem hlt]
    exact h.block k _ (Array.getElem?_eq_getElem hlt) (.inl hk)⟩
theorem Turn.drewN {U : List TypeId} {B : Nat} (W : World) (q : Nat) : Turn U B W (W.drewN q) := ⟨rfl, rfl, rfl, Nat.le_refl _, fun _ _ h _ => h⟩

/-- A row of another type lies on. -/
theorem Turn.owns {U : List TypeId} {B : Nat} {X Y : World} (h : Turn U B X Y) {base : Nat} {e : TypeId} {size n : Nat} {v : Value} {xs : List Value} (he : U.contains e = false) (ho : X.ownsRow base e size v n xs) : Y.ownsRow base e size v n xs := by
  rcases ho with ⟨hl, ⟨rfl, h0⟩ | ⟨g, cap, cur, rfl, h1, h2, h3⟩⟩
  · exact ⟨hl, .inl ⟨rfl, h0⟩⟩
  · exact ⟨hl, .inr ⟨g, cap, cur, rfl, h1, h.block g _ h2 (.inr he), h3⟩⟩
theorem Turn.boxed {U : List TypeId} {B : Nat} {X Y : World} (h : Turn U B X Y) {b : Nat} {t : TypeId} {v : Value} (he : U.contains t = false) (ho : Boxed X b t v) : Boxed Y b t v := h.block b _ ho (.inr he)

/-- The round's word: whatever is of U lies as it lay. -/
structure Keep (U : List TypeId) (W W' : World) : Prop where
  size : W.heap.size ≤ W'.heap.size
  block : ∀ (k : Nat) (o : Obj), W.heap[k]? = some o → ofU U o = true → W'.heap[k]? = some o

theorem Keep.refl (U : List TypeId) (W : World) : Keep U W W := ⟨Nat.le_refl _, fun _ _ h _ => h⟩
theorem Keep.trans {U : List TypeId} {X Y Z : World} (h : Keep U X Y) (k : Keep U Y Z) : Keep U X Z := ⟨Nat.le_trans h.size k.size, fun i o hi ho => k.block i o (h.block i o hi ho) ho⟩
theorem Keep.of_below {U : List TypeId} {X Y : World} (h : Below X.heap.size X Y) : Keep U X Y := ⟨h.size, fun k o hk _ => (h.block k (Array.getElem?_eq_some_iff.1 hk).1).trans hk⟩
theorem Keep.of_grown {U : List TypeId} {X Y : World} {row : Option Nat} (h : X.grownBy Y row) (hr : ∀ r o, row = some r → X.heap[r]? = some o → ofU U o = false) : Keep U X Y :=
  ⟨h.size, fun k o hk ho => (h.block k (Array.getElem?_eq_some_iff.1 hk).1 (fun e => by
    have := hr k o e.symm hk
    rw [ho] at this; cases this)).trans hk⟩
theorem Keep.owns {U : List TypeId} {X Y : World} (h : Keep U X Y) {base : Nat} {e : TypeId} {size n : Nat} {v : Value} {xs : List Value} (he : U.contains e = true) (ho : X.ownsRow base e size v n xs) : Y.ownsRow base e size v n xs := by
  rcases ho with ⟨hl, ⟨rfl, h0⟩ | ⟨g, cap, cur, rfl, h1, h2, h3⟩⟩
  · exact ⟨hl, .inl ⟨rfl, h0⟩⟩
  · exact ⟨hl, .inr ⟨g, cap, cur, rfl, h1, h.block g _ h2 he, h3⟩⟩
theorem Keep.boxed {U : List TypeId} {X Y : World} (h : Keep U X Y) {b : Nat} {t : TypeId} {v : Value} (he : U.contains t = true) (ho : Boxed X b t v) : Boxed Y b t v := h.block b _ ho he

/-- A caller's invariant abides the iterator's steps. -/
def Abid {β : Type} (U : List TypeId) (B : Nat) (J : β → World → Prop) : Prop := ∀ s W W', J s W → Turn U B W W' → J s W'
theorem Abid.and {β : Type} {U : List TypeId} {B : Nat} {J K : β → World → Prop} (h : Abid U B J) (k : Abid U B K) : Abid U B (fun s W => J s W ∧ K s W) := fun s W W' hs ht => ⟨h s W W' hs.1 ht, k s W W' hs.2 ht⟩
theorem Abid.mono {β : Type} {U V : List TypeId} {B C : Nat} {J : β → World → Prop} (h : Abid V B J) (hB : B ≤ C) (hU : ∀ t ∈ U, t ∈ V) : Abid U C J := fun s W W' hs ht => h s W W' hs (ht.mono hB hU)

/-- The marks of loops that are over. -/
def marks (ds : List Nat) : List Deferred := ds.map fun D => { target := .collected D, args := #[] }

/-- A function's end with marks. -/
theorem leaves_marks {P : Program} {fn : Func} {tmps : Array Value} {R : Ending → World → Prop} {v : Value} (hv : ∀ w, (results fn tmps).run P w = .ok v w) (B : Nat) : ∀ (ds : List Nat) (W : World), ds.Nodup → (∀ D ∈ ds, B ≤ D ∧ W.heap[D]? = some (.deferred (some []))) →
    (∀ W', Turn [NC] B W W' → R (.returned v) W') → LeavesInM Fence.wide 0 P fn tmps R (marks ds) .returning W
  | [], W, _, _, h => ⟨v, hv W, h W (Turn.refl _ _ _)⟩
  | D :: ds, W, hn, hd, h => by
    obtain ⟨h1, h2⟩ := hd D (by simp)
    have hn' := List.nodup_cons.1 hn
    refine ⟨by simp, .inl ⟨D, _, rfl, run_takeDeferred h2, ?_⟩⟩
    refine leaves_marks hv B ds _ hn'.2 (fun E hE => ⟨(hd E (List.mem_cons_of_mem _ hE)).1, ?_⟩) fun W' hW' => h W' (Turn.trans (Turn.of_grown (grownBy_putObj' _ _ _) fun r e => by cases e; exact ⟨h1, _, h2, rfl⟩) hW')
    rw [World.putObj_heap_other (by rintro rfl; exact hn'.1 hE)]
    exact (hd E (List.mem_cons_of_mem _ hE)).2

theorem RoundIn.inRound {F : Fence} {n : Nat} {P : Program} {l m : Nat} {f : FuncId} {tmps : Array Value} {assign body : Code} {w : World} {R : Ending → World → Prop} (h : RoundIn F n P l f tmps assign body w R) : RoundIn (F.inRound m) n P l f tmps assign body w R := h
end Go.Proofs.Ytkpmgdhaollheaa
