/- edgesOf: both sides of each rectangle of lists, in a row of the call's own. -/
import Derived.Test.YtkpmgdhaollheaaGA
import Derived.Test.YtkpmgdhaollheaaGMask
import Derived.Laws.OwnMore
import Derived.Deep.AppendLies
namespace Go.Proofs.Ytkpmgdhaollheaa
open Go.RowKit

def encE (e : Ed) : List Value := [.int .i64 e.x, .int .i64 e.lo, .int .i64 e.hi, .int .i64 e.list, .int .i64 e.more]
theorem encE_len (e : Ed) : (encE e).length = 5 := rfl

/-- A row of the call's own, by what its elements say. -/
def OwnAt {α : Type} (w : World) (B : Nat) (e : TypeId) (k : Nat) (enc : α → List Value) (v : Value) (l : List α) : Prop := w.ownsRow B e k v l.length (l.flatMap enc)

theorem OwnAt.nil {α : Type} (w : World) (B : Nat) (e : TypeId) (k : Nat) (enc : α → List Value) : OwnAt w B e k enc (.slice none 0 0) [] := World.ownsRow_nil w B e k

theorem OwnAt.snoc {α : Type} {w : World} {B : Nat} {e : TypeId} {k : Nat} {enc : α → List Value} {v : Value} {l m : List α} {n : Nat} (hn : n = m.length) (h : w.ownsRow B e k v (l.length + n) (l.flatMap enc ++ m.flatMap enc)) : OwnAt w B e k enc v (l ++ m) := by
  subst hn
  unfold OwnAt
  rw [List.length_append, List.flatMap_append]
  exact h

theorem news_at {w : World} {cs : Array Value} {t : TypeId} {B : Nat} (hB : B = w.heap.size) : ∀ j u, cs.toList[j]? = some u → (w.alloc (.cells cs t)).cell? ((⟨B, 0, none⟩ : Addr).add j) = some u := by
  subst hB
  exact World.news_of_block (heap_alloc_new w _)

theorem info_edge : (Try.prog.info? 124).map (fun i => (i.zero, i.size, i.bytes)) = some (some (.agg #[.int .i64 0, .int .i64 0, .int .i64 0, .int .i64 0, .int .i64 0]), 5, 40) := by kernel_rfl

theorem info_parts {t : TypeId} {z : Value} {s b : Nat} (h : (Try.prog.info? t).map (fun i => (i.zero, i.size, i.bytes)) = some (some z, s, b)) : ∃ i, Try.prog.info? t = some i ∧ i.zero = some z ∧ i.size = s ∧ i.bytes = b := by
  cases hi : Try.prog.info? t with
  | none => rw [hi] at h; cases h
  | some i =>
    rw [hi] at h
    simp at h
    exact ⟨i, rfl, h.1, h.2.1, h.2.2⟩

theorem edgesOf_take {l : List Rc} {k : Nat} (j : Int) (h : k < l.length) : edgesOf (l.take (k + 1)) j = edgesOf (l.take k) j ++ eds2 j l[k]! := by
  rw [List.take_succ_eq_append_getElem h, edgesOf, List.flatMap_append, getElem!_pos l k h]
  simp [edgesOf]
theorem edgesOf_len (l : List Rc) (j : Int) : (edgesOf l j).length = 2 * l.length := by
  induction l with
  | nil => rfl
  | cons r l ih => show (eds2 j r ++ edgesOf l j).length = _; rw [List.length_append, ih]; simp [eds2]; omega

/-- Lists of rectangles, in a row of slices. -/
def ListsAt (w : World) (v : Value) (Ls : List (List Rc)) : Prop :=
  ∃ b cap, v = .slice (some ⟨b, 0, none⟩) Ls.length cap ∧ ∀ j, j < Ls.length → ∃ u, w.cell? ⟨b, j, none⟩ = some u ∧ RectsAt w u Ls[j]!
theorem ListsAt.below {w w' : World} {v : Value} {Ls : List (List Rc)} (h : ListsAt w v Ls) (hb : Below w.heap.size w w') : ListsAt w' v Ls := by
  obtain ⟨b, cap, rfl, h⟩ := h
  refine ⟨b, cap, rfl, fun j hj => ?_⟩
  obtain ⟨u, hu, hr⟩ := h j hj
  exact ⟨u, cell_keep hb hu, hr.below hb⟩

/-- How many rectangles the lists have together. -/
def tot (Ls : List (List Rc)) : Nat := (Ls.map List.length).sum
theorem edgesFrom_len : ∀ (Ls : List (List Rc)) (k : Nat), (edgesFrom k Ls).length = 2 * tot Ls
  | [], _ => rfl
  | l :: Ls, k => by
    show (edgesOf l k ++ edgesFrom (k + 1) Ls).length = _
    rw [List.length_append, edgesOf_len, edgesFrom_len Ls (k + 1)]
    simp [tot]; omega
theorem edgesFrom_take : ∀ (Ls : List (List Rc)) (k i : Nat), i < Ls.length → edgesFrom k (Ls.take (i + 1)) = edgesFrom k (Ls.take i) ++ edgesOf Ls[i]! ((k + i : Nat) : Int)
  | [], _, _, h => by simp at h
  | l :: Ls, k, 0, _ => by simp [edgesFrom]
  | l :: Ls, k, i + 1, h => by
    have ih := edgesFrom_take Ls (k + 1) i (by simpa using h)
    rw [List.take_succ_cons, List.take_succ_cons]
    show edgesOf l k ++ edgesFrom (k + 1) (Ls.take (i + 1)) = (edgesOf l k ++ edgesFrom (k + 1) (Ls.take i)) ++ edgesOf Ls[i]! _
    rw [ih, List.append_assoc, show k + 1 + i = k + (i + 1) by omega]
theorem tot_take : ∀ (Ls : List (List Rc)) (i : Nat), i < Ls.length → tot (Ls.take i) + Ls[i]!.length ≤ tot Ls
  | [], _, h => by simp at h
  | l :: Ls, 0, _ => by simp [tot]
  | l :: Ls, i + 1, h => by
    have ih := tot_take Ls i (by simpa using h)
    simp only [tot] at ih ⊢
    simp only [List.take_succ_cons, List.map_cons, List.sum_cons]
    have e : (l :: Ls)[i + 1]! = Ls[i]! := rfl
    rw [e]
    omega

end Go.Proofs.Ytkpmgdhaollheaa
