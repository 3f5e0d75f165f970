/- Rows of the call's own and boxes: what is kept of them. -/
import Derived.Test.YtkpmgdhaollheaaGC
import Derived.Test.YtkpmgdhaollheaaIM
import Derived.Lib.AppendZeros
import Derived.Laws.AppendOwnNone
import Derived.Lib.OwnKind
import Derived.OneCell
namespace Go.Proofs.Ytkpmgdhaollheaa
open Go.RowKit

theorem flatMap_get {α : Type} [Inhabited α] (enc : α → List Value) (k : Nat) (hk : ∀ x, (enc x).length = k) : ∀ (l : List α) (t : Nat), t < l.length * k → (l.flatMap enc)[t]? = (enc l[t / k]!)[t % k]?
  | [], t, h => by simp at h
  | x :: l, t, h => by
    have k0 : 0 < k := by rcases Nat.eq_zero_or_pos k with e | e; · subst e; simp at h
                          · exact e
    rw [List.flatMap_cons]
    by_cases ht : t < k
    · rw [List.getElem?_append_left (by rw [hk]; exact ht), Nat.div_eq_of_lt ht, Nat.mod_eq_of_lt ht]
      rfl
    · obtain ⟨u, rfl⟩ : ∃ u, t = u + k := ⟨t - k, by omega⟩
      rw [List.getElem?_append_right (by rw [hk]; omega), hk, Nat.add_sub_cancel, Nat.add_div_right _ k0, Nat.add_mod_right]
      rw [flatMap_get enc k hk l u (by rw [List.length_cons, Nat.add_mul, Nat.one_mul] at h; omega)]
      rfl

theorem flatMap_len {α : Type} (enc : α → List Value) (k : Nat) (hk : ∀ x, (enc x).length = k) (l : List α) : (l.flatMap enc).length = l.length * k := by
  induction l with
  | nil => simp
  | cons x l ih => rw [List.flatMap_cons, List.length_append, ih, hk, List.length_cons, Nat.add_mul]; omega

/-- A box. -/
def BoxAt (w : World) (b : Nat) (cs : Array Value) (t : TypeId) : Prop := w.heap[b]? = some (.cells cs t (0, 0))
theorem BoxAt.cell {w : World} {b : Nat} {cs : Array Value} {t : TypeId} (h : BoxAt w b cs t) {i : Nat} {u : Value} (hu : cs[i]? = some u) : w.cell? ⟨b, i, none⟩ = some u := by
  unfold BoxAt at h
  simp [World.cell?, h, hu]
theorem BoxAt.free {w : World} {b : Nat} {cs : Array Value} {t : TypeId} (h : BoxAt w b cs t) (i : Nat) : w.frozen? ⟨b, i, none⟩ = false := by
  unfold BoxAt at h
  simp [World.frozen?, h]
theorem BoxAt.lt {w : World} {b : Nat} {cs : Array Value} {t : TypeId} (h : BoxAt w b cs t) : b < w.heap.size := (Array.getElem?_eq_some_iff.1 h).1
theorem BoxAt.new (w : World) (cs : Array Value) (t : TypeId) : BoxAt (w.alloc (.cells cs t)) w.heap.size cs t := heap_alloc_new w _
theorem BoxAt.alloc {w : World} {b : Nat} {cs : Array Value} {t : TypeId} (h : BoxAt w b cs t) (o : Obj) : BoxAt (w.alloc o) b cs t := (Below.heap_alloc _ _ _ h.lt).trans h
theorem BoxAt.below {w w' : World} {b : Nat} {cs : Array Value} {t : TypeId} (h : BoxAt w b cs t) (hb : Below w.heap.size w w') : BoxAt w' b cs t := (hb.block b h.lt).trans h

section
variable {P : Program} (w : World)
/-- A row behind a row. -/
theorem wpList_append_row {ops : Array Oper} {rest : List Oper} {o : Oper} {a : Act} {Q : Exit → Act → World → Prop} (hgd : o.guard = none) (s x : Operand) (t : TypeId)
    (ho : o.op = .call { callee := .builtin .append, args := #[s, x], argTypes := #[t, t] })
    (base : Nat) (e : TypeId) (i : TypeInfo) (z : Value) (size bytes : Nat) (ht : P.underlying t = some (.slice e)) (hi : P.info? e = some i) (hz : i.zero = some z)
    (hsize : i.size = size) (hby : i.bytes = bytes) (hzs : z.cells.size = size) (hsz : 0 < size)
    (v : Value) (n : Nat) (xs : List Value) (hs : a.eval s = v) (hown : w.ownsRow base e size v n xs)
    (B : Nat) (v2 : Value) (m : Nat) (news : List Value) (hx : a.eval x = v2) (h2 : w.ownsRow B e size v2 m news) (h1 : ∀ u ∈ news, u.oneCell' = true)
    (h63 : n + m ≤ maxLen) (hbytes : (n + m) * bytes ≤ 140737488355328) (hbase : base ≤ w.heap.size)
    (h : ∀ v' w', w'.ownsRow base e size v' (n + m) (xs ++ news) → w.grownBy w' v.ownBlock → wpList P ops Q rest (a.put o.dst v') w') : wpList P ops Q (o :: rest) a w := by
  rcases h2.2 with ⟨rfl, rfl⟩ | ⟨g, cap, cur, rfl, _⟩
  · have hn : news = [] := List.eq_nil_of_length_eq_zero (by simpa using h2.1)
    subst hn
    refine wpList_append_own_none hgd s x t ho base e i size ht hi v n xs hs hown hx ?_
    exact h v w (by simpa using hown) (World.grownBy.refl _ _)
  · exact wpList_append_own w hgd s x t ho base e i z size bytes ht hi hz hsize hby hzs hsz v n xs hs hown ⟨g, 0, none⟩ m cap news hx h2.1 (h2.cells rfl) h1 h63 hbytes hbase fun v' w' a b _ => h v' w' a b
end

/-- Seen from before the row was made, nothing has turned. -/
theorem gr_step {w0 w w' : World} {e : TypeId} {k n : Nat} {v : Value} {xs : List Value} (h0 : w0.grownBy w none) (hg : w.grownBy w' v.ownBlock) (h : w.ownsRow w0.heap.size e k v n xs) : w0.grownBy w' none :=
  ⟨hg.os.trans h0.os, hg.tape.trans h0.tape, hg.output.trans h0.output, Nat.le_trans h0.size hg.size, fun k hk _ =>
    (hg.block k (Nat.lt_of_lt_of_le hk h0.size) (fun e => by have := ownsRow_ge h k e.symm; omega)).trans (h0.block k hk (by simp))⟩
theorem below_of_gr {w w' : World} (h : w.grownBy w' none) : Below w.heap.size w w' := ⟨h.os, h.tape, h.output, h.size, fun k hk => h.block k hk (by simp)⟩
theorem gr_of_below {w w' : World} (h : Below w.heap.size w w') : w.grownBy w' none := ⟨h.os, h.tape, h.output, h.size, fun k hk _ => h.block k hk⟩

theorem gr_weak {w w' : World} {row : Option Nat} (h : w.grownBy w' none) : w.grownBy w' row := ⟨h.os, h.tape, h.output, h.size, fun k hk _ => h.block k hk (by simp)⟩

theorem oneE (l : List Ed) : ∀ u ∈ l.flatMap encE, u.oneCell' = true := by
  intro u hu
  obtain ⟨e, _, he⟩ := List.mem_flatMap.1 hu
  simp [encE] at he
  rcases he with rfl | rfl | rfl | rfl | rfl <;> rfl

def encI (z : Int) : List Value := [.int .i64 z]
theorem flat_encI (l : List Int) : l.flatMap encI = l.map (Value.int .i64) := by
  induction l with
  | nil => rfl
  | cons z l ih => rw [List.flatMap_cons, ih]; rfl

/-- A row's element can be read. -/
theorem OwnAt.cell {α : Type} [Inhabited α] {w : World} {B : Nat} {e : TypeId} {k : Nat} {enc : α → List Value} {g n cap : Nat} {l : List α} (h : OwnAt w B e k enc (.slice (some ⟨g, 0, none⟩) n cap) l) (hk : ∀ x, (enc x).length = k) (hn : n = l.length) {j : Nat} (hj : j < l.length) {i : Nat} {u : Value} (hu : (enc l[j]!)[i]? = some u) : w.cell? ⟨g, j * k + i, none⟩ = some u := by
  subst hn
  have hi : i < k := by rw [← hk l[j]!]; exact (List.getElem?_eq_some_iff.1 hu).1
  have hlt : j * k + i < l.length * k := by
    have : (j + 1) * k ≤ l.length * k := Nat.mul_le_mul_right k hj
    rw [Nat.add_mul, Nat.one_mul] at this
    omega
  rw [World.ownsRow.cellAt h _ hlt, flatMap_get enc k hk l _ hlt]
  have k0 : 0 < k := by omega
  rw [show j * k + i = i + j * k by omega, Nat.add_mul_div_right _ _ k0, Nat.div_eq_of_lt hi, Nat.zero_add, Nat.add_mul_mod_self_right, Nat.mod_eq_of_lt hi, hu]

theorem OwnAt.kept {α : Type} {w w' : World} {B : Nat} {e : TypeId} {k : Nat} {enc : α → List Value} {v : Value} {l : List α} (h : OwnAt w B e k enc v l) (hb : Below w.heap.size w w') : OwnAt w' B e k enc v l :=
  World.ownsRow.kept h (gr_of_below hb) (Classical.em _)

/-- A row of another kind than the one that grows. -/
theorem OwnAt.other {α : Type} {w w' : World} {B : Nat} {e : TypeId} {k : Nat} {enc : α → List Value} {v : Value} {l : List α} (h : OwnAt w B e k enc v l) {e' : TypeId} (hte : e ≠ e') {B' k' n : Nat} {u : Value} {xs : List Value} (hg : w.grownBy w' u.ownBlock) (ho : w.ownsRow B' e' k' u n xs) : OwnAt w' B e k enc v l := by
  refine World.ownsRow.kept h hg ?_
  cases hv : v.ownBlock with
  | none => exact .inl rfl
  | some g =>
    refine .inr fun e1 => ?_
    obtain ⟨c, fz, hc⟩ := Lib.ownsRow_kind ho g e1.symm
    obtain ⟨c2, fz2, hc2⟩ := Lib.ownsRow_kind h g hv
    rw [hc] at hc2
    simp at hc2
    exact hte hc2.2.1.symm
theorem OwnAt.alloc {α : Type} {w : World} {B : Nat} {e : TypeId} {k : Nat} {enc : α → List Value} {v : Value} {l : List α} (h : OwnAt w B e k enc v l) (o : Obj) : OwnAt (w.alloc o) B e k enc v l := World.ownsRow.alloc h o
/-- What a row of one's own takes turns nothing that was there before. -/
theorem gr_own {w w1 w2 : World} {row : Option Nat} {e : TypeId} {k n : Nat} {v : Value} {xs : List Value} (h0 : w.grownBy w1 row) (hg : w1.grownBy w2 v.ownBlock) (ho : w1.ownsRow w.heap.size e k v n xs) : w.grownBy w2 row :=
  ⟨hg.os.trans h0.os, hg.tape.trans h0.tape, hg.output.trans h0.output, Nat.le_trans h0.size hg.size, fun k hk hr =>
    (hg.block k (Nat.lt_of_lt_of_le hk h0.size) (fun e => by have := ownsRow_ge ho k e.symm; omega)).trans (h0.block k hk hr)⟩
theorem gr_alloc {w w1 : World} {row : Option Nat} (h : w.grownBy w1 row) (o : Obj) : w.grownBy (w1.alloc o) row := gr_trans h (World.grownBy_alloc _ _ _)
theorem gr_drew {w w1 : World} {row : Option Nat} (h : w.grownBy w1 row) : w.grownBy w1.drew row := ⟨h.os, h.tape, h.output, h.size, h.block⟩

theorem BoxAt.other {w w' : World} {b : Nat} {cs : Array Value} {t e : TypeId} {B k n : Nat} {v : Value} {xs : List Value} (h : BoxAt w b cs t) (hte : t ≠ e) (hg : w.grownBy w' v.ownBlock) (ho : w.ownsRow B e k v n xs) : BoxAt w' b cs t := by
  refine (hg.block b h.lt ?_).trans h
  intro e1
  obtain ⟨c, fz, hc⟩ := Lib.ownsRow_kind ho b e1.symm
  rw [show w.heap[b]? = _ from h] at hc
  simp at hc
  exact hte hc.2.1

theorem below_one (w : World) (o : Obj) : Below w.heap.size w (w.alloc o) := (Below.refl _ _).alloc (Nat.le_refl _) _

theorem flatMap_take {α : Type} (enc : α → List Value) (k : Nat) (hk : ∀ x, (enc x).length = k) : ∀ (l : List α) (m : Nat), (l.flatMap enc).take (m * k) = (l.take m).flatMap enc
  | [], m => by simp
  | x :: l, 0 => by simp
  | x :: l, m + 1 => by
    rw [List.take_succ_cons, List.flatMap_cons, List.flatMap_cons, ← flatMap_take enc k hk l m]
    rw [List.take_append, hk, Nat.add_mul, Nat.one_mul, Nat.add_sub_cancel]
    rw [List.take_of_length_le (by rw [hk]; omega)]
end Go.Proofs.Ytkpmgdhaollheaa
