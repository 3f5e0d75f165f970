/- A region that draws its order inside a round, step by step. -/
import Derived.OrdersIn
import Derived.Test.YtainjdmgncicmaaDoorWT
namespace Go.Proofs.YtainjdmgncicmaaDoor
open Go.RowKit Go.Shelf

section
variable {F : Fence} {n : Nat} {P : Program} {ops : Array Oper} {Q : Exit → Act → World → Prop} {md : Region.Mode} {fuel : Nat} {listed : Array Bool} {a : Act} {w : World}

theorem wanted_plain {o : Oper} (hg : o.guard = none) : Region.wanted o (yielded ops a.tmps) = true := by simp [Region.wanted, hg]

theorem any_one {i : Nat} {o : Oper} (hr : Region.ready md ops listed = [i]) (ho : ops[i]? = some o) (hg : o.guard = none)
    (h : ∀ K' : Act → World → Prop, (∀ a w, wpAnyIn F n P md ops Q fuel (listed.setIfInBounds i true) a w → K' a w) → Oper.wpIn F n P o a w K' Q) : wpAnyIn F n P md ops Q (fuel + 1) listed a w := by
  refine wpAnyIn_ready hr (by simp) (AllReadyIn.cons ho (fun K' hK => ?_) AllReadyIn.nil)
  rw [if_pos (wanted_plain hg)]
  exact h K' hK

theorem any_two {i j : Nat} {o o' : Oper} (hr : Region.ready md ops listed = [i, j]) (ho : ops[i]? = some o) (hg : o.guard = none) (ho' : ops[j]? = some o') (hg' : o'.guard = none)
    (h : ∀ K' : Act → World → Prop, (∀ a w, wpAnyIn F n P md ops Q fuel (listed.setIfInBounds i true) a w → K' a w) → Oper.wpIn F n P o a w K' Q)
    (h' : ∀ K' : Act → World → Prop, (∀ a w, wpAnyIn F n P md ops Q fuel (listed.setIfInBounds j true) a w → K' a w) → Oper.wpIn F n P o' a w K' Q) : wpAnyIn F n P md ops Q (fuel + 1) listed a w := by
  refine wpAnyIn_ready hr (by simp) (AllReadyIn.cons ho (fun K' hK => ?_) (AllReadyIn.cons ho' (fun K' hK => ?_) AllReadyIn.nil))
  · rw [if_pos (wanted_plain hg)]
    exact h K' hK
  · rw [if_pos (wanted_plain hg')]
    exact h' K' hK

/-- One slice more, behind a slice that owns its row. -/
theorem op_append {o : Oper} {K : Act → World → Prop} (s x : Operand) (t : TypeId) (hop : o.op = Op.call { callee := Callee.builtin Builtin.append, args := #[s, x], argTypes := #[t, t] })
    (base : Nat) (e : TypeId) (i : TypeInfo) (z : Value) (size bytes : Nat) (h1 : P.underlying t = some (.slice e)) (h2 : P.info? e = some i) (h3 : i.zero = some z) (h4 : i.size = size) (h5 : i.bytes = bytes) (h6 : z.cells.size = size) (h7 : 0 < size)
    (v : Value) (k : Nat) (xs : List Value) (hs : a.eval s = v) (hown : w.ownsRow base e size v k xs) (ad : Addr) (m c : Nat) (news : List Value) (hx : a.eval x = .slice (some ad) m c) (hn : news.length = m * size)
    (hc : ∀ j u, news[j]? = some u → w.cell? (ad.add j) = some u) (h1c : ∀ u ∈ news, u.oneCell' = true) (b1 : k + m ≤ maxLen) (b2 : (k + m) * bytes ≤ 140737488355328) (b3 : base ≤ w.heap.size)
    (hK : ∀ v' w', w'.ownsRow base e size v' (k + m) (xs ++ news) → w.grownBy w' v.ownBlock → K (a.put o.dst v') w') :
    Oper.wpIn F n P o a w K Q := by
  obtain ⟨v', w', hrun, r1, r2, _⟩ := run_append_own (P := P) w base t o.type e i z size bytes h1 h2 h3 h4 h5 h6 h7 v k xs hown ad m c news hn hc h1c b1 b2 b3
  refine ⟨?_, ?_⟩
  · simp [Oper.about, hop, resolve, Target.leads, Sem.run_pure]
  · rw [Oper.semAt_plain F _ _ (by rw [hop]; intro c hc'; cases hc')]
    simp [execOp, hop, resolve, invoke, builtin, hs, hx, hrun, Result.andThen]
    exact hK v' w' r1 r2
end

theorem SoFar.drew {w0 : World} {B lo : Nat} {pre : List ByteArray} {W : World} (h : SoFar w0 B lo pre W) : SoFar w0 B lo pre W.drew := by
  obtain ⟨⟨v, vs, h1, h2, h3⟩, h4, h5⟩ := h
  exact ⟨⟨v, vs, h1, h2, RowsAt.kept (W := W) (W' := W.drew) (fun _ _ _ h => h) h3⟩, h4.drew, h5⟩

theorem info_line : (Tryd.prog.info? 25).map (fun i => (i.zero, i.size, i.bytes)) = some (some (.slice none 0 0), 1, 24) := by kernel_rfl

/-- One line more: the world behind the append and the store. -/
theorem so_step {w0 W2 w5 : World} {B lo c : Nat} {pre : List ByteArray} {x : ByteArray} {v v' : Value} {vs : List Value} {n : Nat} (hB : w0.heap.size ≤ B) (hBc : B ≠ c)
    (h1 : Boxed W2 B 22 v) (h2 : W2.ownsRow w0.heap.size 25 1 v n vs) (h3 : RowsAt W2 lo vs (pre.map fun x => Lib.fields (codeOf x.data.toList))) (h4 : Below w0.heap.size w0 W2) (h5 : lo ≤ W2.heap.size)
    (hn : n = pre.length)
    (ho : w5.ownsRow w0.heap.size 25 1 v' (n + 1) (vs ++ [.slice (some ⟨W2.heap.size, 0, none⟩) (Lib.fields (codeOf x.data.toList)).length (Lib.fields (codeOf x.data.toList)).length]))
    (hg : ((W2.alloc (.cells ((Lib.fields (codeOf x.data.toList)).map fun l => Value.string ⟨l.toArray⟩).toArray 9)).alloc (.cells #[.slice (some ⟨W2.heap.size, 0, none⟩) (Lib.fields (codeOf x.data.toList)).length (Lib.fields (codeOf x.data.toList)).length] 25)).grownBy w5 v.ownBlock) :
    Boxed w5 B 22 v ∧ KeepsOthers W2 (w5.setCell ⟨B, 0, none⟩ v') ∧ (∀ u : ByteArray, Boxed W2 c 9 (.string u) → Boxed (w5.setCell ⟨B, 0, none⟩ v') c 9 (.string u)) ∧ SoFar w0 B lo (pre ++ [x]) (w5.setCell ⟨B, 0, none⟩ v') := by
  obtain ⟨O1, hO1⟩ : ∃ O1, O1 = Obj.cells ((Lib.fields (codeOf x.data.toList)).map fun l => Value.string ⟨l.toArray⟩).toArray 9 := ⟨_, rfl⟩
  rw [← hO1] at hg
  have hsz := h4.size
  obtain ⟨a1, a2, a3, a4, a5⟩ := (h1.alloc O1).appended (by decide) (h2.alloc O1) (by simp; omega) hB ho hg
  have keep : ∀ b cs, B ≠ b → W2.heap[b]? = some (.cells cs 9 (0, 0)) → (w5.setCell ⟨B, 0, none⟩ v').heap[b]? = some (.cells cs 9 (0, 0)) := by
    intro b cs hbB hcs
    have hlt := (Array.getElem?_eq_some_iff.1 hcs).1
    rw [Below.heap_setCell _ _ _ _ (show b ≠ B from fun e => hbB e.symm), hg.block b (by simp; omega) ?_, Below.heap_alloc _ _ _ (by simp; omega), Below.heap_alloc _ _ _ hlt]
    · exact hcs
    · intro e
      obtain ⟨cur, hcur⟩ := own_block h2 e.symm
      rw [hcs] at hcur
      simp at hcur
  have notB : ∀ b cs, W2.heap[b]? = some (.cells cs 9 (0, 0)) → B ≠ b := by
    rintro b cs hcs rfl
    have := (show W2.heap[B]? = _ from h1).symm.trans hcs
    simp at this
  refine ⟨a1, ⟨?_, ?_⟩, fun u hu => keep c _ hBc hu, ⟨v', vs ++ [.slice (some ⟨W2.heap.size, 0, none⟩) (Lib.fields (codeOf x.data.toList)).length (Lib.fields (codeOf x.data.toList)).length], a2, ?_, ?_⟩, ?_, ?_⟩
  · have := a4.size
    simp at this ⊢
    omega
  · intro b o hb hc
    have hlt := (Array.getElem?_eq_some_iff.1 hb).1
    exact a4.same b o ((Below.heap_alloc _ _ _ hlt).trans hb) hc
  · rw [List.length_append, List.length_singleton, ← hn]; exact a3
  · rw [List.map_append, List.map_singleton]
    refine RowsAt.snoc (h3.kept fun b cs _ hcs => keep b cs (notB b cs hcs) hcs) ⟨W2.heap.size, h5, rfl, ?_⟩
    rw [Below.heap_setCell _ _ _ _ (show W2.heap.size ≠ B by have := h1.lt; omega), hg.block _ (by rw [World.size_alloc, World.size_alloc]; omega) ?_, Below.heap_alloc _ _ _ (by simp), World.alloc_heap_new, hO1]
    intro e
    have := h2.lt _ e.symm
    omega
  · exact h4.trans (((Below.refl w0.heap.size W2).alloc hsz O1).trans a5)
  · have := hg.size
    simp at this ⊢
    omega
end Go.Proofs.YtainjdmgncicmaaDoor
