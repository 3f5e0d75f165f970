/- append of rectangles that can be read. -/
import Derived.Test.YtdpnkbbphfcngaaGY
namespace Go.Proofs.Ytdpnkbbphfcngaa
open Go.RowKit Go.Shelf

section
variable {P : Program}
theorem wpList_append_zero {w : World} {ops : Array Oper} {rest : List Oper} {o : Oper} {a : Act} {Q : Exit → Act → World → Prop} (hgd : o.guard = none) (s x : Operand) (t : TypeId)
    (ho : o.op = .call { callee := .builtin .append, args := #[s, x], argTypes := #[t, t] })
    (base : Nat) (e : TypeId) (i : TypeInfo) (size : Nat) (ht : P.underlying t = some (.slice e)) (hi : P.info? e = some i)
    (v : Value) (n : Nat) (xs : List Value) (hs : a.eval s = v) (hown : w.ownsRow base e size v n xs) (cap : Nat) (hx : a.eval x = .slice none 0 cap)
    (h : wpList P ops Q rest (a.put o.dst v) w) : wpList P ops Q (o :: rest) a w := by
  refine wpList_plain hgd fun K hK => ?_
  have hrun : (Builtin.append_ #[t, t] o.type #[v, .slice none 0 cap]).run P w = .ok v w := by
    rcases hown.2 with ⟨rfl, rfl⟩ | ⟨g, c, cur, rfl, _, _, hnc, _⟩
    · simp [Builtin.append_, run_underlying ht, sizeOf, typeInfo, hi, Builtin.lenOf, Builtin.firstCells]
    · simp [Builtin.append_, run_underlying ht, sizeOf, typeInfo, hi, Builtin.lenOf, Builtin.firstCells, hnc, storeCells]
  unfold Oper.wp
  simp [execOp, ho, resolve, invoke, builtin, hs, hx, hrun, Result.andThen]
  exact hK _ _ h

/-- Rectangles behind an own row of rectangles. -/
theorem wpList_append_rects (w : World) {ops : Array Oper} {rest : List Oper} {o : Oper} {a : Act} {Q : Exit → Act → World → Prop} (hgd : o.guard = none) (s x : Operand) (t : TypeId)
    (ho : o.op = .call { callee := .builtin .append, args := #[s, x], argTypes := #[t, t] })
    (base : Nat) (e : TypeId) (i : TypeInfo) (z : Value) (bytes : Nat) (ht : P.underlying t = some (.slice e)) (hi : P.info? e = some i) (hz : i.zero = some z)
    (hsize : i.size = 4) (hby : i.bytes = bytes) (hzs : z.cells.size = 4)
    (v : Value) (n : Nat) (xs : List Value) (hs : a.eval s = v) (hown : w.ownsRow base e 4 v n xs)
    (v2 : Value) (l : List Rc) (hx : a.eval x = v2) (h2 : RectsAt w v2 l)
    (h63 : n + l.length ≤ maxLen) (hbytes : (n + l.length) * bytes ≤ 140737488355328) (hbase : base ≤ w.heap.size)
    (h : ∀ v' w', w'.ownsRow base e 4 v' (n + l.length) (xs ++ l.flatMap encR) → w.grownBy w' v.ownBlock → wpList P ops Q rest (a.put o.dst v') w') : wpList P ops Q (o :: rest) a w := by
  obtain ⟨p, cap, rfl, hm, hcp, hc⟩ := h2
  rcases List.eq_nil_or_concat l with rfl | ⟨l', r', hl⟩
  · cases p with
    | none =>
      refine wpList_append_zero hgd s x t ho base e i 4 ht hi v n xs hs hown cap hx ?_
      exact h v w (by simpa using hown) (World.grownBy.refl _ _)
    | some ad => exact wpList_append_own w hgd s x t ho base e i z 4 bytes ht hi hz hsize hby hzs (by decide) v n xs hs hown ad 0 cap [] hx rfl (fun j u hu => by cases hu) (fun u hu => by cases hu) h63 hbytes hbase fun v' w' a b _ => h v' w' a b
  · have h0 : 0 < l.length := by rw [hl]; simp
    obtain ⟨b, off, rfl, _, _⟩ := hc 0 h0
    refine wpList_append_own w hgd s x t ho base e i z 4 bytes ht hi hz hsize hby hzs (by decide) v n xs hs hown ⟨b, off, none⟩ l.length cap (l.flatMap encR) hx (flatMap_len encR 4 encR_len l) (fun j u hu => ?_) (oneR l) h63 hbytes hbase fun v' w' a b _ => h v' w' a b
    have hj : j < l.length * 4 := by
      have := (List.getElem?_eq_some_iff.1 hu).1
      rwa [flatMap_len encR 4 encR_len] at this
    have hj4 : j / 4 < l.length := by omega
    obtain ⟨b', off', e', _, c0, c1, c2, c3⟩ := hc (j / 4) hj4
    cases e'
    have hu' : (encR l[j / 4]!)[j % 4]? = some u := by
      rw [← flatMap_get encR 4 encR_len l j hj]; exact hu
    have had : (⟨b, off, none⟩ : Addr).add j = ⟨b, off + j, none⟩ := by simp [Addr.add]
    rw [had]
    have hm4 : j % 4 = 0 ∨ j % 4 = 1 ∨ j % 4 = 2 ∨ j % 4 = 3 := by omega
    rcases hm4 with h4 | h4 | h4 | h4 <;> rw [h4] at hu' <;> cases hu'
    · rw [show off + j = off + j / 4 * 4 by omega]; exact c0
    · rw [show off + j = off + j / 4 * 4 + 1 by omega]; exact c1
    · rw [show off + j = off + j / 4 * 4 + 2 by omega]; exact c2
    · rw [show off + j = off + j / 4 * 4 + 3 by omega]; exact c3
end
end Go.Proofs.Ytdpnkbbphfcngaa
