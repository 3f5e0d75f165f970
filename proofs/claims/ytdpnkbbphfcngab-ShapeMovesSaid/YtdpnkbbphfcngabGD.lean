/- Edges, sorted by x. -/
import Derived.Test.YtdpnkbbphfcngabGC
import Derived.Test.YtdpnkbbphfcngabShelf
import Derived.Lib.OwnBridge
import Derived.Sort.Grow
namespace Go.Proofs.Ytdpnkbbphfcngab
open Go.RowKit Go.Sort Go.Shelf

instance : Inhabited Ed := ⟨⟨0, 0, 0, 0, 0⟩⟩

theorem flatMap_get {α : Type} [Inhabited α] (enc : α → List Value) (k : Nat) (hk : ∀ x, (enc x).length = k) : ∀ (l : List α) (t : Nat), t < l.length * k → (l.flatMap enc)[t]? = (enc l[t / k]!)[t % k]?
  | [], t, h => by simp at h
  | x :: l, t, h => by
    have k0 : 0 < k := by rcases Nat.eq_zero_or_pos k with e | e; · subst e; simp at h
                          · exact e
    rw [List.flatMap_cons]
    by_cases ht : t < k
    · rw [List.getElem?_append_left (by rw [hk]; exact ht), Nat.div_eq_of_lt ht, Nat.mod_eq_of_lt ht]
      rfl
    · obtain ⟨u, rfl⟩ : ∃ u, t = u + k := ⟨t - k, by omega⟩
      rw [List.getElem?_append_right (by rw [hk]; omega), hk, Nat.add_sub_cancel, Nat.add_div_right _ k0, Nat.add_mod_right]
      rw [flatMap_get enc k hk l u (by rw [List.length_cons, Nat.add_mul, Nat.one_mul] at h; omega)]
      rfl

theorem flatMap_len {α : Type} (enc : α → List Value) (k : Nat) (hk : ∀ x, (enc x).length = k) (l : List α) : (l.flatMap enc).length = l.length * k := by
  induction l with
  | nil => simp
  | cons x l ih => rw [List.flatMap_cons, List.length_append, ih, hk, List.length_cons, Nat.add_mul]; omega

theorem flatK_eq {α : Type} [Inhabited α] (enc : α → List Value) (k : Nat) (hk : ∀ x, (enc x).length = k) (l : List α) : flatK enc k l.toArray = (l.flatMap enc).toArray := by
  apply Array.ext'
  apply List.ext_getElem?
  intro t
  by_cases h : t < l.length * k
  · show (flatK enc k l.toArray).toList[t]? = (l.flatMap enc)[t]?
    rw [flatMap_get enc k hk l t h]
    have k0 : 0 < k := by rcases Nat.eq_zero_or_pos k with e | e; · subst e; simp at h
                          · exact e
    have hd : t / k < l.length := Nat.div_lt_of_lt_mul (by rw [Nat.mul_comm]; exact h)
    have hm : t % k < (enc l[t / k]!).length := by rw [hk]; exact Nat.mod_lt _ k0
    have e1 : (flatK enc k l.toArray).toList[t]? = some ((enc l.toArray[t / k]!)[t % k]!) := by simp [flatK, h]
    rw [e1, List.getElem?_eq_getElem hm, ← getElem!_pos (enc l[t / k]!) (t % k) hm]
    simp
  · rw [List.getElem?_eq_none (by simp; omega), List.getElem?_eq_none]
    simp only [flatMap_len enc k hk]
    omega

/-- A row of k cells an element, in the sort's words, and back. -/
theorem holds_flat {w : World} {B : Nat} {e : TypeId} {k g n cap : Nat} {xs : List Value} (h : w.ownsRow B e k (.slice (some ⟨g, 0, none⟩) n cap) n xs) : Holds id w g 0 xs.toArray := by
  intro j hj
  have hl := h.1
  have hj' : j < xs.length := by simpa using hj
  rw [Nat.zero_add, h.cellAt j (by omega)]
  refine ⟨?_, h.frozenAt j⟩
  rw [List.getElem?_eq_getElem hj']
  simp [getElem!_pos, hj']

theorem own_putRow {w : World} {B : Nat} {e : TypeId} {k g n cap q : Nat} {xs ys : List Value} (h : w.ownsRow B e k (.slice (some ⟨g, 0, none⟩) n cap) n xs) (hy : ys.length = n * k) :
    (putRow id (Sort.ahead w q) g 0 ys.toArray).ownsRow B e k (.slice (some ⟨g, 0, none⟩) n cap) n ys := by
  rcases h.2 with ⟨e0, _⟩ | ⟨g', cap', cur, e0, hb, hg, hn, hm, hs, ht⟩
  · cases e0
  · injection e0 with e1 _ e3
    injection e1 with e1
    injection e1 with e1
    subst e1; subst e3
    have hnk : n * k ≤ cap * k := Nat.mul_le_mul_right k hn
    refine ⟨hy, .inr ⟨g, cap, putCells id 0 ys.toArray cur, rfl, hb, ?_, hn, hm, by simpa [putCells] using hs, ?_⟩⟩
    · simp [putRow, mapBlock, Sort.ahead, Array.getElem?_modify, hg, onCells]
    · apply List.ext_getElem?
      intro j
      rw [List.getElem?_take, Array.getElem?_toList]
      by_cases hj : j < n * k
      · have hjc : j < cur.size := by omega
        simp only [if_pos hj, putCells, Array.getElem?_mapIdx, Array.getElem?_eq_getElem hjc, Option.map_some]
        rw [if_pos (by simp; omega), List.getElem?_eq_getElem (by omega)]
        simp [getElem!_pos, show j < ys.length by omega]
      · rw [if_neg hj, List.getElem?_eq_none (by omega)]

theorem grown_putRow (w : World) (g q : Nat) (d : Array Value) (os : Array Obj) : w.grownBy (grow (putRow id (Sort.ahead w q) g 0 d) os) (some g) := by
  refine ⟨rfl, rfl, rfl, by simp [grow, putRow, mapBlock, Sort.ahead], fun k hk hne => ?_⟩
  have hkg : k ≠ g := fun e => hne (by rw [e])
  have h1 : (grow (putRow id (Sort.ahead w q) g 0 d) os).heap[k]? = (putRow id (Sort.ahead w q) g 0 d).heap[k]? := heap_grow_old _ _ (by simpa [putRow, mapBlock, Sort.ahead] using hk)
  rw [h1]
  simp [putRow, mapBlock, Sort.ahead, Array.getElem?_modify, hkg.symm]

def cmpX (x y : Ed) : Int := Lib.compareInt x.x y.x
theorem ltX (x y : Ed) : ltOf cmpX x y = decide (x.x < y.x) := by
  unfold ltOf cmpX Lib.compareInt
  by_cases h1 : x.x < y.x
  · simp [h1]
  · by_cases h2 : y.x < x.x <;> simp [h1, h2]
theorem swoX : SWO (ltOf cmpX) where
  irrefl x := by rw [ltX]; simp
  trans x y z h1 h2 := by rw [ltX] at *; simp at *; omega
  ntrans x y z h1 h2 := by rw [ltX] at *; simp at *; omega

set_option maxHeartbeats 1000000 in
theorem closureX (x y : Ed) (W : World) : Calls Try.prog 48 #[.agg #[.int .i64 x.x, .int .i64 x.lo, .int .i64 x.hi, .int .i64 x.list, .int .i64 x.more], .agg #[.int .i64 y.x, .int .i64 y.lo, .int .i64 y.hi, .int .i64 y.list, .int .i64 y.more]] W fun e w' => e = .returned (.int .i64 (cmpX x y)) ∧ ∃ q os', w' = grow (W.drewN q) os' := by
  have hcon := fun W' => Try.cmp_Compare_int x.x y.x W'
  have e : cmpX x y = Lib.compareInt x.x y.x := rfl
  rw [e]
  clear e
  generalize Lib.compareInt x.x y.x = r at hcon ⊢
  go_enter Try.func48, Try.ntmps48
  go_wp2_with (go_at_call 49; refine (hcon _).mono ?_; rintro e w' ⟨rfl, rfl⟩)
  go_ret
  exact ⟨rfl, 0, _, by rw [alloc_eq_grow, alloc_eq_grow, grow_grow]; rfl⟩

theorem cmpLaysX (blk off size : Nat) (w : World) : CmpLays Try.prog 48 #[] encE 5 cmpX blk off size w :=
  fun _ _ _ _ x y => closureX x y _

theorem sortE_any (v : Value) (l : List Ed) (B : Nat) (w : World) (h : OwnAt w B 75 5 encE v l) (hl : l.length ≤ 300000) :
    Calls Try.prog 47 #[v, .func (.func 48) #[] #[]] w fun e w' => e = .returned (.tuple #[]) ∧ ∃ E : List Ed, E.Perm l ∧ E.Pairwise (fun e f => e.x ≤ f.x) ∧ OwnAt w' B 75 5 encE v E ∧ w.grownBy w' v.ownBlock := by
  by_cases h0 : l = []
  · subst h0
    obtain ⟨p, cap, rfl⟩ := h.shape
    refine (AnyF.slices_SortFunc_none (P := Try.prog) (ρ := Try.sortE_ren) Try.sortE p cap _ w).mono ?_
    rintro e w' ⟨rfl, rfl⟩
    exact ⟨rfl, [], List.Perm.nil, List.Pairwise.nil, h, World.grownBy.refl _ _⟩
  · obtain ⟨g, cap, rfl, hBg, hg, hlc⟩ := h.form (List.length_pos_iff.2 h0)
    have hH : HoldsK encE 5 w g 0 l.toArray := by
      unfold HoldsK
      rw [flatK_eq encE 5 (fun _ => rfl)]
      exact holds_flat h
    have eg : ∀ args w, (callFunc 48 args).run Try.prog w = .ok (.enter 48 args) w := enters_of Try.func48 (by kernel_rfl) rfl
    have hcon := AnyQ.slices_SortFunc Try.sortE 5 Try.isAgg75 Try.sizeOf75 encE (fun _ => rfl) (fun x v hv => by simp [encE] at hv; rcases hv with rfl | rfl | rfl | rfl | rfl <;> rfl) cmpX swoX 48 #[] g 0 cap l.toArray w eg (cmpLaysX g 0 l.toArray.size w) hH hg (by simp; omega)
    refine Calls.mono hcon ?_
    rintro e w' ⟨rfl, d', n, os, hp, hs, rfl⟩
    have hd : d' = d'.toList.toArray := by simp
    have hsz : d'.size = l.length := hp.1.trans (by simp)
    refine ⟨rfl, d'.toList, ?_, ?_, ?_, ?_⟩
    · have := hp.2.2
      have e1 : (l.toArray.extract 0 l.toArray.size).toList = l := by simp
      have e2 : (d'.extract 0 l.toArray.size).toList = d'.toList := by
        rw [show l.toArray.size = d'.size by simp [hsz]]; simp
      rwa [e1, e2] at this
    · rw [List.pairwise_iff_getElem]
      intro i j hi hj hij
      have := hs i j (Nat.zero_le _) hij (by simp at hj ⊢; omega)
      rw [ltX] at this
      simp at hi hj
      simp [getElem!_pos, hi, hj] at this
      simpa using this
    · unfold OwnAt sortWorldK putRowK
      rw [hd, flatK_eq encE 5 (fun _ => rfl)]
      have h1 := own_putRow (q := n) (ys := d'.toList.flatMap encE) h (by rw [flatMap_len encE 5 (fun _ => rfl)]; simp [hsz])
      have hg2 : (putRow id (Sort.ahead w n) g 0 (d'.toList.flatMap encE).toArray).grownBy (grow (putRow id (Sort.ahead w n) g 0 (d'.toList.flatMap encE).toArray) os) none :=
        ⟨rfl, rfl, rfl, by simp [grow], fun k hk _ => heap_grow_old _ _ hk⟩
      have h2 := h1.kept hg2 (.inr (by simp [Value.ownBlock]))
      simpa [hsz] using h2
    · exact grown_putRow w g n _ os
end Go.Proofs.Ytdpnkbbphfcngab
