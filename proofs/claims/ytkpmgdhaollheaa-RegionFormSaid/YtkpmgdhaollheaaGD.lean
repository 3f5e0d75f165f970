/- Edges, sorted by their lowest rows, then by x. -/
import Derived.Test.YtkpmgdhaollheaaIP
import Derived.Test.YtkpmgdhaollheaaShelf
import Derived.Lib.OwnBridge
import Derived.Sort.Grow
import Derived.Deep.RegionHeld3
namespace Go.Proofs.Ytkpmgdhaollheaa
open Go.RowKit Go.Sort Go.Shelf

theorem flatK_eq {α : Type} [Inhabited α] (enc : α → List Value) (k : Nat) (hk : ∀ x, (enc x).length = k) (l : List α) : flatK enc k l.toArray = (l.flatMap enc).toArray := by
  apply Array.ext'
  apply List.ext_getElem?
  intro t
  by_cases h : t < l.length * k
  · show (flatK enc k l.toArray).toList[t]? = (l.flatMap enc)[t]?
    rw [flatMap_get enc k hk l t h]
    have k0 : 0 < k := by rcases Nat.eq_zero_or_pos k with e | e; · subst e; simp at h
                          · exact e
    have hd : t / k < l.length := Nat.div_lt_of_lt_mul (by rw [Nat.mul_comm]; exact h)
    have hm : t % k < (enc l[t / k]!).length := by rw [hk]; exact Nat.mod_lt _ k0
    have e1 : (flatK enc k l.toArray).toList[t]? = some ((enc l.toArray[t / k]!)[t % k]!) := by simp [flatK, h]
    rw [e1, List.getElem?_eq_getElem hm, ← getElem!_pos (enc l[t / k]!) (t % k) hm]
    simp
  · rw [List.getElem?_eq_none (by simp; omega), List.getElem?_eq_none]
    simp only [flatMap_len enc k hk]
    omega

/-- A row of k cells an element, in the sort's words, and back. -/
theorem holds_flat {w : World} {B : Nat} {e : TypeId} {k g n cap : Nat} {xs : List Value} (h : w.ownsRow B e k (.slice (some ⟨g, 0, none⟩) n cap) n xs) : Holds id w g 0 xs.toArray := by
  intro j hj
  have hl := h.1
  have hj' : j < xs.length := by simpa using hj
  rw [Nat.zero_add, h.cellAt j (by omega)]
  refine ⟨?_, h.frozenAt j⟩
  rw [List.getElem?_eq_getElem hj']
  simp [getElem!_pos, hj']

theorem own_putRow {w : World} {B : Nat} {e : TypeId} {k g n cap q : Nat} {xs ys : List Value} (h : w.ownsRow B e k (.slice (some ⟨g, 0, none⟩) n cap) n xs) (hy : ys.length = n * k) :
    (putRow id (Sort.ahead w q) g 0 ys.toArray).ownsRow B e k (.slice (some ⟨g, 0, none⟩) n cap) n ys := by
  rcases h.2 with ⟨e0, _⟩ | ⟨g', cap', cur, e0, hb, hg, hn, hm, hs, ht⟩
  · cases e0
  · injection e0 with e1 _ e3
    injection e1 with e1
    injection e1 with e1
    subst e1; subst e3
    have hnk : n * k ≤ cap * k := Nat.mul_le_mul_right k hn
    refine ⟨hy, .inr ⟨g, cap, putCells id 0 ys.toArray cur, rfl, hb, ?_, hn, hm, by simpa [putCells] using hs, ?_⟩⟩
    · simp [putRow, mapBlock, Sort.ahead, Array.getElem?_modify, hg, onCells]
    · apply List.ext_getElem?
      intro j
      rw [List.getElem?_take, Array.getElem?_toList]
      by_cases hj : j < n * k
      · have hjc : j < cur.size := by omega
        simp only [if_pos hj, putCells, Array.getElem?_mapIdx, Array.getElem?_eq_getElem hjc, Option.map_some]
        rw [if_pos (by simp; omega), List.getElem?_eq_getElem (by omega)]
        simp [getElem!_pos, show j < ys.length by omega]
      · rw [if_neg hj, List.getElem?_eq_none (by omega)]

theorem grown_putRow (w : World) (g q : Nat) (d : Array Value) (os : Array Obj) : w.grownBy (grow (putRow id (Sort.ahead w q) g 0 d) os) (some g) := by
  refine ⟨rfl, rfl, rfl, by simp [grow, putRow, mapBlock, Sort.ahead], fun k hk hne => ?_⟩
  have hkg : k ≠ g := fun e => hne (by rw [e])
  have h1 : (grow (putRow id (Sort.ahead w q) g 0 d) os).heap[k]? = (putRow id (Sort.ahead w q) g 0 d).heap[k]? := heap_grow_old _ _ (by simpa [putRow, mapBlock, Sort.ahead] using hk)
  rw [h1]
  simp [putRow, mapBlock, Sort.ahead, Array.getElem?_modify, hkg.symm]

def or2 (x y : Int) : Int := if x = 0 then y else x

set_option maxHeartbeats 1000000 in
set_option maxRecDepth 100000 in
theorem or2_any (b : Nat) (x y : Int) (w : World) (h : BoxAt w b #[.int .i64 x, .int .i64 y] 3) :
    Calls Try.prog 98 #[.slice (some ⟨b, 0, none⟩) 2 2] w fun e w' => e = .returned (.int .i64 (or2 x y)) ∧ w = w' := by
  have c0 := h.cell (i := 0) rfl
  have c1 := h.cell (i := 1) rfl
  clear h
  by_cases hx : x = 0
  · subst hx
    have HR := Lib.hid (show or2 0 y = y from if_pos rfl)
    by_cases hy : y = 0
    · subst hy
      go_enter Try.func98, Try.ntmps98
      go_wp2_with fail
      go_loopw [8] (fun i wr => ∃ k : Nat, k ≤ 2 ∧ i = .int .i64 k ∧ w = wr) (fun i _ => 2 - (intOf i).toNat)
      case atStart => exact ⟨0, by omega, rfl, rfl⟩
      case round =>
        obtain ⟨k, hk, rfl, rfl⟩ := hrel
        have h3 : k = 0 ∨ k = 1 ∨ k = 2 := by omega
        rcases h3 with rfl | rfl | rfl
        · go_wp2
          go_roundw
          case rel => exact ⟨1, by omega, rfl, trivial⟩
          case measure => simp [intOf]
        · go_wp2
          go_roundw
          case rel => exact ⟨2, by omega, rfl, trivial⟩
          case measure => simp [intOf]
        · go_wp2
          go_ret
          exact ⟨congrArg (fun t => Ending.returned (.int .i64 t)) HR.out.symm, rfl⟩
    · have hb : (y != 0) = true := bne_iff_ne.2 hy
      go_enter Try.func98, Try.ntmps98
      go_wp2_with fail
      go_loopw [8] (fun i wr => ∃ k : Nat, k ≤ 1 ∧ i = .int .i64 k ∧ w = wr) (fun i _ => 2 - (intOf i).toNat)
      case atStart => exact ⟨0, by omega, rfl, rfl⟩
      case round =>
        obtain ⟨k, hk, rfl, rfl⟩ := hrel
        have h3 : k = 0 ∨ k = 1 := by omega
        rcases h3 with rfl | rfl
        · go_wp2
          go_roundw
          case rel => exact ⟨1, by omega, rfl, trivial⟩
          case measure => simp [intOf]
        · go_wp2
          go_ret
          exact ⟨congrArg (fun t => Ending.returned (.int .i64 t)) HR.out.symm, rfl⟩
  · have HR := Lib.hid (show or2 x y = x from if_neg hx)
    have hb : (x != 0) = true := bne_iff_ne.2 hx
    go_enter Try.func98, Try.ntmps98
    go_wp2_with fail
    go_loopw [8] (fun i wr => i = .int .i64 0 ∧ w = wr) (fun i _ => 2 - (intOf i).toNat)
    case atStart => exact ⟨rfl, rfl⟩
    case round =>
      obtain ⟨rfl, rfl⟩ := hrel
      go_wp2
      go_ret
      exact ⟨congrArg (fun t => Ending.returned (.int .i64 t)) HR.out.symm, rfl⟩

theorem cmpI (x y : Int) : (x < y ∧ Lib.compareInt x y = -1) ∨ (x = y ∧ Lib.compareInt x y = 0) ∨ (y < x ∧ Lib.compareInt x y = 1) := by
  unfold Lib.compareInt
  by_cases h1 : x < y
  · exact .inl ⟨h1, by simp [h1]⟩
  · by_cases h2 : y < x
    · exact .inr (.inr ⟨h2, by simp [h1, h2]⟩)
    · exact .inr (.inl ⟨by omega, by simp [h1, h2]⟩)
def cmpX (p q : Ed) : Int := or2 (Lib.compareInt p.lo q.lo) (Lib.compareInt p.x q.x)
theorem ltX (p q : Ed) : ltOf cmpX p q = decide (p.lo < q.lo ∨ (p.lo = q.lo ∧ p.x < q.x)) := by
  unfold ltOf cmpX or2
  rcases cmpI p.lo q.lo with ⟨h, e⟩ | ⟨h, e⟩ | ⟨h, e⟩ <;> rcases cmpI p.x q.x with ⟨g, f⟩ | ⟨g, f⟩ | ⟨g, f⟩ <;> rw [e, f] <;> (rw [decide_eq_decide]; simp; omega)
theorem swoX : SWO (ltOf cmpX) where
  irrefl x := by rw [ltX]; simp
  trans x y z h1 h2 := by rw [ltX] at *; simp at *; omega
  ntrans x y z h1 h2 := by rw [ltX] at *; simp at *; omega

set_option maxHeartbeats 2000000 in
set_option maxRecDepth 100000 in
theorem closureX (p q : Ed) (W : World) : Calls Try.prog 97 #[.agg #[.int .i64 p.x, .int .i64 p.lo, .int .i64 p.hi, .int .i64 p.list, .int .i64 p.more], .agg #[.int .i64 q.x, .int .i64 q.lo, .int .i64 q.hi, .int .i64 q.list, .int .i64 q.more]] W fun e w' => e = .returned (.int .i64 (cmpX p q)) ∧ ∃ n os', w' = grow (W.drewN n) os' := by
  have K1 := Lib.hid (fun W' => Try.cmp_Compare_int p.lo q.lo W')
  have K2 := Lib.hid (fun W' => Try.cmp_Compare_int p.x q.x W')
  have HE := Lib.hid (show cmpX p q = or2 (Lib.compareInt p.lo q.lo) (Lib.compareInt p.x q.x) from rfl)
  have X0 := Lib.hid ((BoxAt.new W #[.int .i64 p.x, .int .i64 p.lo, .int .i64 p.hi, .int .i64 p.list, .int .i64 p.more] 124).alloc (.cells #[.int .i64 q.x, .int .i64 q.lo, .int .i64 q.hi, .int .i64 q.list, .int .i64 q.more] 124))
  have hX1 : (BoxAt ((W.alloc (.cells #[.int .i64 p.x, .int .i64 p.lo, .int .i64 p.hi, .int .i64 p.list, .int .i64 p.more] 124)).alloc (.cells #[.int .i64 q.x, .int .i64 q.lo, .int .i64 q.hi, .int .i64 q.list, .int .i64 q.more] 124)) (W.heap.size + 1) #[.int .i64 q.x, .int .i64 q.lo, .int .i64 q.hi, .int .i64 q.list, .int .i64 q.more] 124) := by
    have := BoxAt.new (W.alloc (.cells #[.int .i64 p.x, .int .i64 p.lo, .int .i64 p.hi, .int .i64 p.list, .int .i64 p.more] 124)) #[.int .i64 q.x, .int .i64 q.lo, .int .i64 q.hi, .int .i64 q.list, .int .i64 q.more] 124
    simpa using this
  have X1 := Lib.hid hX1
  clear hX1
  have HW := Lib.hid (show ∀ o : Obj, (((W.alloc (.cells #[.int .i64 p.x, .int .i64 p.lo, .int .i64 p.hi, .int .i64 p.list, .int .i64 p.more] 124)).alloc (.cells #[.int .i64 q.x, .int .i64 q.lo, .int .i64 q.hi, .int .i64 q.list, .int .i64 q.more] 124)).alloc o).drew = grow (W.drewN 1) #[.cells #[.int .i64 p.x, .int .i64 p.lo, .int .i64 p.hi, .int .i64 p.list, .int .i64 p.more] 124, .cells #[.int .i64 q.x, .int .i64 q.lo, .int .i64 q.hi, .int .i64 q.list, .int .i64 q.more] 124, o] from fun o => by
    rw [alloc_eq_grow, alloc_eq_grow, alloc_eq_grow, grow_grow, grow_grow]; rfl)
  generalize Lib.compareInt p.lo q.lo = r1 at *
  generalize Lib.compareInt p.x q.x = r2 at *
  go_enter Try.func97, Try.ntmps97
  go_wp2_with fail
  generalize (W.alloc (.cells #[.int .i64 p.x, .int .i64 p.lo, .int .i64 p.hi, .int .i64 p.list, .int .i64 p.more] 124)).alloc (.cells #[.int .i64 q.x, .int .i64 q.lo, .int .i64 q.hi, .int .i64 q.list, .int .i64 q.more] 124) = w2 at *
  have KS := Lib.hid (fun (w' : World) (h : Below w2.heap.size w2 w') => (⟨(X0.out.below h).cell (i := 0) rfl, (X0.out.below h).cell (i := 1) rfl, (X1.out.below h).cell (i := 0) rfl, (X1.out.below h).cell (i := 1) rfl⟩ : w'.cell? ⟨W.heap.size, 0, none⟩ = some (.int .i64 p.x) ∧ w'.cell? ⟨W.heap.size, 1, none⟩ = some (.int .i64 p.lo) ∧ w'.cell? ⟨W.heap.size + 1, 0, none⟩ = some (.int .i64 q.x) ∧ w'.cell? ⟨W.heap.size + 1, 1, none⟩ = some (.int .i64 q.lo)))
  have Q0 := Lib.hid (show Below w2.heap.size w2 w2.drew from Below.drew (Below.refl _ _))
  have Q1 := Lib.hid (show Below w2.heap.size w2 (w2.alloc (.cells #[.int .i64 r1, .int .i64 r2] 3)).drew from ((Below.refl _ _).alloc (Nat.le_refl _) _).drew)
  have HO := Lib.hid (or2_any w2.heap.size r1 r2 (w2.alloc (.cells #[.int .i64 r1, .int .i64 r2] 3)).drew (BoxAt.new w2 #[.int .i64 r1, .int .i64 r2] 3))
  go_region_held3 (fun w' => w'.cell? ⟨W.heap.size, 0, none⟩ = some (.int .i64 p.x) ∧ w'.cell? ⟨W.heap.size, 1, none⟩ = some (.int .i64 p.lo) ∧ w'.cell? ⟨W.heap.size + 1, 0, none⟩ = some (.int .i64 q.x) ∧ w'.cell? ⟨W.heap.size + 1, 1, none⟩ = some (.int .i64 q.lo)) (exact KS.out _ (by first | exact Q0.out | exact Q1.out)) (first
    | (go_at_call 99; (with_reducible refine (K1.out _).mono ?_); rintro e w' ⟨rfl, rfl⟩)
    | (go_at_call 99; (with_reducible refine (K2.out _).mono ?_); rintro e w' ⟨rfl, rfl⟩)
    | (go_at_call 98; (with_reducible refine HO.out.mono ?_); rintro e w' ⟨rfl, rfl⟩))
  go_wp2
  go_ret
  exact ⟨congrArg (fun t => Ending.returned (.int .i64 t)) HE.out.symm, 1, _, HW.out _⟩

theorem cmpLaysX (blk off size : Nat) (w : World) : CmpLays Try.prog 97 #[] encE 5 cmpX blk off size w :=
  fun _ _ _ _ x y => closureX x y _

theorem sortE_any (v : Value) (l : List Ed) (B : Nat) (w : World) (h : OwnAt w B 124 5 encE v l) (hl : l.length ≤ 300000) :
    Calls Try.prog 96 #[v, .func (.func 97) #[] #[]] w fun e w' => e = .returned (.tuple #[]) ∧ ∃ E : List Ed, E.Perm l ∧ E.Pairwise loX ∧ OwnAt w' B 124 5 encE v E ∧ w.grownBy w' v.ownBlock := by
  by_cases h0 : l = []
  · subst h0
    obtain ⟨p, cap, rfl⟩ := h.shape
    refine (AnyF.slices_SortFunc_none (P := Try.prog) (ρ := Try.sortE_ren) Try.sortE p cap _ w).mono ?_
    rintro e w' ⟨rfl, rfl⟩
    exact ⟨rfl, [], List.Perm.nil, List.Pairwise.nil, h, World.grownBy.refl _ _⟩
  · obtain ⟨g, cap, rfl, hBg, hg, hlc⟩ := h.form (List.length_pos_iff.2 h0)
    have hH : HoldsK encE 5 w g 0 l.toArray := by
      unfold HoldsK
      rw [flatK_eq encE 5 (fun _ => rfl)]
      exact holds_flat h
    have eg : ∀ args w, (callFunc 97 args).run Try.prog w = .ok (.enter 97 args) w := enters_of Try.func97 (by kernel_rfl) rfl
    have hcon := AnyQ.slices_SortFunc Try.sortE 5 Try.isAgg124 Try.sizeOf124 encE (fun _ => rfl) (fun x v hv => by simp [encE] at hv; rcases hv with rfl | rfl | rfl | rfl | rfl <;> rfl) cmpX swoX 97 #[] g 0 cap l.toArray w eg (cmpLaysX g 0 l.toArray.size w) hH hg (by simp; omega)
    refine Calls.mono hcon ?_
    rintro e w' ⟨rfl, d', n, os, hp, hs, rfl⟩
    have hd : d' = d'.toList.toArray := by simp
    have hsz : d'.size = l.length := hp.1.trans (by simp)
    refine ⟨rfl, d'.toList, ?_, ?_, ?_, ?_⟩
    · have := hp.2.2
      have e1 : (l.toArray.extract 0 l.toArray.size).toList = l := by simp
      have e2 : (d'.extract 0 l.toArray.size).toList = d'.toList := by
        rw [show l.toArray.size = d'.size by simp [hsz]]; simp
      rwa [e1, e2] at this
    · rw [List.pairwise_iff_getElem]
      intro i j hi hj hij
      have := hs i j (Nat.zero_le _) hij (by simp at hj ⊢; omega)
      rw [ltX] at this
      simp at hi hj
      simp [getElem!_pos, hi, hj] at this
      simp only [loX, Array.getElem_toList]
      omega
    · unfold OwnAt sortWorldK putRowK
      rw [hd, flatK_eq encE 5 (fun _ => rfl)]
      have h1 := own_putRow (q := n) (ys := d'.toList.flatMap encE) h (by rw [flatMap_len encE 5 (fun _ => rfl)]; simp [hsz])
      have hg2 : (putRow id (Sort.ahead w n) g 0 (d'.toList.flatMap encE).toArray).grownBy (grow (putRow id (Sort.ahead w n) g 0 (d'.toList.flatMap encE).toArray) os) none :=
        ⟨rfl, rfl, rfl, by simp [grow], fun k hk _ => heap_grow_old _ _ hk⟩
      have h2 := h1.kept hg2 (.inr (by simp [Value.ownBlock]))
      simpa [hsz] using h2
    · exact grown_putRow w g n _ os
end Go.Proofs.Ytkpmgdhaollheaa
