/- The law of a range over an iterator that holds memory of its own, where a round may leave through more loops than one. -/
import Derived.Test.YtkpmgdhaollheaaIA
namespace Go.Proofs.Ytkpmgdhaollheaa
open Go.RowKit Go.Shelf

attribute [local go_sem] Oper.semAt_some

/-- The word of a round that leaves: whatever is no cells from B on lies as it lay. -/
structure KeepB (B : Nat) (W W' : World) : Prop where
  size : W.heap.size ≤ W'.heap.size
  block : ∀ (k : Nat) (o : Obj), B ≤ k → W.heap[k]? = some o → o.isCells = false → W'.heap[k]? = some o
theorem KeepB.mono {B C : Nat} {W W' : World} (h : KeepB B W W') (hB : B ≤ C) : KeepB C W W' := ⟨h.size, fun k o hk => h.block k o (by omega)⟩
theorem KeepB.trans {B : Nat} {X Y Z : World} (h : KeepB B X Y) (k : KeepB B Y Z) : KeepB B X Z := ⟨Nat.le_trans h.size k.size, fun i o hB hi ho => k.block i o hB (h.block i o hB hi ho) ho⟩
theorem ofU_no {U : List TypeId} (hU : U.contains NC = true) {o : Obj} (ho : o.isCells = false) : ofU U o = true := by cases o <;> first | exact hU | cases ho
theorem KeepB.of_keep {B : Nat} {U : List TypeId} (hU : U.contains NC = true) {W W' : World} (h : Keep U W W') : KeepB B W W' := ⟨h.size, fun k o _ hk ho => h.block k o hk (ofU_no hU ho)⟩

/-- THE CONTRACT OF AN ITERATOR: S: what may come as a whole; Sp: as a beginning. -/
def SeqX {α : Type} (P : Program) (gf : Nat) (lb : Array Value) (U : List TypeId) (encs : α → Array Value) (S Sp : List α → Prop) (w : World) : Prop :=
  ∀ (l : Nat) (J Jx : List α → World → Prop) (W : World), Below w.heap.size w W → Abid U W.heap.size J → Abid U W.heap.size Jx →
    (∀ pre x W1, J pre W1 → Sp (pre ++ [x]) → YieldAt Fence.wide 0 P l (encs x) W1 fun e W' =>
      (e = .returned (.bool true) ∧ J (pre ++ [x]) W' ∧ Keep U W1 W') ∨ (e = .returned (.bool false) ∧ Jx (pre ++ [x]) W' ∧ KeepB W.heap.size W1 W')) →
    J [] W →
    CallsIn Fence.wide 0 P gf (#[.func (.yield l) #[] #[]] ++ lb) W fun e W' => (∃ v, e = .returned v) ∧ ((∃ xs, S xs ∧ J xs W') ∨ (∃ pre, Jx pre W'))

/-- How a round's body may be left. -/
def postX {α : Type} (B : Nat) (U : List TypeId) (I : List α → World → Prop) (Ix : Code → List α → World → Prop) (xs : List α) (W : World) : Exit → Act → World → Prop
  | .normal, _, W' => Keep U W W' ∧ I xs W'
  | .ret, _, W' => KeepB B W W' ∧ Ix .ret xs W'
  | .exit id, _, W' => KeepB B W W' ∧ Ix (.exit id) xs W'
  | .goto t, _, W' => KeepB B W W' ∧ Ix (.goto t) xs W'
  | .panic _, _, _ => False
  | .outgrown, _, _ => False

/-- THE LAW OF THE STATEMENT. -/
theorem range_X {α : Type} {P : Program} {g : Operand} {ps : Array Tmp} {assign body : Code} {Q : Exit → Act → World → Prop} {a : Act} {w : World}
    {gf : Nat} {lb : Array Value} (hg : a.eval g = .func (.func gf) #[] lb) (eg : ∀ args w, (callFunc gf args).run P w = .ok (.enter gf args) w)
    {U : List TypeId} (hU : U.contains NC = true) {encs : α → Array Value} {S Sp : List α → Prop} (hseq : SeqX P gf lb U encs S Sp w) (hps : ∀ x, (encs x).size = ps.size)
    (I : List α → World → Prop) (Ix : Code → List α → World → Prop) (hI : Abid U w.heap.size I) (hIx : ∀ c, Abid U w.heap.size (Ix c)) (h0 : I [] w)
    (hround : ∀ (l : Nat) (pre : List α) (x : α) (W : World), I pre W → Sp (pre ++ [x]) → w.heap.size ≤ l → l < W.heap.size →
      assign.wpIn (Fence.wide.inRound l) 0 P (Exit.then (fun a₁ W1 => Below W.heap.size W W1 ∧ ∀ W2, W1.grownBy W2 (some l) → W2.heap.size = W1.heap.size → I pre W2 →
        body.wpIn (Fence.wide.inRound l) 0 P (postX w.heap.size U I Ix (pre ++ [x]) W2) a₁ W2) (fun _ _ _ => False))
        { tmps := (ps.zip (encs x)).foldl (fun t (p, v) => t.setIfInBounds p v) a.tmps, defers := [] } W)
    (hdone : ∀ (D : Nat) (xs : List α) (W : World), w.heap.size ≤ D → S xs → I xs W → W.heap[D]? = some (.deferred (some [])) → Q .normal { a with defers := { target := .collected D, args := #[] } :: a.defers } W)
    (hstop : ∀ (D : Nat) (c : Code) (pre : List α) (W : World), w.heap.size ≤ D → Ix c pre W → W.heap[D]? = some (.deferred (some [])) → c.wpIn Fence.wide 0 P Q { a with defers := { target := .collected D, args := #[] } :: a.defers } W) :
    (Code.rangeFunc g ps assign body).wpIn Fence.wide 0 P Q a w := by
  refine wpIn_rangeFunc ?_
  intro fn hfn
  obtain ⟨rec, hrec⟩ : ∃ rec : LoopState → Option Code → Loop, rec = fun st pe => { state := st, pending := pe, fn, tmps := a.tmps, params := ps, assign, body, defers := w.heap.size } := ⟨_, rfl⟩
  have hrs : ∀ s p, (rec s p).state = s := fun s p => by rw [hrec]
  have hrp : ∀ s p, (rec s p).pending = p := fun s p => by rw [hrec]
  obtain ⟨W1, hW1⟩ : ∃ W1, W1 = (w.alloc (.deferred (some []))).alloc (.loop (rec .ready none)) := ⟨_, rfl⟩
  have hB1 : Below w.heap.size w W1 := by rw [hW1]; exact ((Below.refl _ _).alloc (Nat.le_refl _) _).alloc (by simp) _
  have hs1 : W1.heap.size = w.heap.size + 2 := by rw [hW1]; simp
  have hL1 : W1.heap[w.heap.size + 1]? = some (.loop (rec .ready none)) := by
    have h := World.alloc_heap_new (w.alloc (.deferred (some []))) (.loop (rec .ready none))
    rw [World.size_alloc] at h
    rw [hW1]; exact h
  have hK1 : W1.heap[w.heap.size]? = some (.deferred (some [])) := by
    rw [hW1]; exact (Below.heap_alloc _ _ _ (by simp)).trans (World.alloc_heap_new w _)
  have hT1 : ∀ pre, I pre w → I pre W1 := fun pre h => hI pre w W1 h (Turn.of_below hB1)
  refine ⟨w.heap.size + 1, [{ target := .collected w.heap.size, args := #[] }], W1, { target := .fn (.func gf) lb, args := #[.func (.yield (w.heap.size + 1)) #[] #[]] }, W1, gf,
    #[.func (.yield (w.heap.size + 1)) #[] #[]] ++ lb, W1, ?_, ?_, fun _ _ => trivial, ?_, fun h => (by cases h), ?_⟩
  · rw [hW1, hrec]; exact run_enterLoop_outer _ _ _ _ _
  · simp only [resolve, hg]
    simp [go_sem]
  · simp [invoke, go_sem, eg]
  · have two : ∀ {X Y : World} (_ : Turn U W1.heap.size X Y) {b : Nat} {o : Obj}, b < W1.heap.size → X.heap[b]? = some o → Y.heap[b]? = some o := fun ht _ _ hb ho => ht.block _ _ ho (.inl hb)
    have up : ∀ {X Y : World}, Turn U W1.heap.size X Y → Turn U w.heap.size X Y := fun ht => ht.mono (by omega) (fun _ h => h)
    refine (hseq (w.heap.size + 1) (fun pre W => I pre W ∧ W.heap[w.heap.size + 1]? = some (.loop (rec .ready none)) ∧ W.heap[w.heap.size]? = some (.deferred (some [])))
      (fun pre W => ∃ c, Ix c pre W ∧ W.heap[w.heap.size + 1]? = some (.loop (rec .done (some c))) ∧ W.heap[w.heap.size]? = some (.deferred (some []))) W1 hB1 ?_ ?_ ?_ ⟨hT1 _ h0, hL1, hK1⟩).mono ?_
    · rintro s X Y ⟨k1, k2, k3⟩ ht
      exact ⟨hI _ _ _ k1 (up ht), two ht (by omega) k2, two ht (by omega) k3⟩
    · rintro s X Y ⟨c, k1, k2, k3⟩ ht
      exact ⟨c, hIx c _ _ _ k1 (up ht), two ht (by omega) k2, two ht (by omega) k3⟩
    · rintro pre x W ⟨hi, hl, hk⟩ hsp
      have hlt : w.heap.size + 1 < W.heap.size := (Array.getElem?_eq_some_iff.1 hl).1
      have hy := run_yield (P := P) (args := encs x) hl (by rw [hrec]; exact hps x)
      refine ⟨_, _, _, _, hy, ?_⟩
      clear hy
      have e1 : (rec .ready none).fn = fn := by rw [hrec]
      have e2 : (rec .ready none).params = ps := by rw [hrec]
      have e3 : (rec .ready none).tmps = a.tmps := by rw [hrec]
      have e4 : (rec .ready none).assign = assign := by rw [hrec]
      have e5 : (rec .ready none).body = body := by rw [hrec]
      rw [e1, e2, e3, e4, e5]
      refine roundIn_of_wpIn hfn (wpIn_mono (hround (w.heap.size + 1) pre x W hi hsp (by omega) hlt) ?_)
      rintro e a1 Wa hp
      cases e with
      | normal =>
        obtain ⟨hba, hgo⟩ := hp
        have hla := (hba.block _ hlt).trans hl
        have hka := (hba.block _ (by omega)).trans hk
        have hlta : w.heap.size + 1 < Wa.heap.size := by have := hba.size; omega
        refine ⟨_, run_beginRound hla (hrs _ _), ?_⟩
        have hst : ({ rec .ready none with state := .busy } : Loop) = rec .busy none := by rw [hrec]
        rw [hst]
        have hl2 : (Wa.putObj (w.heap.size + 1) (.loop (rec .busy none))).heap[w.heap.size + 1]? = some (.loop (rec .busy none)) := World.putObj_heap_same hlta
        have hk2 : (Wa.putObj (w.heap.size + 1) (.loop (rec .busy none))).heap[w.heap.size]? = some (.deferred (some [])) := (World.putObj_heap_other (by omega)).trans hka
        have hg2 : Wa.grownBy (Wa.putObj (w.heap.size + 1) (.loop (rec .busy none))) (some (w.heap.size + 1)) := grownBy_putObj' _ _ _
        have ht2 : Turn U w.heap.size W (Wa.putObj (w.heap.size + 1) (.loop (rec .busy none))) :=
          (Turn.of_below hba).trans (Turn.of_grown hg2 fun r e => by cases e; exact ⟨by omega, _, hla, hU⟩)
        have keep : ∀ {W3 W4 : World} {st : LoopState} {pe : Option Code}, Keep U (Wa.putObj (w.heap.size + 1) (.loop (rec .busy none))) W3 → W4 = W3.putObj (w.heap.size + 1) (.loop (rec st pe)) → w.heap.size + 1 < W3.heap.size → st = .ready → pe = none → Keep U W W4 := by
          rintro W3 W4 st pe hkp rfl h3 rfl rfl
          refine ⟨?_, fun k o hk' ho => ?_⟩
          · have h1 := hba.size; have h2 := hkp.size; simp at h2 ⊢; omega
          · by_cases ek : k = w.heap.size + 1
            · subst ek
              rw [hl] at hk'; cases hk'
              exact World.putObj_heap_same h3
            · rw [World.putObj_heap_other ek]
              refine hkp.block k o ?_ ho
              rw [World.putObj_heap_other ek]
              exact (hba.block k (Array.getElem?_eq_some_iff.1 hk').1).trans hk'
        refine wpIn_mono (hgo _ hg2 (by simp) (hI _ _ _ hi ht2)) ?_
        have fin : ∀ (jump : Option Code) (W3 : World), Keep U (Wa.putObj (w.heap.size + 1) (.loop (rec .busy none))) W3 →
            (Instr.endRound (w.heap.size + 1) jump).run P W3 = .ok (.bool jump.isNone) (W3.putObj (w.heap.size + 1) (.loop (rec (if jump.isNone then .ready else .done) jump))) ∧
            W3.heap[w.heap.size + 1]? = some (.loop (rec .busy none)) ∧ w.heap.size + 1 < W3.heap.size ∧
            (W3.putObj (w.heap.size + 1) (.loop (rec (if jump.isNone then .ready else .done) jump))).heap[w.heap.size + 1]? = some (.loop (rec (if jump.isNone then .ready else .done) jump)) ∧
            (W3.putObj (w.heap.size + 1) (.loop (rec (if jump.isNone then .ready else .done) jump))).heap[w.heap.size]? = some (.deferred (some [])) := fun jump W3 hk3 => by
          have hl3 := hk3.block _ _ hl2 hU
          have hlt3 := (Array.getElem?_eq_some_iff.1 hl3).1
          have hr := run_endRound (P := P) jump hl3
          have hst3 : ({ rec .busy none with state := if jump.isNone then .ready else .done, pending := jump } : Loop) = rec (if jump.isNone then .ready else .done) jump := by rw [hrec]
          rw [hst3] at hr
          exact ⟨hr, hl3, hlt3, World.putObj_heap_same hlt3, (World.putObj_heap_other (by omega)).trans (hk3.block _ _ hk2 hU)⟩
        have finB : ∀ (jump : Option Code) (W3 : World), KeepB w.heap.size (Wa.putObj (w.heap.size + 1) (.loop (rec .busy none))) W3 →
            (Instr.endRound (w.heap.size + 1) jump).run P W3 = .ok (.bool jump.isNone) (W3.putObj (w.heap.size + 1) (.loop (rec (if jump.isNone then .ready else .done) jump))) ∧
            W3.heap[w.heap.size + 1]? = some (.loop (rec .busy none)) ∧ w.heap.size + 1 < W3.heap.size ∧
            (W3.putObj (w.heap.size + 1) (.loop (rec (if jump.isNone then .ready else .done) jump))).heap[w.heap.size + 1]? = some (.loop (rec (if jump.isNone then .ready else .done) jump)) ∧
            (W3.putObj (w.heap.size + 1) (.loop (rec (if jump.isNone then .ready else .done) jump))).heap[w.heap.size]? = some (.deferred (some [])) := fun jump W3 hk3 => by
          have hl3 := hk3.block _ _ (by omega) hl2 rfl
          have hlt3 := (Array.getElem?_eq_some_iff.1 hl3).1
          have hr := run_endRound (P := P) jump hl3
          have hst3 : ({ rec .busy none with state := if jump.isNone then .ready else .done, pending := jump } : Loop) = rec (if jump.isNone then .ready else .done) jump := by rw [hrec]
          rw [hst3] at hr
          exact ⟨hr, hl3, hlt3, World.putObj_heap_same hlt3, (World.putObj_heap_other (by omega)).trans (hk3.block _ _ (Nat.le_refl _) hk2 rfl)⟩
        have keepB : ∀ {W3 W4 : World} {o : Obj}, KeepB w.heap.size (Wa.putObj (w.heap.size + 1) (.loop (rec .busy none))) W3 → W4 = W3.putObj (w.heap.size + 1) o → KeepB W1.heap.size W W4 := by
          rintro W3 W4 o hkp rfl
          refine ⟨?_, fun k o hB hk' ho => ?_⟩
          · have h1 := hba.size; have h2 := hkp.size; simp at h2 ⊢; omega
          · have ek : k ≠ w.heap.size + 1 := by omega
            rw [World.putObj_heap_other ek]
            refine hkp.block k o (by omega) ?_ ho
            rw [World.putObj_heap_other ek]
            exact (hba.block k (Array.getElem?_eq_some_iff.1 hk').1).trans hk'
        have tn : ∀ {W3 : World} (o : Obj), W3.heap[w.heap.size + 1]? = some (.loop (rec .busy none)) → Turn U w.heap.size W3 (W3.putObj (w.heap.size + 1) o) := fun o h3 =>
          Turn.of_grown (grownBy_putObj' _ _ _) fun r e => by cases e; exact ⟨by omega, _, h3, hU⟩
        rintro e a3 W3 hp
        cases e with
        | normal =>
          obtain ⟨hk3, hi3⟩ := hp
          obtain ⟨hr, hl3, hlt3, hl4, hk4⟩ := fin none W3 hk3
          exact ⟨_, _, hr, .inl ⟨rfl, ⟨hI _ _ _ hi3 (tn _ hl3), hl4, hk4⟩, keep hk3 rfl hlt3 rfl rfl⟩⟩
        | ret =>
          obtain ⟨hk3, hi3⟩ := hp
          obtain ⟨hr, hl3, hlt3, hl4, hk4⟩ := finB (some .ret) W3 hk3
          exact ⟨_, _, hr, .inr ⟨rfl, ⟨.ret, hIx _ _ _ _ hi3 (tn _ hl3), hl4, hk4⟩, keepB hk3 rfl⟩⟩
        | exit id =>
          obtain ⟨hk3, hi3⟩ := hp
          obtain ⟨hr, hl3, hlt3, hl4, hk4⟩ := finB (some (.exit id)) W3 hk3
          exact ⟨_, _, hr, .inr ⟨rfl, ⟨.exit id, hIx _ _ _ _ hi3 (tn _ hl3), hl4, hk4⟩, keepB hk3 rfl⟩⟩
        | goto t =>
          obtain ⟨hk3, hi3⟩ := hp
          obtain ⟨hr, hl3, hlt3, hl4, hk4⟩ := finB (some (.goto t)) W3 hk3
          exact ⟨_, _, hr, .inr ⟨rfl, ⟨.goto t, hIx _ _ _ _ hi3 (tn _ hl3), hl4, hk4⟩, keepB hk3 rfl⟩⟩
        | panic ch => exact hp.elim
        | outgrown => exact hp.elim
      | _ => exact hp.elim
    · have tn : ∀ {W3 : World} {r : Loop} (o : Obj), W3.heap[w.heap.size + 1]? = some (.loop r) → Turn U w.heap.size W3 (W3.putObj (w.heap.size + 1) o) := fun o h3 =>
        Turn.of_grown (grownBy_putObj' _ _ _) fun r e => by cases e; exact ⟨by omega, _, h3, hU⟩
      rintro e W2 ⟨⟨v, rfl⟩, ⟨xs, hS, hi, hl, hk⟩ | ⟨pre, c, hi, hl, hk⟩⟩
      · have hr := run_endLoop (P := P) hl (by rw [hrs]; simp)
        rw [hrp] at hr
        exact ⟨none, _, hr, hdone _ xs _ (Nat.le_refl _) hS (hI _ _ _ hi (tn _ hl)) ((World.putObj_heap_other (by omega)).trans hk)⟩
      · have hr := run_endLoop (P := P) hl (by rw [hrs]; simp)
        rw [hrp] at hr
        exact ⟨some c, _, hr, hstop _ c pre _ (Nat.le_refl _) (hIx _ _ _ _ hi (tn _ hl)) ((World.putObj_heap_other (by omega)).trans hk)⟩

end Go.Proofs.Ytkpmgdhaollheaa
