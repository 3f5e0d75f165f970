/- divide. -/
import Derived.Test.YtdiogfjbjdiclaaExB
import Derived.Test.YtdiogfjbjdiclaaGreat2
import Derived.Test.YtdiogfjbjdiclaaDivMath
namespace Go.Proofs.Ytdiogfjbjdiclaa
open Go.RowKit Go.Sort Go.Shelf
variable {k : Nat}

/-- math/bits.Div64 answers the quotient and the remainder of this dividend. -/
def DivOk (x y : Nat) : Prop := ∀ w : World, Calls Try.prog 29 #[.int .u64 ((x / 18446744073709551616 : Nat) : Int), .int .u64 ((x % 18446744073709551616 : Nat) : Int), .int .u64 y] w fun e w' =>
  e = .returned (.tuple #[.int .u64 ((x / y : Nat) : Int), .int .u64 ((x % y : Nat) : Int)]) ∧ ∃ q, w' = w.drewN q

/-- The first loop: after j rounds. -/
structure DivPre (w w2 : World) (n T S : Nat) (ws : Nat → Nat) (j : Nat) : Prop where
  below : Below w.heap.size w w2
  size : w.heap.size + 2 = w2.heap.size
  shares : w2.rowIs w.heap.size 3 n (fun q => .int .i64 (if q < j then (baseF T S ws q : Int) else 0))
  rems : w2.rowIs (w.heap.size + 1) 49 n (fun q => .int .u64 (if q < j then (remF T S ws q : Int) else 0))

/-- What greatestFirst leaves: a row of indices, of which P holds. -/
def OrderPost (P : (Nat → Nat) → Prop) (b n : Nat) (w w' : World) : Prop :=
  ∃ f : Nat → Nat, P f ∧ Below w.heap.size w w' ∧ ∀ j, j < n → f j < n ∧ w'.cell? ⟨b, j, none⟩ = some (.int .i64 (f j))

/-- What divide leaves: the shares' row. -/
def DivPost (P : (Nat → Nat) → Prop) (w : World) (n T S : Nat) (ws : Nat → Nat) (w' : World) : Prop :=
  ∃ f : Nat → Nat, P f ∧ Below w.heap.size w w' ∧ w.heap.size < w'.heap.size ∧ (∀ j, j < n → f j < n) ∧
    w'.rowIs w.heap.size 3 n (fun q => .int .i64 (baseF T S ws q + among f (T - sumTo (baseF T S ws) n) q : Nat))

/-- The second loop: after t rounds. -/
structure DivAft (w w2 : World) (n T S : Nat) (ws f : Nat → Nat) (t : Nat) : Prop where
  below : Below w.heap.size w w2
  size : w.heap.size < w2.heap.size
  shares : w2.rowIs w.heap.size 3 n (fun q => .int .i64 (baseF T S ws q + among f t q : Nat))
  order : ∀ j, j < n → w2.cell? ⟨w.heap.size + 3, j, none⟩ = some (.int .i64 (f j))

theorem DivAft.step {w w2 : World} {n T S : Nat} {ws f : Nat → Nat} {t : Nat} (h : DivAft w w2 n T S ws f t) (htn : t < n) (hf : f t < n) :
    DivAft w (w2.setCell ⟨w.heap.size, f t, none⟩ (.int .i64 ((baseF T S ws (f t) + among f t (f t) + 1 : Nat) : Int))) n T S ws f (t + 1) where
  below := h.below.setCell (by simp) _
  size := by simpa using h.size
  shares := (h.shares.set (f t) _).congr (by
    intro q hq
    by_cases e : q = f t
    · subst e; simp [among]; omega
    · simp [among, e])
  order := by
    intro j hj
    rw [World.cell?_setCell_other _ _ _ _ (by intro e; simp only [Addr.mk.injEq] at e; omega)]
    exact h.order j hj

set_option maxHeartbeats 800000 in
theorem divide_of (n : Nat) (hn0 : 0 < n) (hn : n < 65) (T S : Nat) (hT : T ≤ 1099511627776) (hS : S ≤ 1125899906842624) (hS0 : 0 < S) (ws : Nat → Nat) (hs : sumTo ws n = S) (wb wo wc : Nat) (w : World)
    (P : (Nat → Nat) → Prop)
    (hG : ∀ w2, DivPre w w2 n T S ws n → Calls Try.prog 38 #[.slice (some ⟨w.heap.size + 1, 0, none⟩) n n] w2 fun e w' => e = .returned (.slice (some ⟨w.heap.size + 3, 0, none⟩) n n) ∧ OrderPost P (w.heap.size + 3) n w2 w')
    (hD : ∀ j, j < n → DivOk (T * ws j) S) (hwb : wb < w.heap.size) (hw : ∀ j, j < n → w.cell? ⟨wb, wo + j, none⟩ = some (.int .i64 (ws j))) :
    Calls Try.prog 36 #[.int .i64 T, .slice (some ⟨wb, wo, none⟩) n wc, .int .i64 S] w fun e w' => e = .returned (.slice (some ⟨w.heap.size, 0, none⟩) n n) ∧ DivPost P w n T S ws w' := by
  have hmk := fun w => run_make_row' (P := Try.prog) 22 3 (.int .i64 0) 8 Try.underlying22 info_int rfl .i64 .i64 n (by omega) (by omega) w
  have hmk2 := fun w => run_make_row' (P := Try.prog) 63 49 (.int .u64 0) 8 Try.underlying63 info_u64 rfl .i64 .i64 n (by omega) (by omega) w
  have hlf := left_facts T S n hS0 ws hs
  go_enter Try.func36, Try.ntmps36
  go_wp2
  have P0 : DivPre w ((w.alloc (Obj.cells (madeCells #[Value.int IntKind.i64 0] n) 3)).alloc (Obj.cells (madeCells #[Value.int IntKind.u64 0] n) 49)) n T S ws 0 :=
    ⟨((Below.refl _ _).alloc (Nat.le_refl _) _).alloc (by simp) _, by simp,
      by simpa using (World.rowIs_made w (.int .i64 0) n 3).alloc _,
      by simpa using World.rowIs_made (w.alloc (Obj.cells (madeCells #[Value.int IntKind.i64 0] n) 3)) (.int .u64 0) n 49⟩
  clear hmk hmk2
  generalize (w.alloc (Obj.cells (madeCells #[Value.int IntKind.i64 0] n) 3)).alloc (Obj.cells (madeCells #[Value.int IntKind.u64 0] n) 49) = w2 at P0 ⊢
  have HW := Lib.hid hw
  have HD := Lib.hid hD
  have HL := Lib.hid hlf
  have HS := Lib.hid hs
  have HG := Lib.hid hG
  clear hw hD hlf hs hG
  go_loopw [9, 27] (fun v9 v wr => ∃ j : Nat, j ≤ n ∧ v = .int .i64 j ∧ v9 = .int .i64 ((T : Int) - (sumTo (baseF T S ws) j : Nat)) ∧ DivPre w wr n T S ws j) (fun _ v _ => n - (intOf v).toNat)
  case atStart => exact ⟨0, Nat.zero_le _, rfl, by simp [sumTo], P0⟩
  case round =>
    clear P0
    obtain ⟨j, hj, rfl, rfl, P1⟩ := hrel
    by_cases hlt : j < n
    · have hc : wr.cell? ⟨wb, wo + j, none⟩ = some (.int .i64 (ws j)) := by rw [P1.below.cell (by exact hwb)]; exact HW.out j hlt
      have hwj : ws j ≤ S := HS.out ▸ le_sumTo ws hlt
      have hp := product_any T (ws j) wr (by omega) (by omega)
      have hd := HD.out j hlt
      have hbj := base_le T S n ws HS.out j hlt
      unfold DivOk at hd
      have HB : Hid (T * ws j / S = baseF T S ws j) := rfl
      have HR : Hid (T * ws j % S = remF T S ws j) := rfl
      have hrj : remF T S ws j < S := Nat.mod_lt _ hS0
      rw [HB.out, HR.out] at hd
      clear HB HR
      have hsum : sumTo (baseF T S ws) (j + 1) = sumTo (baseF T S ws) j + baseF T S ws j := rfl
      have hsT : sumTo (baseF T S ws) (j + 1) ≤ T := Nat.le_trans (sumTo_le _ hlt) HL.out.1
      rw [hsum] at hsT
      clear hsum
      have hc1 := P1.shares.cell hlt
      have hf1 := P1.shares.frozen j
      have hc2 := P1.rems.cell hlt
      have hf2 := P1.rems.frozen j
      have hnx : ∀ q : Nat, DivPre w ((wr.drewN q |>.setCell ⟨w.heap.size, j, none⟩ (.int .i64 (baseF T S ws j))).setCell ⟨w.heap.size + 1, j, none⟩ (.int .u64 (remF T S ws j))) n T S ws (j + 1) := fun q =>
        ⟨((Below.setCell (show Below w.heap.size w (wr.drewN q) from ⟨P1.below.os, P1.below.tape, P1.below.output, P1.below.size, P1.below.block⟩) (by simp) _).setCell (by simp) _), by simpa using P1.size,
          (World.rowIs.setOther (World.rowIs.set (show (wr.drewN q).rowIs w.heap.size _ n _ from P1.shares) j _) (by simp) _).congr (by
            intro i hi
            by_cases e : i = j
            · simp [e]
            · by_cases e2 : i < j
              · have : i < j + 1 := by omega
                simp [e, e2, this]
              · have : ¬ i < j + 1 := by omega
                simp [e, e2, this]),
          (World.rowIs.set (World.rowIs.setOther (show (wr.drewN q).rowIs (w.heap.size + 1) _ n _ from P1.rems) (by simp) _) j _).congr (by
            intro i hi
            by_cases e : i = j
            · simp [e]
            · by_cases e2 : i < j
              · have : i < j + 1 := by omega
                simp [e, e2, this]
              · have : ¬ i < j + 1 := by omega
                simp [e, e2, this])⟩
      have HN := Lib.hid hnx
      clear hnx P1
      have hsub : sumTo (baseF T S ws) (j + 1) = sumTo (baseF T S ws) j + baseF T S ws j := rfl
      have HSUB := Lib.hid hsub
      clear hsub
      generalize baseF T S ws j = bq at *
      generalize remF T S ws j = br at *
      generalize T * ws j / 18446744073709551616 = ph at *
      generalize T * ws j % 18446744073709551616 = pl at *
      go_wp2_with (first
        | (go_at_call 28; (with_reducible refine hp.mono ?_); rintro e w' ⟨rfl, rfl⟩)
        | (go_at_call 29; (with_reducible refine (hd _).mono ?_); rintro e w' ⟨rfl, q, rfl⟩))
      go_roundw
      case rel => exact ⟨j + 1, by omega, by go_num, by rw [HSUB.out]; go_num, HN.out q⟩
      case measure => simp [intOf]; omega
    · obtain rfl : j = n := by omega
      clear hlt
      obtain ⟨lf, hlf⟩ : ∃ lf, lf = T - sumTo (baseF T S ws) j := ⟨_, rfl⟩
      have elf : (T : Int) - (sumTo (baseF T S ws) j : Nat) = (lf : Int) := by
        have := HL.out.1
        omega
      have hlj : lf < j := by rw [hlf]; exact HL.out.2.1
      have hlj' : (lf : Int) ≤ (j : Int) := by omega
      rw [elf]
      clear elf
      have HLF := Lib.hid hlf
      clear hlf
      go_wp2_with (go_at_call 38; refine (HG.out _ P1).mono ?_; rintro e w' ⟨rfl, HO⟩)
      obtain ⟨f, hP, hB, hf⟩ := HO
      have A0 : DivAft w w' j T S ws f 0 := by
        have hsz := P1.size
        refine ⟨P1.below.trans (hB.mono (by omega)), by have := hB.size; omega, ?_, fun i hi => (hf i hi).2⟩
        refine (World.rowIs.of_block P1.shares (hB.block _ (by omega))).congr ?_
        intro q hq
        simp [hq, among]
      have HF : Hid (∀ i, i < j → f i < j) := fun i hi => (hf i hi).1
      have HBA : Hid (∀ q, q < j → baseF T S ws q ≤ T) := fun q hq => base_le T S j ws HS.out q hq
      clear hf hB P1 HG HW HD HL
      go_loopw [67] (fun v wr => ∃ t : Nat, t ≤ lf ∧ v = .int .i64 t ∧ DivAft w wr j T S ws f t) (fun v _ => lf - (intOf v).toNat)
      case atStart => exact ⟨0, Nat.zero_le _, rfl, A0⟩
      case round =>
        clear A0
        obtain ⟨t, ht, rfl, A1⟩ := hrel
        by_cases htl : t < lf
        · have htj : t < j := by omega
          have hc := A1.order t htj
          have hfj := HF.out t htj
          have hc1 := A1.shares.cell hfj
          have hf1 := A1.shares.frozen (f t)
          have hb1 := HBA.out (f t) hfj
          have hb2 := among_le f t (f t)
          have hnx := A1.step htj hfj
          have HN := Lib.hid hnx
          have hv : baseF T S ws (f t) + among f t (f t) ≤ 1099511627900 := by omega
          clear A1 hnx hb1 hb2
          generalize baseF T S ws (f t) + among f t (f t) = v at *
          go_wp2
          go_roundw
          case rel => exact ⟨t + 1, by omega, by go_num, HN.out⟩
          case measure => simp [intOf]; omega
        · obtain rfl : t = lf := by omega
          go_wp2
          go_ret
          exact ⟨rfl, f, hP, A1.below, A1.size, HF.out, by rw [← HLF.out]; exact A1.shares⟩

end Go.Proofs.Ytdiogfjbjdiclaa
