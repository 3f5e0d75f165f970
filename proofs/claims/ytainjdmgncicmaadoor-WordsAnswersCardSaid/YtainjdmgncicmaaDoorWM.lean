/- words.Decimal and words.Number. -/
import Derived.Test.YtainjdmgncicmaaDoorWN
namespace Go.Proofs.YtainjdmgncicmaaDoor
open Go.RowKit Go.Shelf

/-- What the library's variables hold. -/
structure Laid (w : World) : Prop where
  sp : Lib.TabIs Tryd.prog w "strings.asciiSpace" .u8 Lib.asciiSpaceTab
  pw : Lib.TabIs Tryd.prog w "internal/strconv.uint64pow10" .u64 Lib.pow10Tab
  es : ∃ tp p, w.var? Tryd.prog "strconv.ErrSyntax" = some #[.iface tp p]
  er : ∃ tp p, w.var? Tryd.prog "strconv.ErrRange" = some #[.iface tp p]
theorem Laid.below {w w' : World} (h : Laid w) (hb : Below w.heap.size w w') : Laid w' where
  sp := var_keep h.sp hb
  pw := var_keep h.pw hb
  es := by obtain ⟨tp, p, h⟩ := h.es; exact ⟨tp, p, var_keep h hb⟩
  er := by obtain ⟨tp, p, h⟩ := h.er; exact ⟨tp, p, var_keep h hb⟩

set_option maxHeartbeats 400000 in
theorem decimal_any (n : Int) (h0 : -9223372036854775808 ≤ n) (h1 : n ≤ 9223372036854775807) (w : World) (hL : Laid w) :
    Calls Tryd.prog 11 #[.int .i64 n] w fun e w' => e = .returned (.string ⟨(Lib.itoa n).toArray⟩) ∧ Below w.heap.size w w' := by
  have hI := Tryd.strconv_Itoa n h0 h1 w hL.pw
  generalize Lib.itoa n = l at *
  clear h0 h1
  go_enter Tryd.func11, Tryd.ntmps11
  go_wp2_with (go_at_call 25; (with_reducible refine hI.mono ?_); rintro e w' ⟨rfl, k, os, rfl⟩)
  go_ret
  exact ⟨rfl, Lib.below_grow _ _ (Nat.le_refl _) _ _⟩

/-- What Number answers. -/
def numR (l : List UInt8) (a b : Int) : Value :=
  match Lib.atoiAll l with
  | .ok v => if Lib.itoa v = l ∧ a ≤ v ∧ v ≤ b then .tuple #[.int .i64 v, .bool true] else .tuple #[.int .i64 0, .bool false]
  | _ => .tuple #[.int .i64 0, .bool false]

theorem numR_long {l : List UInt8} {a b : Int} (h : 20 < l.length) : numR l a b = .tuple #[.int .i64 0, .bool false] := by
  unfold numR
  rcases hv : Lib.atoiAll l with v | _ | _
  · simp only []
    rw [if_neg]
    rintro ⟨h1, _⟩
    have hr := atoi_range hv
    have := (itoa_len v hr.1 hr.2).1
    rw [h1] at this
    omega
  · rfl
  · rfl

theorem list_ne {t s : ByteArray} (h : ¬ t = s) : ¬ t.toList = s.toList := by
  intro e
  rw [Lib.toList_data, Lib.toList_data] at e
  apply h
  cases t; cases s
  simp at e
  rw [e]

theorem bytes_eq (l : List UInt8) (s : ByteArray) : (⟨l.toArray⟩ : ByteArray) = s ↔ l = s.data.toList := by
  constructor
  · rintro rfl; simp
  · rintro rfl; rfl

set_option maxHeartbeats 1000000 in
theorem number_any (s : ByteArray) (hs : s.size ≤ 281474976710656) (a b : Int) (w : World) (hL : Laid w) :
    Calls Tryd.prog 18 #[.string s, .int .i64 a, .int .i64 b] w fun e w' => e = .returned (numR s.data.toList a b) ∧ Below w.heap.size w w' := by
  by_cases hl : 20 < s.size
  · rw [numR_long (by simpa using hl)]
    have hl' : (20 : Int) < (s.size : Int) := by omega
    go_enter Tryd.func18, Tryd.ntmps18
    go_wp2_with fail
    go_ret2
    exact ⟨rfl, Below.refl _ _⟩
  · have hl' : ¬ (20 : Int) < (s.size : Int) := by omega
    rcases hv : Lib.atoiAll s.data.toList with v | _ | _
    · have hr := atoi_range hv
      have hA := Tryd.strconv_Atoi_ok s (by omega) v hv w
      have hD := fun w h => decimal_any v hr.1 hr.2 w h
      have HD := Lib.hid hD
      have HA := Lib.hid hA
      have hn : numR s.data.toList a b = if Lib.itoa v = s.data.toList ∧ a ≤ v ∧ v ≤ b then .tuple #[.int .i64 v, .bool true] else .tuple #[.int .i64 0, .bool false] := by unfold numR; rw [hv]
      have HN := Lib.hid hn
      generalize numR s.data.toList a b = R at *
      clear hn hA hD hv
      go_enter Tryd.func18, Tryd.ntmps18
      go_wp2_with fail
      refine HA.out.mono ?_
      rintro e w1 ⟨rfl, hw1⟩
      have hb1 : Below w.heap.size w w1 := by
        rcases hw1 with rfl | ⟨t, rfl⟩
        · exact Below.refl _ _
        · exact Lib.bytesWorld_below w _ t
      have hL1 := hL.below hb1
      have HD1 := Lib.hid (HD.out w1 hL1)
      clear hw1 HD hL1 HA
      have hiff := bytes_eq (Lib.itoa v) s
      by_cases e : Lib.itoa v = s.data.toList
      · have e2 := hiff.2 e
        rw [e2] at HD1
        by_cases h1 : a ≤ v
        · by_cases h2 : v ≤ b
          · have hR : R = .tuple #[.int .i64 v, .bool true] := by rw [HN.out, if_pos ⟨e, h1, h2⟩]
            have h1' : ¬ v < a := by omega
            have h2' : ¬ b < v := by omega
            have HR := Lib.hid hR
            clear e e2 hiff hR HN
            go_wp2_with (go_at_call 11; (with_reducible refine HD1.out.mono ?_); rintro e w2 ⟨rfl, hb2⟩)
            go_ret2
            exact ⟨by rw [HR.out]; rfl, hb1.trans (hb2.mono hb1.size)⟩
          · have hR : R = .tuple #[.int .i64 0, .bool false] := by rw [HN.out, if_neg (fun h => h2 h.2.2)]
            have h1' : ¬ v < a := by omega
            have h2' : b < v := by omega
            have HR := Lib.hid hR
            clear e e2 hiff hR HN
            go_wp2_with (go_at_call 11; (with_reducible refine HD1.out.mono ?_); rintro e w2 ⟨rfl, hb2⟩)
            go_ret2
            exact ⟨by rw [HR.out]; rfl, hb1.trans (hb2.mono hb1.size)⟩
        · have hR : R = .tuple #[.int .i64 0, .bool false] := by rw [HN.out, if_neg (fun h => h1 h.2.1)]
          have h1' : v < a := by omega
          have HR := Lib.hid hR
          clear e e2 hiff hR HN
          go_wp2_with (go_at_call 11; (with_reducible refine HD1.out.mono ?_); rintro e w2 ⟨rfl, hb2⟩)
          go_ret2
          exact ⟨by rw [HR.out]; rfl, hb1.trans (hb2.mono hb1.size)⟩
      · have hR : R = .tuple #[.int .i64 0, .bool false] := by rw [HN.out, if_neg (fun h => e h.1)]
        have e2 : ¬ (⟨(Lib.itoa v).toArray⟩ : ByteArray) = s := fun h => e (hiff.1 h)
        generalize (⟨(Lib.itoa v).toArray⟩ : ByteArray) = t at *
        have e3 := list_ne e2
        have e4 : (t.toList == s.toList) = false := beq_eq_false_iff_ne.2 e3
        have HR := Lib.hid hR
        clear e hiff hR HN
        go_wp2_with (go_at_call 11; (with_reducible refine HD1.out.mono ?_); rintro e w2 ⟨rfl, hb2⟩)
        all_goals (go_ret2; exact ⟨by rw [HR.out]; rfl, hb1.trans (hb2.mono hb1.size)⟩)
    · obtain ⟨tp, p, hes⟩ := hL.es
      have hA := Any.strconv_Atoi_syntax_var Tryd.laysC172 s hs hv tp p w hes
      have HA := Lib.hid hA
      have hn : numR s.data.toList a b = .tuple #[.int .i64 0, .bool false] := by unfold numR; rw [hv]
      rw [hn]
      clear hn hA hv
      go_enter Tryd.func18, Tryd.ntmps18
      go_wp2_with fail
      refine HA.out.mono ?_
      rintro e w1 ⟨N, rfl, _, _, hb⟩
      go_wp2_with fail
      go_ret2
      exact ⟨rfl, hb⟩
    · obtain ⟨tp, p, hes⟩ := hL.er
      have hA := Tryd.strconv_Atoi_range_var s hs hv tp p w hes
      have HA := Lib.hid hA
      have hn : numR s.data.toList a b = .tuple #[.int .i64 0, .bool false] := by unfold numR; rw [hv]
      rw [hn]
      clear hn hA hv
      go_enter Tryd.func18, Tryd.ntmps18
      go_wp2_with fail
      refine HA.out.mono ?_
      rintro e w1 ⟨N, rfl, _, _, hb⟩
      go_wp2_with fail
      go_ret2
      exact ⟨rfl, hb⟩
end Go.Proofs.YtainjdmgncicmaaDoor
