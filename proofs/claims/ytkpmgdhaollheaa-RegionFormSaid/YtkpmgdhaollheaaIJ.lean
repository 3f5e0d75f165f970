/- join, for spans of any number that a row can have. -/
import Derived.Test.YtkpmgdhaollheaaIP
namespace Go.Proofs.Ytkpmgdhaollheaa
open Go.RowKit

set_option maxHeartbeats 2000000 in
theorem joinB_any (v : Value) (l : List Sp) (s : Sp) (B : Nat) (w : World) (h : OwnAt w B 116 2 encS v l) (hB : B ≤ w.heap.size) (hl : l.length ≤ 200000000000) :
    Calls Try.prog 92 #[v, .agg #[.int .i64 s.1, .int .i64 s.2]] w fun e w' => ∃ v', e = .returned v' ∧ OwnAt w' B 116 2 encS v' (pushS l s) ∧ w.grownBy w' v.ownBlock := by
  obtain ⟨i0, hi, hz0, hz1, hz2⟩ := info_parts info_span
  rcases List.eq_nil_or_concat l with rfl | ⟨m, t, rfl⟩
  · obtain ⟨p, cap, hp⟩ := h.shape
    have hs0 : pushS [] s = [] ++ [s] := rfl
    rw [hs0]
    have hxs := h
    unfold OwnAt at hxs
    simp only [List.length_nil, List.flatMap_nil] at hxs hp
    subst hp
    have HX := Lib.hid hxs
    clear h hxs
    go_enter Try.func92, Try.ntmps92
    go_wp2
    go_quiet (fail)
    go_wp2_with (first | (at_builtin; refine wpList_append_own _ rfl _ _ 97 rfl B 116 i0 _ 2 16 Try.underlying97 hi hz0 hz1 hz2 rfl (by decide) _ 0 [] rfl ((own_drewN (HX.out.alloc _) _).alloc _) ⟨w.heap.size + 1, 0, none⟩ 1 1 [.int .i64 s.1, .int .i64 s.2] rfl rfl ?c1 ?c2 ?c3 ?c4 ?c5 ?_))
    case c1 => exact news_at (by simp)
    case c2 => exact List.all_eq_true.1 (by rfl)
    case c3 => decide
    case c4 => omega
    case c5 => simp; omega
    intro v' w1 hown1 hgrow _
    have HG := Lib.hid (gr_trans (gr_trans (gr_trans (World.grownBy_alloc w _ _) (gr_drewN _ nq _)) (World.grownBy_alloc _ _ _)) hgrow)
    have HO := Lib.hid (OwnAt.snoc (l := []) (m := [s]) (enc := encS) (n := 1) rfl hown1)
    clear hown1 hgrow
    go_wp2
    go_ret
    exact ⟨_, rfl, HO.out, HG.out⟩
  · rw [List.concat_eq_append] at *
    obtain ⟨g, cap, rfl, hBg, hg, hlc⟩ := h.form (by simp)
    obtain ⟨e1, e2⟩ := encS_get m t
    have hs := pushS_snoc t s m
    have hxs := h
    unfold OwnAt at hxs
    have hlen : (m ++ [t]).length = m.length + 1 := by simp
    rw [hlen] at hxs hl hlc ⊢
    have c1 : w.cell? ⟨g, m.length * 2 + 1, none⟩ = some (.int .i64 t.2) := by rw [hxs.cellAt _ (by omega), e2]
    have f1 : w.frozen? ⟨g, m.length * 2 + 1, none⟩ = false := hxs.frozenAt _
    have n1 : g ≠ w.heap.size := by omega
    have HX := Lib.hid hxs
    have HE := Lib.hid (encS_set m t s.2)
    clear h hxs e1 e2 hlen
    generalize hk : m.length = k at *
    have hk0 : (0 : Int) ≤ (k : Int) := by omega
    have hk1 : (k : Int) < (k : Int) + 1 := by omega
    by_cases he : t.2 = s.1
    · rw [if_pos he] at hs
      rw [hs]
      go_enter Try.func92, Try.ntmps92
      go_wp2
      go_quiet (fail)
      go_wp2
      go_ret
      obtain ⟨o1, o2⟩ := (own_drewN (HX.out.alloc (.cells #[.int .i64 s.1, .int .i64 s.2] 116)) nq).stored (k * 2 + 1) (.int .i64 s.2)
      refine ⟨_, rfl, ?_, gr_trans (gr_trans (World.grownBy_alloc w _ _) (gr_drewN _ nq _)) o2⟩
      unfold OwnAt
      rw [List.length_append, hk, ← HE.out]
      exact o1
    · rw [if_neg he] at hs
      rw [hs]
      have he' : (t.2 == s.1) = false := beq_eq_false_iff_ne.2 he
      obtain ⟨xs, hxe⟩ : ∃ xs, xs = (m ++ [t]).flatMap encS := ⟨_, rfl⟩
      rw [← hxe] at HX
      have HXE := Lib.hid hxe
      clear HE hxe
      go_enter Try.func92, Try.ntmps92
      go_wp2
      go_quiet (fail)
      go_wp2_with (first | (at_builtin; refine wpList_append_own _ rfl _ _ 97 rfl B 116 i0 _ 2 16 Try.underlying97 hi hz0 hz1 hz2 rfl (by decide) _ (k + 1) _ rfl ((own_drewN (HX.out.alloc _) _).alloc _) ⟨w.heap.size + 1, 0, none⟩ 1 1 [.int .i64 s.1, .int .i64 s.2] rfl rfl ?c1 ?c2 ?c3 ?c4 ?c5 ?_))
      case c1 => exact news_at (by simp)
      case c2 => exact List.all_eq_true.1 (by rfl)
      case c3 => unfold maxLen; omega
      case c4 => omega
      case c5 => simp; omega
      intro v' w1 hown1 hgrow _
      have HG := Lib.hid (gr_trans (gr_trans (gr_trans (World.grownBy_alloc w _ _) (gr_drewN _ nq _)) (World.grownBy_alloc _ _ _)) hgrow)
      have HO := Lib.hid (OwnAt.snoc (l := m ++ [t]) (m := [s]) (enc := encS) (n := 1) rfl (by rw [List.length_append, hk, ← HXE.out]; exact hown1))
      clear hown1 hgrow
      go_wp2
      go_ret
      exact ⟨_, rfl, by have := HO.out; rwa [List.append_assoc] at this, HG.out⟩
end Go.Proofs.Ytkpmgdhaollheaa
