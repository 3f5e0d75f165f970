/- join: a span behind others, or the last one longer. -/
import Derived.Test.YtkpmgdhaollheaaGB
namespace Go.Proofs.Ytkpmgdhaollheaa
open Go.RowKit

theorem gr_trans {w1 w2 w3 : World} {row : Option Nat} (h : w1.grownBy w2 row) (g : w2.grownBy w3 row) : w1.grownBy w3 row :=
  ⟨g.os.trans h.os, g.tape.trans h.tape, g.output.trans h.output, Nat.le_trans h.size g.size, fun k hk hr => (g.block k (Nat.lt_of_lt_of_le hk h.size) hr).trans (h.block k hk hr)⟩
theorem gr_drewN (w : World) (n : Nat) (row : Option Nat) : w.grownBy (w.drewN n) row := ⟨rfl, rfl, rfl, Nat.le_refl _, fun _ _ _ => rfl⟩
theorem own_drewN {w : World} {B : Nat} {e : TypeId} {k n : Nat} {v : Value} {xs : List Value} (h : w.ownsRow B e k v n xs) (q : Nat) : (w.drewN q).ownsRow B e k v n xs := h
theorem OwnAt.form {α : Type} {w : World} {B : Nat} {e : TypeId} {k : Nat} {enc : α → List Value} {v : Value} {l : List α} (h : OwnAt w B e k enc v l) (hl : 0 < l.length) : ∃ g cap, v = .slice (some ⟨g, 0, none⟩) l.length cap ∧ B ≤ g ∧ g < w.heap.size ∧ l.length ≤ cap := by
  rcases h.2 with ⟨_, h0⟩ | ⟨g, cap, cur, rfl, hb, hg, hc, _⟩
  · omega
  · exact ⟨g, cap, rfl, hb, (Array.getElem?_eq_some_iff.1 hg).1, hc⟩
theorem OwnAt.shape {α : Type} {w : World} {B : Nat} {e : TypeId} {k : Nat} {enc : α → List Value} {v : Value} {l : List α} (h : OwnAt w B e k enc v l) : ∃ p cap, v = .slice p l.length cap := by
  rcases h.2 with ⟨rfl, h0⟩ | ⟨g, cap, cur, rfl, hb, hg, hc, _⟩
  · exact ⟨none, 0, by rw [h0]⟩
  · exact ⟨_, cap, rfl⟩

def encS (s : Sp) : List Value := [.int .i64 s.1, .int .i64 s.2]
theorem encS_len (l : List Sp) : (l.flatMap encS).length = l.length * 2 := by
  induction l with
  | nil => rfl
  | cons s l ih => rw [List.flatMap_cons, List.length_append, ih]; simp [encS]; omega

theorem info_span : (Try.prog.info? 116).map (fun i => (i.zero, i.size, i.bytes)) = some (some (.agg #[.int .i64 0, .int .i64 0]), 2, 16) := by kernel_rfl

theorem encS_set (l : List Sp) (s : Sp) (u : Int) : ((l ++ [s]).flatMap encS).set (l.length * 2 + 1) (.int .i64 u) = (l ++ [(s.1, u)]).flatMap encS := by
  rw [List.flatMap_append, List.flatMap_append, List.set_append_right _ _ (by rw [encS_len]; omega), encS_len]
  have : l.length * 2 + 1 - l.length * 2 = 1 := by omega
  rw [this]; rfl
theorem encS_get (l : List Sp) (s : Sp) : ((l ++ [s]).flatMap encS)[l.length * 2]? = some (.int .i64 s.1) ∧ ((l ++ [s]).flatMap encS)[l.length * 2 + 1]? = some (.int .i64 s.2) := by
  rw [List.flatMap_append, List.getElem?_append_right (by rw [encS_len]; omega), List.getElem?_append_right (by rw [encS_len]; omega), encS_len]
  have : l.length * 2 + 1 - l.length * 2 = 1 := by omega
  rw [this, Nat.sub_self]
  exact ⟨rfl, rfl⟩

set_option maxHeartbeats 2000000 in
theorem join_any (v : Value) (l : List Sp) (s : Sp) (B : Nat) (w : World) (h : OwnAt w B 116 2 encS v l) (hB : B ≤ w.heap.size) (hl : l.length ≤ 300000) :
    Calls Try.prog 92 #[v, .agg #[.int .i64 s.1, .int .i64 s.2]] w fun e w' => ∃ v', e = .returned v' ∧ OwnAt w' B 116 2 encS v' (pushS l s) ∧ w.grownBy w' v.ownBlock := by
  obtain ⟨i0, hi, hz0, hz1, hz2⟩ := info_parts info_span
  rcases List.eq_nil_or_concat l with rfl | ⟨m, t, rfl⟩
  · obtain ⟨p, cap, hp⟩ := h.shape
    have hs0 : pushS [] s = [] ++ [s] := rfl
    rw [hs0]
    have hxs := h
    unfold OwnAt at hxs
    simp only [List.length_nil, List.flatMap_nil] at hxs hp
    subst hp
    have HX := Lib.hid hxs
    clear h hxs
    go_enter Try.func92, Try.ntmps92
    go_wp2
    go_quiet (fail)
    go_wp2_with (first | (at_builtin; refine wpList_append_own _ rfl _ _ 97 rfl B 116 i0 _ 2 16 Try.underlying97 hi hz0 hz1 hz2 rfl (by decide) _ 0 [] rfl ((own_drewN (HX.out.alloc _) _).alloc _) ⟨w.heap.size + 1, 0, none⟩ 1 1 [.int .i64 s.1, .int .i64 s.2] rfl rfl ?c1 ?c2 ?c3 ?c4 ?c5 ?_))
    case c1 => exact news_at (by simp)
    case c2 => exact List.all_eq_true.1 (by rfl)
    case c3 => decide
    case c4 => omega
    case c5 => simp; omega
    intro v' w1 hown1 hgrow _
    have HG := Lib.hid (gr_trans (gr_trans (gr_trans (World.grownBy_alloc w _ _) (gr_drewN _ nq _)) (World.grownBy_alloc _ _ _)) hgrow)
    have HO := Lib.hid (OwnAt.snoc (l := []) (m := [s]) (enc := encS) (n := 1) rfl hown1)
    clear hown1 hgrow
    go_wp2
    go_ret
    exact ⟨_, rfl, HO.out, HG.out⟩
  · rw [List.concat_eq_append] at *
    obtain ⟨g, cap, rfl, hBg, hg, hlc⟩ := h.form (by simp)
    obtain ⟨e1, e2⟩ := encS_get m t
    have hs := pushS_snoc t s m
    have hxs := h
    unfold OwnAt at hxs
    have hlen : (m ++ [t]).length = m.length + 1 := by simp
    rw [hlen] at hxs hl hlc ⊢
    have c1 : w.cell? ⟨g, m.length * 2 + 1, none⟩ = some (.int .i64 t.2) := by rw [hxs.cellAt _ (by omega), e2]
    have f1 : w.frozen? ⟨g, m.length * 2 + 1, none⟩ = false := hxs.frozenAt _
    have n1 : g ≠ w.heap.size := by omega
    have HX := Lib.hid hxs
    have HE := Lib.hid (encS_set m t s.2)
    clear h hxs e1 e2 hlen
    generalize hk : m.length = k at *
    have hk0 : (0 : Int) ≤ (k : Int) := by omega
    have hk1 : (k : Int) < (k : Int) + 1 := by omega
    by_cases he : t.2 = s.1
    · rw [if_pos he] at hs
      rw [hs]
      go_enter Try.func92, Try.ntmps92
      go_wp2
      go_quiet (fail)
      go_wp2
      go_ret
      obtain ⟨o1, o2⟩ := (own_drewN (HX.out.alloc (.cells #[.int .i64 s.1, .int .i64 s.2] 116)) nq).stored (k * 2 + 1) (.int .i64 s.2)
      refine ⟨_, rfl, ?_, gr_trans (gr_trans (World.grownBy_alloc w _ _) (gr_drewN _ nq _)) o2⟩
      unfold OwnAt
      rw [List.length_append, hk, ← HE.out]
      exact o1
    · rw [if_neg he] at hs
      rw [hs]
      have he' : (t.2 == s.1) = false := beq_eq_false_iff_ne.2 he
      obtain ⟨xs, hxe⟩ : ∃ xs, xs = (m ++ [t]).flatMap encS := ⟨_, rfl⟩
      rw [← hxe] at HX
      have HXE := Lib.hid hxe
      clear HE hxe
      go_enter Try.func92, Try.ntmps92
      go_wp2
      go_quiet (fail)
      go_wp2_with (first | (at_builtin; refine wpList_append_own _ rfl _ _ 97 rfl B 116 i0 _ 2 16 Try.underlying97 hi hz0 hz1 hz2 rfl (by decide) _ (k + 1) _ rfl ((own_drewN (HX.out.alloc _) _).alloc _) ⟨w.heap.size + 1, 0, none⟩ 1 1 [.int .i64 s.1, .int .i64 s.2] rfl rfl ?c1 ?c2 ?c3 ?c4 ?c5 ?_))
      case c1 => exact news_at (by simp)
      case c2 => exact List.all_eq_true.1 (by rfl)
      case c3 => unfold maxLen; omega
      case c4 => omega
      case c5 => simp; omega
      intro v' w1 hown1 hgrow _
      have HG := Lib.hid (gr_trans (gr_trans (gr_trans (World.grownBy_alloc w _ _) (gr_drewN _ nq _)) (World.grownBy_alloc _ _ _)) hgrow)
      have HO := Lib.hid (OwnAt.snoc (l := m ++ [t]) (m := [s]) (enc := encS) (n := 1) rfl (by rw [List.length_append, hk, ← HXE.out]; exact hown1))
      clear hown1 hgrow
      go_wp2
      go_ret
      exact ⟨_, rfl, by have := HO.out; rwa [List.append_assoc] at this, HG.out⟩
end Go.Proofs.Ytkpmgdhaollheaa
