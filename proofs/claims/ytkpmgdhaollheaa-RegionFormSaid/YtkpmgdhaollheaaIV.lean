/- Squares: their rectangles. -/
import Derived.Test.YtkpmgdhaollheaaIQ
import Derived.Test.YtkpmgdhaollheaaGJ
import Derived.Lib.SliceRun
namespace Go.Proofs.Ytkpmgdhaollheaa
open Go.RowKit Go.Shelf

theorem oneBs (L : List BB) (h : ∀ b ∈ L, ∃ p c, b.v = .slice p b.c.length c) : ∀ u ∈ L.flatMap encB, u.oneCell' = true := by
  intro u hu
  obtain ⟨b, hb, hu⟩ := List.mem_flatMap.1 hu
  obtain ⟨p, c, e⟩ := h b hb
  simp only [encB, List.mem_cons, List.not_mem_nil, or_false] at hu
  rcases hu with rfl | rfl | rfl
  · rfl
  · rfl
  · rw [e]; rfl

set_option maxHeartbeats 2000000 in
set_option maxRecDepth 100000 in
theorem clone_any (v : Value) (L : List BB) (B : Nat) (w : World) (h : OwnAt w B 99 3 encB v L) (hl : L.length ≤ 200000000000) (hs : ∀ b ∈ L, ∃ p c, b.v = .slice p b.c.length c) :
    Calls Try.prog 94 #[v] w fun e w' => ∃ v', e = .returned v' ∧ OwnAt w' w.heap.size 99 3 encB v' L ∧ Below w.heap.size w w' := by
  obtain ⟨i0, hi, hz0, hz1, hz2⟩ := info_parts info_band
  have q22 : ∀ (w : World) (a : Option Addr) (n c n' c' : Nat), (binOp .eql 88 (.slice a n c) (.slice none n' c')).run Try.prog w = .ok (.bool a.isNone) w := fun w a n c n' c' => Lib.run_eql_slice_nil w _ _ a n c n' c' Try.underlying88
  rcases h.2 with ⟨rfl, h0⟩ | ⟨g, cap, cur, rfl, hBg, hcur, hx⟩
  · have e0 : L = [] := List.eq_nil_of_length_eq_zero h0
    subst e0
    clear h
    go_enter Try.func94, Try.ntmps94
    go_wp2
    go_ret
    exact ⟨_, rfl, OwnAt.nil .., Below.refl _ _⟩
  · have HN := Lib.hid (show ∀ j u, (L.flatMap encB)[j]? = some u → (w.alloc (.cells #[] 99)).cell? ((⟨g, 0, none⟩ : Addr).add j) = some u from
      fun j u hu => (World.grownBy_alloc w (.cells #[] 99) none).cell (World.ownsRow.cells h rfl j u hu) (by simp))
    have HLn := Lib.hid (encB_tot L)
    have HOne := Lib.hid (oneBs L hs)
    clear h hx hcur hs
    obtain ⟨n, hn⟩ : ∃ n, n = L.length := ⟨_, rfl⟩
    rw [← hn] at hl HLn ⊢
    have HNN := Lib.hid hn
    clear hn
    go_enter Try.func94, Try.ntmps94
    go_wp2_with (first | (at_builtin; refine wpList_append_own _ rfl _ _ 88 rfl w.heap.size 99 i0 _ 3 40 Try.underlying88 hi hz0 hz1 hz2 rfl (by decide) (.slice (some ⟨w.heap.size, 0, none⟩) 0 0) 0 [] rfl (World.ownsRow_made w #[] 0 (Nat.le_refl _) (by decide) rfl) ⟨g, 0, none⟩ n cap (L.flatMap encB) rfl HLn.out ?c1 ?c2 ?c3 ?c4 ?c5 ?_))
    case c1 => exact HN.out
    case c2 => exact HOne.out
    case c3 => unfold maxLen; omega
    case c4 => omega
    case c5 => simp
    intro v' w1 hown1 hgrow _
    have HO := Lib.hid hown1
    have HG := Lib.hid hgrow
    clear hown1 hgrow
    go_wp2
    go_ret
    refine ⟨_, rfl, ?_, Below.grown ((Below.refl _ _).alloc (Nat.le_refl _) _) HG.out (by simp) (fun k hk => by simp [Value.ownBlock] at hk; omega)⟩
    unfold OwnAt
    rw [← HNN.out]
    have := HO.out
    simpa using this

set_option maxHeartbeats 2000000 in
set_option maxRecDepth 100000 in
theorem rects_any (K B : Nat) (L : List BB) (vb : Value) (w : World) (h : SqAt w B K L vb) (hl : L.length ≤ 200000000000) (hc : ∀ b ∈ L, b.c.length ≤ 200000000000) (hfl : (flatB (settledB L)).length ≤ 200000000000) :
    Calls Try.prog 72 #[.pointer (some ⟨K, 0, none⟩)] w fun e w' => ∃ v', e = .returned v' ∧ OwnAt w' w.heap.size 39 4 encR v' (flatB (settledB L)) ∧ Below w.heap.size w w' := by
  have k0 : w.cell? ⟨K, 0, none⟩ = some vb := h.box.cell (i := 0) rfl
  have HCl := Lib.hid (clone_any vb L B w h.own hl (fun b hb => by obtain ⟨p, c, e⟩ := (h.sp b hb).shape; exact ⟨p, c, e⟩))
  have HSp := Lib.hid h.sp
  have HC := Lib.hid hc
  have HLs := Lib.hid (Nat.le_trans (settledB_len L) hl)
  obtain ⟨p, cap, rfl⟩ := h.own.shape
  clear h hc
  go_enter Try.func72, Try.ntmps72
  go_wp2_with fail
  refine Calls.mono HCl.out ?_
  rintro e w1 ⟨v1, rfl, h1, hb1⟩
  have HS1 := Lib.hid (settled_any v1 L w.heap.size w1 h1 hl (fun b hb => ⟨((HSp.out b hb).kept hb1).rd (fun _ => rfl), HC.out b hb⟩))
  have HB1 := Lib.hid hb1
  have H1 := Lib.hid h1
  clear h1 hb1 k0
  go_wp2_with fail
  refine Calls.mono HS1.out ?_
  rintro e w2 ⟨v2, rfl, h2, hg2, hz2⟩
  clear hz2
  have hb2 : Below w.heap.size w w2 := HB1.out.grown hg2 HB1.out.size (ownsRow_ge H1.out)
  have hsp2 : ∀ b ∈ settledB L, RowRd w2 2 encS b.v b.c ∧ b.c.length ≤ 200000000000 := settledB_mem (Q := fun v c => RowRd w2 2 encS v c ∧ c.length ≤ 200000000000) fun b hb => ⟨((HSp.out b hb).kept hb2).rd (fun _ => rfl), HC.out b hb⟩
  have HR2 := Lib.hid (rectsOf_any v2 (settledB L) w.heap.size w2 h2 HLs.out hfl hsp2)
  have HB2 := Lib.hid hb2
  clear h2 hg2 hb2 hsp2
  go_wp2_with fail
  refine Calls.mono HR2.out ?_
  rintro e w3 ⟨v3, rfl, h3, hb3⟩
  have HB3 := Lib.hid (below_step HB2.out hb3)
  have H3 := Lib.hid h3
  have HZ := Lib.hid HB2.out.size
  clear h3 hb3
  go_wp2
  go_ret
  exact ⟨_, rfl, World.ownsRow.mono H3.out HZ.out, HB3.out⟩
end Go.Proofs.Ytkpmgdhaollheaa
