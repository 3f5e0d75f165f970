/- Of: its region lies in a row of its own. -/
import Derived.Test.YtdpnkbbphfcngabGN
namespace Go.Proofs.Ytdpnkbbphfcngab
open Go.RowKit Go.Shelf

/-- What comes back: a region in a row of its own, and an error. -/
def RetO (B : Nat) (w' : World) (e : Ending) (Q : List Rc → Int → Prop) : Prop := ∃ v l c, e = .returned (.tuple #[.agg #[v], .int .i64 c]) ∧ OwnAt w' B 49 4 encR v l ∧ Q l c

set_option maxHeartbeats 1000000 in
set_option maxRecDepth 100000 in
theorem limited_own (v : Value) (out : List Rc) (B : Nat) (w : World) (h : OwnAt w B 49 4 encR v out) (hl : out.length ≤ 1000000000000) :
    Calls Try.prog 44 #[v] w fun e w' => RetO B w' e (LimR out) ∧ Below w.heap.size w w' := by
  have H := Lib.hid h
  obtain ⟨p, cap, rfl⟩ := h.shape
  obtain ⟨n, hn⟩ : ∃ n, n = out.length := ⟨_, rfl⟩
  rw [← hn] at H ⊢
  have N := Lib.hid hn
  have hn' : (n : Int) ≤ 1000000000000 := by omega
  clear h hn
  by_cases hl : n ≤ 120
  · have hl' : ¬ ((120 : Int) < (n : Int)) := by omega
    go_enter Try.func44, Try.ntmps44
    go_wp2
    refine bodyPost_ret (ret_re rfl rfl rfl (BoxAt.new w _ _)) rfl ⟨⟨.slice p n cap, out, 0, rfl, ?_, .inr ⟨by rw [← N.out]; exact hl, rfl, rfl⟩⟩, ?_⟩
    · exact H.out.alloc _
    · exact (Below.refl _ _).alloc (Nat.le_refl _) _
  · have hl' : (120 : Int) < (n : Int) := by omega
    go_enter Try.func44, Try.ntmps44
    go_wp2
    refine bodyPost_ret (ret_re rfl rfl rfl (BoxAt.new w _ _)) rfl ⟨⟨_, [], 1, rfl, OwnAt.nil .., .inl ⟨by rw [← N.out]; omega, rfl, rfl⟩⟩, ?_⟩
    exact (Below.refl _ _).alloc (Nat.le_refl _) _

set_option maxHeartbeats 1000000 in
set_option maxRecDepth 100000 in
theorem of_own (v : Value) (l : List Rc) (w : World) (h : RectsAt w v l) :
    Calls Try.prog 26 #[v] w fun e w' => RetO w.heap.size w' e (OfR l) ∧ Below w.heap.size w w' := by
  have HP := Lib.hid (fun (w' : World) (hb : Below w.heap.size w w') => allProper_any v l w' (h.below hb))
  have HR := Lib.hid h
  obtain ⟨p, cap, rfl⟩ := h.shape
  obtain ⟨n, hn⟩ : ∃ n, n = l.length := ⟨_, rfl⟩
  have hm : n ≤ maxLen := by obtain ⟨_, _, e, hm, _⟩ := h; rw [hn]; exact hm
  rw [← hn] at HP HR ⊢
  have hm' : (n : Int) ≤ 9223372036854775807 := by unfold maxLen at hm; omega
  have N := Lib.hid hn
  clear h hn
  by_cases hl : n ≤ 120
  · have hl' : ¬ ((120 : Int) < (n : Int)) := by omega
    by_cases ha : allP l = true
    · have hp := allP_iff.1 ha
      rw [ha] at HP
      have HC := Lib.hid (fun (w' : World) (hb : Below w.heap.size w w') => choose1_any (fun m => decide (m = 1)) 45 keepOf rfl (.slice p n cap) l w' (HR.out.below hb) (by rw [← N.out]; omega) fun r hr => (hp r hr).2.1)
      have HA := Lib.hid ha
      clear ha hp
      go_enter Try.func26, Try.ntmps26
      go_wp2_with (first
        | (go_at_call 43; refine Calls.mono (HP.out _ ((Below.refl _ _).alloc (Nat.le_refl _) _)) ?_; rintro e w1 ⟨rfl, hb⟩; have hbx := Lib.hid ((BoxAt.new w #[.slice none 0 0] 25).below hb); have HB := Lib.hid (below_new hb); clear hb)
        | (go_at_call 28; refine Calls.mono (HC.out _ HB.out) ?_; rintro e w2 ⟨v2, out, rfl, ho, hcan, hlen, hb⟩; have bx2 := Lib.hid (hbx.out.below hb); have HB2 := Lib.hid (below_step HB.out hb); have HO := Lib.hid ho; have HCan := Lib.hid hcan; have HLen := Lib.hid (lim8 hlen (by rw [← N.out]; omega)); obtain ⟨p2, k2, rfl⟩ := ho.shape; clear hb ho hcan hlen)
        | (go_at_call 44; refine Calls.mono (limited_own _ out w1.heap.size _ HO.out HLen.out) ?_; rintro e w3 ⟨⟨v3, l3, e3, rfl, hr3, hL3⟩, hb⟩; have bx3 := bx2.out.below hb; have c3 := bx3.cell (i := 0) rfl; have f3 := bx3.free 0; have HB3 := Lib.hid (below_step HB2.out hb); have HR3 := Lib.hid hr3; have HZ := Lib.hid HB.out.size; have HL3 := Lib.hid hL3; have HX3 := Lib.hid bx3; obtain ⟨p3, k3, rfl⟩ := hr3.shape; clear hb hr3 hL3 bx3))
      have hlt := hbx.out.lt
      refine bodyPost_ret (ret_re rfl rfl rfl (HX3.out.set 0 (.slice p3 l3.length k3))) rfl ⟨⟨_, l3, e3, rfl, own_box HX3.out (by decide) (HR3.out.mono (by have := HZ.out; omega)), .inr (.inr ⟨by rw [← N.out]; exact hl, HA.out, out, ?_, HL3.out⟩)⟩, HB3.out.setCell (Nat.le_refl _) _⟩
      exact HCan.out
    · have ha' : allP l = false := by simpa using ha
      rw [ha'] at HP
      have HA := Lib.hid ha'
      clear ha ha'
      go_enter Try.func26, Try.ntmps26
      go_wp2_with (go_at_call 43; refine Calls.mono (HP.out _ ((Below.refl _ _).alloc (Nat.le_refl _) _)) ?_; rintro e w1 ⟨rfl, hb⟩; have hbx := (BoxAt.new w #[.slice none 0 0] 25).below hb; have hc0 := hbx.cell (i := 0) rfl; have hf0 := hbx.free 0; have HX := Lib.hid hbx; have HB := Lib.hid (below_new hb); clear hb hbx)
      refine bodyPost_ret (ret_re rfl rfl rfl (HX.out.set 0 (.slice none 0 0))) rfl ⟨⟨_, [], 2, rfl, OwnAt.nil .., .inr (.inl ⟨by rw [← N.out]; exact hl, HA.out, rfl, rfl⟩)⟩, HB.out.setCell (Nat.le_refl _) _⟩
  · have hl' : (120 : Int) < (n : Int) := by omega
    go_enter Try.func26, Try.ntmps26
    go_wp2
    refine bodyPost_ret (ret_re rfl rfl rfl (BoxAt.new w _ _)) rfl ⟨⟨_, [], 1, rfl, OwnAt.nil .., .inl ⟨by rw [← N.out]; omega, rfl, rfl⟩⟩, ?_⟩
    exact (Below.refl _ _).alloc (Nat.le_refl _) _
end Go.Proofs.Ytdpnkbbphfcngab
