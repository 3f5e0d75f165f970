/- edgesOf: both sides of each rectangle of lists, in a row of the call's own. -/
import Derived.Test.YtdpnkbbphfcngabGA
import Derived.Test.YtdpnkbbphfcngabGMask
import Derived.Laws.OwnMore
import Derived.Deep.AppendLies
namespace Go.Proofs.Ytdpnkbbphfcngab
open Go.RowKit

def encE (e : Ed) : List Value := [.int .i64 e.x, .int .i64 e.lo, .int .i64 e.hi, .int .i64 e.list, .int .i64 e.more]
theorem encE_len (e : Ed) : (encE e).length = 5 := rfl

/-- A row of the call's own, by what its elements say. -/
def OwnAt {α : Type} (w : World) (B : Nat) (e : TypeId) (k : Nat) (enc : α → List Value) (v : Value) (l : List α) : Prop := w.ownsRow B e k v l.length (l.flatMap enc)

theorem OwnAt.nil {α : Type} (w : World) (B : Nat) (e : TypeId) (k : Nat) (enc : α → List Value) : OwnAt w B e k enc (.slice none 0 0) [] := World.ownsRow_nil w B e k

theorem OwnAt.snoc {α : Type} {w : World} {B : Nat} {e : TypeId} {k : Nat} {enc : α → List Value} {v : Value} {l m : List α} {n : Nat} (hn : n = m.length) (h : w.ownsRow B e k v (l.length + n) (l.flatMap enc ++ m.flatMap enc)) : OwnAt w B e k enc v (l ++ m) := by
  subst hn
  unfold OwnAt
  rw [List.length_append, List.flatMap_append]
  exact h

theorem news_at {w : World} {cs : Array Value} {t : TypeId} {B : Nat} (hB : B = w.heap.size) : ∀ j u, cs.toList[j]? = some u → (w.alloc (.cells cs t)).cell? ((⟨B, 0, none⟩ : Addr).add j) = some u := by
  subst hB
  exact World.news_of_block (heap_alloc_new w _)

theorem info_edge : (Try.prog.info? 75).map (fun i => (i.zero, i.size, i.bytes)) = some (some (.agg #[.int .i64 0, .int .i64 0, .int .i64 0, .int .i64 0, .int .i64 0]), 5, 40) := by kernel_rfl

theorem info_parts {t : TypeId} {z : Value} {s b : Nat} (h : (Try.prog.info? t).map (fun i => (i.zero, i.size, i.bytes)) = some (some z, s, b)) : ∃ i, Try.prog.info? t = some i ∧ i.zero = some z ∧ i.size = s ∧ i.bytes = b := by
  cases hi : Try.prog.info? t with
  | none => rw [hi] at h; cases h
  | some i =>
    rw [hi] at h
    simp at h
    exact ⟨i, rfl, h.1, h.2.1, h.2.2⟩

theorem edgesOf_take {l : List Rc} {k : Nat} (j : Int) (h : k < l.length) : edgesOf (l.take (k + 1)) j = edgesOf (l.take k) j ++ eds2 j l[k]! := by
  rw [List.take_succ_eq_append_getElem h, edgesOf, List.flatMap_append, getElem!_pos l k h]
  simp [edgesOf]
theorem edgesOf_len (l : List Rc) (j : Int) : (edgesOf l j).length = 2 * l.length := by
  induction l with
  | nil => rfl
  | cons r l ih => show (eds2 j r ++ edgesOf l j).length = _; rw [List.length_append, ih]; simp [eds2]; omega

/-- Lists of rectangles, in a row of slices. -/
def ListsAt (w : World) (v : Value) (Ls : List (List Rc)) : Prop :=
  ∃ b cap, v = .slice (some ⟨b, 0, none⟩) Ls.length cap ∧ ∀ j, j < Ls.length → ∃ u, w.cell? ⟨b, j, none⟩ = some u ∧ RectsAt w u Ls[j]!
theorem ListsAt.below {w w' : World} {v : Value} {Ls : List (List Rc)} (h : ListsAt w v Ls) (hb : Below w.heap.size w w') : ListsAt w' v Ls := by
  obtain ⟨b, cap, rfl, h⟩ := h
  refine ⟨b, cap, rfl, fun j hj => ?_⟩
  obtain ⟨u, hu, hr⟩ := h j hj
  exact ⟨u, cell_keep hb hu, hr.below hb⟩

/-- How many rectangles the lists have together. -/
def tot (Ls : List (List Rc)) : Nat := (Ls.map List.length).sum
theorem edgesFrom_len : ∀ (Ls : List (List Rc)) (k : Nat), (edgesFrom k Ls).length = 2 * tot Ls
  | [], _ => rfl
  | l :: Ls, k => by
    show (edgesOf l k ++ edgesFrom (k + 1) Ls).length = _
    rw [List.length_append, edgesOf_len, edgesFrom_len Ls (k + 1)]
    simp [tot]; omega
theorem edgesFrom_take : ∀ (Ls : List (List Rc)) (k i : Nat), i < Ls.length → edgesFrom k (Ls.take (i + 1)) = edgesFrom k (Ls.take i) ++ edgesOf Ls[i]! ((k + i : Nat) : Int)
  | [], _, _, h => by simp at h
  | l :: Ls, k, 0, _ => by simp [edgesFrom]
  | l :: Ls, k, i + 1, h => by
    have ih := edgesFrom_take Ls (k + 1) i (by simpa using h)
    rw [List.take_succ_cons, List.take_succ_cons]
    show edgesOf l k ++ edgesFrom (k + 1) (Ls.take (i + 1)) = (edgesOf l k ++ edgesFrom (k + 1) (Ls.take i)) ++ edgesOf Ls[i]! _
    rw [ih, List.append_assoc, show k + 1 + i = k + (i + 1) by omega]
theorem tot_take : ∀ (Ls : List (List Rc)) (i : Nat), i < Ls.length → tot (Ls.take i) + Ls[i]!.length ≤ tot Ls
  | [], _, h => by simp at h
  | l :: Ls, 0, _ => by simp [tot]
  | l :: Ls, i + 1, h => by
    have ih := tot_take Ls i (by simpa using h)
    simp only [tot] at ih ⊢
    simp only [List.take_succ_cons, List.map_cons, List.sum_cons]
    have e : (l :: Ls)[i + 1]! = Ls[i]! := rfl
    rw [e]
    omega

set_option maxHeartbeats 2000000 in
set_option maxRecDepth 100000 in
theorem edgesOf_any (v : Value) (Ls : List (List Rc)) (w : World) (h : ListsAt w v Ls) (hl : tot Ls ≤ 120000) (hL : Ls.length ≤ 62) :
    Calls Try.prog 46 #[v] w fun e w' => ∃ v', e = .returned v' ∧ OwnAt w' w.heap.size 75 5 encE v' (edgesFrom 0 Ls) ∧ Below w.heap.size w w' := by
  obtain ⟨b0, cap0, rfl, h⟩ := h
  obtain ⟨i0, hi, hz0, hz1, hz2⟩ := info_parts info_edge
  have HL := Lib.hid h
  have HT := Lib.hid (fun k (hk : k < Ls.length) => show (edgesFrom 0 (Ls.take k)).length + 2 * Ls[k]!.length ≤ 240000 by
    rw [edgesFrom_len]; have := tot_take Ls k hk; omega)
  obtain ⟨n, hn⟩ : ∃ n, n = Ls.length := ⟨_, rfl⟩
  rw [← hn]
  have N := Lib.hid hn
  have hn' : (n : Int) ≤ 62 := by omega
  clear h hn hl
  go_enter Try.func46, Try.ntmps46
  go_wp2
  go_loopw [3, 10] (fun u i wr => ∃ k : Nat, k ≤ n ∧ i = .int .i64 k ∧ OwnAt wr w.heap.size 75 5 encE u (edgesFrom 0 (Ls.take k)) ∧ Below w.heap.size w wr) (fun _ i _ => n - (intOf i).toNat)
  case atStart => exact ⟨0, Nat.zero_le _, rfl, OwnAt.nil .., Below.refl _ _⟩
  case round =>
    obtain ⟨k, hk, rfl, hown, hb⟩ := hrel
    by_cases hkn : k < n
    · obtain ⟨u, hu, hR⟩ := HL.out k (by rw [← N.out]; exact hkn)
      have c0 := cell_keep hb hu
      have hlen := HT.out k (by rw [← N.out]; exact hkn)
      have HS := Lib.hid (edgesFrom_take Ls 0 k (by rw [← N.out]; exact hkn))
      rw [Nat.zero_add] at HS
      obtain ⟨p, cap, rfl, hm, hcp, hcell⟩ := hR
      have HC := Lib.hid hcell
      have HB := Lib.hid hb
      have HO := Lib.hid hown
      have hkn' : (k : Int) < (n : Int) := by omega
      clear hu hcell hb hown
      generalize Ls[k]! = l at *
      generalize edgesFrom 0 (Ls.take k) = pre at *
      obtain ⟨m, hm2⟩ : ∃ m, m = l.length := ⟨_, rfl⟩
      rw [← hm2] at c0 hm hcp hlen HC
      have M := Lib.hid hm2
      have hm' : (m : Int) ≤ 120000 := by omega
      clear hm2
      go_wp2
      go_loopw [3, 17] (fun u i wr => ∃ j : Nat, j ≤ m ∧ i = .int .i64 j ∧ OwnAt wr w.heap.size 75 5 encE u (pre ++ edgesOf (l.take j) k) ∧ Below w.heap.size w wr) (fun _ i _ => m - (intOf i).toNat)
      case atStart => exact ⟨0, Nat.zero_le _, rfl, by rw [List.take_zero]; show OwnAt _ _ _ _ _ _ (pre ++ []); rw [List.append_nil]; exact HO.out, HB.out⟩
      case round =>
        obtain ⟨j, hj, rfl, hown, hb⟩ := hrel
        by_cases hjm : j < m
        · obtain ⟨b, off, rfl, hlt, hc⟩ := HC.out j hjm
          obtain ⟨x0, x1, x2, x3⟩ := hc.below hb hlt
          have hjm' : (j : Int) < (m : Int) := by omega
          have HB1 := Lib.hid hb
          have HE := Lib.hid (edgesOf_take (k : Int) (show j < l.length by rw [← M.out]; exact hjm))
          have hlen2 : (pre ++ edgesOf (l.take j) k).length = pre.length + 2 * j := by rw [List.length_append, edgesOf_len, List.length_take, ← M.out]; omega
          have HO1 := Lib.hid hown
          have hxs := hown
          unfold OwnAt at hxs
          rw [hlen2] at hxs
          clear hc hb hown
          generalize l[j]! = r at *
          generalize hl0 : pre ++ edgesOf (l.take j) k = l0 at *
          generalize hxe : l0.flatMap encE = xs at hxs
          go_wp2_with (first | (at_builtin; refine wpList_append_own _ rfl _ _ 71 rfl w.heap.size 75 i0 _ 5 40 Try.underlying71 hi hz0 hz1 hz2 rfl (by decide) _ _ _ rfl ((hxs.alloc _).alloc _) ⟨wr.heap.size + 1, 0, none⟩ 2 2 [.int .i64 r.l, .int .i64 r.b, .int .i64 r.h, .int .i64 k, .int .i64 1, .int .i64 r.r, .int .i64 r.b, .int .i64 r.h, .int .i64 k, .int .i64 (-1)] rfl rfl ?c1 ?c2 ?c3 ?c4 ?c5 ?_))
          case c1 => exact news_at (by simp)
          case c2 => exact List.all_eq_true.1 (by rfl)
          case c3 => unfold maxLen; omega
          case c4 => omega
          case c5 => have := HB1.out.size; simp; omega
          intro v' w1 hown1 hgrow _
          subst hxe
          have HB2 := Lib.hid ((((HB1.out.alloc HB1.out.size _).alloc (by have := HB1.out.size; simp; omega) _).grown hgrow (by have := HB1.out.size; simp; omega) (ownsRow_ge hxs)))
          have HO2 := Lib.hid (OwnAt.snoc (l := l0) (m := eds2 k r) (enc := encE) (n := 2) rfl (by rw [hlen2]; exact hown1))
          clear hxs hown1 hgrow
          go_wp2
          go_roundw
          case rel => exact ⟨j + 1, by omega, by simp, by rw [HE.out, ← List.append_assoc, hl0]; exact HO2.out, HB2.out⟩
          case measure => simp [intOf]; omega
        · obtain rfl : j = m := by omega
          rw [List.take_of_length_le (by rw [M.out]; exact Nat.le_refl _)] at hown
          have HB1 := Lib.hid hb
          have HO1 := Lib.hid hown
          clear hown hb
          go_wp2
          go_roundw
          case rel => exact ⟨k + 1, by omega, by simp, by rw [HS.out]; exact HO1.out, HB1.out⟩
          case measure => simp [intOf]; omega
    · have HB := Lib.hid hb
      have HO := Lib.hid hown
      obtain rfl : k = n := by omega
      clear hb hown
      go_wp2
      go_ret
      refine ⟨_, rfl, ?_, HB.out⟩
      have := HO.out
      rwa [List.take_of_length_le (by rw [N.out]; exact Nat.le_refl _)] at this
end Go.Proofs.Ytdpnkbbphfcngab
