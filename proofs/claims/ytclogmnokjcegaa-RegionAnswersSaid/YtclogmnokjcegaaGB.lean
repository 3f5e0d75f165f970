/- edgesOf: both sides of each rectangle, in a row of the call's own. -/
import Derived.Test.YtclogmnokjcegaaGA
import Derived.Laws.OwnMore
import Derived.Deep.AppendLies
namespace Go.Proofs.Ytclogmnokjcegaa
open Go.RowKit

def encE (e : Ed) : List Value := [.int .i64 e.x, .int .i64 e.lo, .int .i64 e.hi, .int .i64 e.list, .int .i64 e.more]
theorem encE_len (e : Ed) : (encE e).length = 5 := rfl

/-- A row of the call's own, by what its elements say. -/
def OwnAt {α : Type} (w : World) (B : Nat) (e : TypeId) (k : Nat) (enc : α → List Value) (v : Value) (l : List α) : Prop := w.ownsRow B e k v l.length (l.flatMap enc)

theorem OwnAt.nil {α : Type} (w : World) (B : Nat) (e : TypeId) (k : Nat) (enc : α → List Value) : OwnAt w B e k enc (.slice none 0 0) [] := World.ownsRow_nil w B e k

theorem OwnAt.snoc {α : Type} {w : World} {B : Nat} {e : TypeId} {k : Nat} {enc : α → List Value} {v : Value} {l m : List α} {n : Nat} (hn : n = m.length) (h : w.ownsRow B e k v (l.length + n) (l.flatMap enc ++ m.flatMap enc)) : OwnAt w B e k enc v (l ++ m) := by
  subst hn
  unfold OwnAt
  rw [List.length_append, List.flatMap_append]
  exact h

theorem news_at {w : World} {cs : Array Value} {t : TypeId} {B : Nat} (hB : B = w.heap.size) : ∀ j u, cs.toList[j]? = some u → (w.alloc (.cells cs t)).cell? ((⟨B, 0, none⟩ : Addr).add j) = some u := by
  subst hB
  exact World.news_of_block (heap_alloc_new w _)

theorem info_edge : (Try.prog.info? 101).map (fun i => (i.zero, i.size, i.bytes)) = some (some (.agg #[.int .i64 0, .int .i64 0, .int .i64 0, .int .i64 0, .int .i64 0]), 5, 40) := by kernel_rfl

theorem info_parts {t : TypeId} {z : Value} {s b : Nat} (h : (Try.prog.info? t).map (fun i => (i.zero, i.size, i.bytes)) = some (some z, s, b)) : ∃ i, Try.prog.info? t = some i ∧ i.zero = some z ∧ i.size = s ∧ i.bytes = b := by
  cases hi : Try.prog.info? t with
  | none => rw [hi] at h; cases h
  | some i =>
    rw [hi] at h
    simp at h
    exact ⟨i, rfl, h.1, h.2.1, h.2.2⟩

theorem edgesOf_take {l : List Rc} {k : Nat} (j : Int) (h : k < l.length) : edgesOf (l.take (k + 1)) j = edgesOf (l.take k) j ++ eds2 j l[k]! := by
  rw [List.take_succ_eq_append_getElem h, edgesOf, List.flatMap_append, getElem!_pos l k h]
  simp [edgesOf]
theorem edgesOf_len (l : List Rc) (j : Int) : (edgesOf l j).length = 2 * l.length := by
  induction l with
  | nil => rfl
  | cons r l ih => show (eds2 j r ++ edgesOf l j).length = _; rw [List.length_append, ih]; simp [eds2]; omega

set_option maxHeartbeats 1000000 in
theorem edgesOf_any (v : Value) (l : List Rc) (list : Int) (w : World) (h : RectsAt w v l) (hl : l.length ≤ 1000) :
    Calls Try.prog 80 #[v, .int .i64 list] w fun e w' => ∃ v', e = .returned v' ∧ OwnAt w' w.heap.size 101 5 encE v' (edgesOf l list) ∧ Below w.heap.size w w' := by
  obtain ⟨p, cap, rfl, hm, hcp, h⟩ := h
  obtain ⟨i0, hi, hz0, hz1, hz2⟩ := info_parts info_edge
  generalize hn : l.length = n at *
  have hn' : (n : Int) ≤ 1000 := by omega
  go_enter Try.func80, Try.ntmps80
  go_wp2
  go_loopw [5, 10] (fun u i wr => ∃ k : Nat, k ≤ n ∧ i = .int .i64 k ∧ OwnAt wr w.heap.size 101 5 encE u (edgesOf (l.take k) list) ∧ Below w.heap.size w wr) (fun _ i _ => n - (intOf i).toNat)
  case atStart => exact ⟨0, Nat.zero_le _, rfl, OwnAt.nil .., Below.refl _ _⟩
  case round =>
    obtain ⟨k, hk, rfl, hown, hb⟩ := hrel
    by_cases hkn : k < n
    · obtain ⟨b, off, rfl, hlt, hc⟩ := h k hkn
      obtain ⟨c0, c1, c2, c3⟩ := hc.below hb hlt
      have hkn' : (k : Int) < (n : Int) := by omega
      have HB := Lib.hid hb
      have HE := Lib.hid (edgesOf_take list (show k < l.length by omega))
      have hlen : (edgesOf (l.take k) list).length = 2 * k := by rw [edgesOf_len, List.length_take]; omega
      have HO := Lib.hid hown
      have hxs := hown
      unfold OwnAt at hxs
      rw [hlen] at hxs
      clear h hc hb hown
      generalize l[k]! = r at *
      generalize hxe : (edgesOf (l.take k) list).flatMap encE = xs at hxs
      go_wp2_with (first | (at_builtin; refine wpList_append_own _ rfl _ _ 98 rfl w.heap.size 101 i0 _ 5 40 Try.underlying98 hi hz0 hz1 hz2 rfl (by decide) _ _ _ rfl ((hxs.alloc _).alloc _) ⟨wr.heap.size + 1, 0, none⟩ 2 2 [.int .i64 r.l, .int .i64 r.b, .int .i64 r.h, .int .i64 list, .int .i64 1, .int .i64 r.r, .int .i64 r.b, .int .i64 r.h, .int .i64 list, .int .i64 (-1)] rfl rfl ?c1 ?c2 ?c3 ?c4 ?c5 ?_))
      case c1 => exact news_at (by simp)
      case c2 => exact List.all_eq_true.1 (by rfl)
      case c3 => unfold maxLen; omega
      case c4 => omega
      case c5 => have := HB.out.size; simp; omega
      intro v' w1 hown1 hgrow _
      subst hxe
      have HB2 := Lib.hid ((((HB.out.alloc HB.out.size _).alloc (by have := HB.out.size; simp; omega) _).grown hgrow (by have := HB.out.size; simp; omega) (ownsRow_ge hxs)))
      have HO2 := Lib.hid (OwnAt.snoc (m := eds2 list r) (n := 2) rfl (by rw [hlen]; exact hown1))
      clear hxs hown1 hgrow
      go_wp2
      go_roundw
      case rel => exact ⟨k + 1, by omega, by simp, by rw [HE.out]; exact HO2.out, HB2.out⟩
      case measure => simp [intOf]; omega
    · have HB := Lib.hid hb
      have HO := Lib.hid hown
      obtain rfl : k = n := by omega
      clear h hb hown
      go_wp2
      go_ret
      refine ⟨_, rfl, ?_, HB.out⟩
      have := HO.out
      rwa [List.take_of_length_le (by omega)] at this
end Go.Proofs.Ytclogmnokjcegaa
