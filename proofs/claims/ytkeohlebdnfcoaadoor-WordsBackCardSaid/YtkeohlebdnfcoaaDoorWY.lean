/- WordsBack: the walk. -/
import Derived.Test.YtkeohlebdnfcoaaDoorWX
import Derived.Test.YtkeohlebdnfcoaaDoorWG
namespace Go.Proofs.YtkeohlebdnfcoaaDoor
open Go.RowKit Go.Shelf

theorem Back.top {W0 : World} {hi : Nat} {ls : List (List ByteArray)} {v4 : Value} {w : World} (h : Back W0 hi ls v4 w) : Back W0 w.heap.size ls v4 w := by
  obtain ⟨vs, h1, h2⟩ := h.own
  exact ⟨h.below, h.tape, ⟨vs, h1, h2.mono h.high⟩, Nat.le_trans h.low h.high, Nat.le_refl _⟩

theorem info_str : (Tryd.prog.info? 9).map (fun i => (i.zero, i.size, i.bytes)) = some (some (.string ⟨#[]⟩), 1, 16) := by kernel_rfl

theorem join_len_le (ws : List ByteArray) (sep : List UInt8) (h : ∀ x ∈ ws, x.size ≤ 3) : (Lib.join (ws.map (·.data.toList)) sep).length ≤ ws.length * (3 + sep.length) := by
  have tail : ∀ r : List ByteArray, (∀ x ∈ r, x.size ≤ 3) → (Lib.joinTail sep (r.map (·.data.toList))).length ≤ r.length * (3 + sep.length) := by
    intro r
    induction r with
    | nil => intro _; simp [Lib.joinTail]
    | cons x r ih =>
      intro hr
      have h1 := ih (fun y hy => hr y (by simp [hy]))
      have h2 := hr x (by simp)
      have h3 : x.data.toList.length = x.size := by simp
      unfold Lib.joinTail at h1 ⊢
      simp only [List.map_cons, List.flatten_cons, List.length_append, List.length_cons]
      rw [Nat.add_mul]
      omega
  cases ws with
  | nil => simp [Lib.join_nil]
  | cons x r =>
    have h1 := tail r (fun y hy => h y (by simp [hy]))
    have h2 := h x (by simp)
    have h3 : x.data.toList.length = x.size := by simp
    rw [List.map_cons, Lib.join_cons, List.length_append, List.length_cons, Nat.add_mul]
    omega

theorem sjoin_sep (v : Value) (ws : List ByteArray) (sep : ByteArray) (w : World) (h : WordsAt w v ws) (hN : ws.length ≤ 3) (hM : ∀ x ∈ ws, x.size ≤ 3) (hs : sep.size ≤ 3) :
    Calls Tryd.prog 23 #[v, .string sep] w fun e w' => ∃ x : ByteArray, e = .returned (.string x) ∧ x.data.toList = Lib.join (ws.map (·.data.toList)) sep.data.toList ∧ x.size ≤ 18 ∧ Below w.heap.size w w' := by
  have hlen := join_len_le ws sep.data.toList hM
  have h3 : sep.data.toList.length = sep.size := by simp
  have hle : ws.length * (3 + sep.data.toList.length) ≤ 3 * 6 := Nat.mul_le_mul hN (by omega)
  have size_of : ∀ x : ByteArray, x.data.toList = Lib.join (ws.map (·.data.toList)) sep.data.toList → x.size ≤ 18 := fun x hx => by
    have h4 : x.data.toList.length = x.size := by simp
    rw [hx] at h4
    omega
  obtain ⟨p, cap, rfl, hc, h⟩ := h
  by_cases h0 : ws.length = 0
  · have e : ws = [] := List.eq_nil_of_length_eq_zero h0
    subst e
    refine (Tryd.strings_Join_none p cap sep w).mono ?_
    rintro e w' ⟨rfl, rfl⟩
    exact ⟨_, rfl, rfl, by decide, Below.refl _ _⟩
  · obtain ⟨b, o, rfl, hl, h⟩ := h (by omega)
    refine (Tryd.strings_Join b o cap ws sep w h hl (by omega) hc (by omega)).mono ?_
    rintro e w' ⟨rfl, hb⟩
    exact ⟨_, rfl, by simp, size_of _ (by simp), hb⟩

theorem app_list (a b : ByteArray) : (a ++ b).data.toList = a.data.toList ++ b.data.toList := by
  rw [ByteArray.data_append, Array.toList_append]

theorem nat_of {x : Int} {n : Int} (h : InMod x n) (hn : 1 ≤ n) : ∃ k : Nat, x = (k : Int) ∧ (k : Int) < n := by
  obtain ⟨k, rfl⟩ := Int.eq_ofNat_of_zero_le h.1
  exact ⟨k, rfl, h.2.1 hn⟩

/-- Lines with words that are small. -/
def Small (ls : List (List ByteArray)) : Prop := ∀ l ∈ ls, l.length ≤ 3 ∧ ∀ x ∈ l, wordOk x = true ∧ x.size ≤ 3
theorem Small.snoc {ls : List (List ByteArray)} {l : List ByteArray} (h : Small ls) (h1 : l.length ≤ 3) (h2 : ∀ x ∈ l, wordOk x = true ∧ x.size ≤ 3) : Small (ls ++ [l]) := fun l' hl => by
  rcases List.mem_append.1 hl with hl | hl
  · exact h l' hl
  · rw [List.mem_singleton.1 hl]; exact ⟨h1, h2⟩
theorem wsum_small : ∀ (l : List ByteArray), (∀ x ∈ l, x.size ≤ 3) → wsum l ≤ 4 * l.length := by
  intro l
  induction l with
  | nil => intro _; exact Nat.le_refl _
  | cons x l ih =>
    intro h
    have h1 := ih (fun y hy => h y (by simp [hy]))
    have h2 := h x (by simp)
    simp only [wsum, List.length_cons]
    omega
theorem textSz_small : ∀ (ls : List (List ByteArray)), Small ls → textSz ls ≤ 12 * ls.length := by
  intro ls
  induction ls with
  | nil => intro _; exact Nat.le_refl _
  | cons l ls ih =>
    intro h
    have h1 := ih (fun y hy => h y (by simp [hy]))
    obtain ⟨h2, h3⟩ := h l (by simp)
    have h4 := wsum_small l (fun x hx => (h3 x hx).2)
    simp only [textSz, List.length_cons]
    unfold lineSz
    split <;> omega

/-- A text that is read as these lines. -/
def Reads (s : ByteArray) (ls : List (List ByteArray)) : Prop := ∃ xs, s.data.toList = xs.flatten ∧ TextFor xs (ls.map fun l => l.map (·.data.toList))

theorem split_reads (s : ByteArray) (ls : List (List ByteArray)) (hs : s.size ≤ 16384) (hn : ls.length ≤ 400) (h : Reads s ls) (w : World) (hL : Laid w) :
    Calls Tryd.prog 13 #[.string s] w fun e w' => ∃ v, e = .returned (.tuple #[v, .int .i64 0]) ∧ LinesAt w' v ls ∧ Below w.heap.size w w' := by
  obtain ⟨xs, hx, ht⟩ := h
  have hl := ht.len
  rw [List.length_map] at hl
  have hw : wholeB s = true := by
    rcases ht.ends with e | ⟨l, e⟩
    · rw [← hx] at e
      unfold wholeB
      rw [isEmpty_data, e]
      rfl
    · exact whole_of (hx.trans e)
  refine (split_ok s hs (by unfold Lib.countByte; rw [hx, ht.count]; omega) hw (by rw [hx]; exact ht.ok) w hL.sp).mono ?_
  rintro e w' ⟨v, rfl, hv, hb⟩
  refine ⟨v, rfl, ?_, hb⟩
  have h2 := hv.lines
  rw [hx, ht.lines.1, ht.lines.2, back_data] at h2
  exact h2

theorem Reads.snoc {s y : ByteArray} {ls : List (List ByteArray)} {l : List ByteArray} (h : Reads s ls) (hy : LineFor y.data.toList (l.map (·.data.toList))) : Reads (s ++ y) (ls ++ [l]) := by
  obtain ⟨xs, h1, h2⟩ := h
  refine ⟨xs ++ [y.data.toList], ?_, ?_⟩
  · rw [app_list, h1]; simp
  · rw [List.map_append]; exact h2.snoc hy

theorem own_slice {W : World} {base : Nat} {e : TypeId} {size k : Nat} {v : Value} {xs : List Value} (h : W.ownsRow base e size v k xs) : ∃ p n c, v = .slice p n c := by
  rcases h.2 with ⟨rfl, _⟩ | ⟨g, cap, cur, rfl, _⟩
  · exact ⟨_, _, _, rfl⟩
  · exact ⟨_, _, _, rfl⟩

theorem tb_lt {tb r : Nat} (e : some tb = some r) : r < tb + 1 := by
  have : tb = r := by simpa using e
  omega

theorem rep_32 {n : Nat} : ∀ c ∈ List.replicate n (32 : UInt8), c = 32 := fun c hc => (List.mem_replicate.1 hc).2

theorem the_line {x9 x11 x12 x y : ByteArray} {i j : Nat} {l : List ByteArray} (h9 : x9.data.toList = List.replicate i 32) (h11 : x11.data.toList = List.replicate (1 + j) 32)
    (h12 : x12.data.toList = Lib.join (l.map (·.data.toList)) x11.data.toList) (hx : Behind x) (hw : ∀ z ∈ l, wordOk z = true) (hy : y = ((x9 ++ x12) ++ x) ++ (⟨#[10]⟩ : ByteArray)) : LineFor y.data.toList (l.map (·.data.toList)) := by
  obtain ⟨_, t, cm, e, ht, hc⟩ := hx
  have h := line_for (List.replicate i 32) (List.replicate (1 + j) 32) t cm rep_32 rep_32 (by simp [Nat.add_comm]) ht hc l hw
  have e2 : y.data.toList = List.replicate i 32 ++ (Lib.join (l.map (·.data.toList)) (List.replicate (1 + j) 32) ++ (t ++ cm)) ++ [10] := by
    rw [hy, app_list, app_list, app_list, h9, h12, h11, e]
    simp [List.append_assoc]
  rw [e2]
  exact h

set_option maxHeartbeats 4000000 in
set_option maxRecDepth 100000 in
theorem back_walk (v0 : Value) (n0 : Nat) (g0 : Nat → Int) (W : World) (hL : Laid W) (h0 : IntsAt .i64 W v0 n0 g0) (c0 : CapAt v0) :
    Calls Tryd.prog 5 #[v0] W fun e w' => e = .returned (.bool true) ∧ Below W.heap.size W w' := by
  have hNew := new_any v0 n0 g0 W h0 c0
  obtain ⟨i0, hi0, hz0, hz1, hz2⟩ := info_parts info_str
  obtain ⟨i1, hi1, hy0, hy1, hy2⟩ := info_parts info_line
  clear h0 c0
  go_enter Tryd.func5, Tryd.ntmps5
  go_wp2_with fail
  refine hNew.mono ?_
  rintro e w1 ⟨rfl, hb, ht, hz⟩
  have hB0 : Back W (W.heap.size + 1) [] (.slice none 0 0) w1 := ⟨hb, ht, ⟨[], World.ownsRow_nil _ _ _ _, trivial⟩, Nat.le_refl _, by omega⟩
  have hN := next_any w1 W.heap.size ht 6 (by omega)
  clear hNew hb ht hz
  go_wp2_with fail
  refine hN.mono ?_
  rintro e w2 ⟨x, rfl, hx, hg, ht2⟩
  obtain ⟨c, rfl, hc⟩ := nat_of hx (by omega)
  have hB1 := hB0.step hg ht2 (fun r e => .inl (by simpa using e.symm))
  clear hN hB0 hg ht2 hx
  go_wp2_with fail
  go_loopw [4, 5, 6] (fun v4 v5 v6 wr => ∃ (u4 : Value) (ls : List (List ByteArray)) (s5 : ByteArray) (c hi : Nat), u4 = v4 ∧ v5 = .string s5 ∧ v6 = .int .i64 c ∧ ls.length + c ≤ 5 ∧ Back W hi ls u4 wr ∧ Reads s5 ls ∧ s5.size ≤ 100 * ls.length ∧ Small ls) (fun _ _ v _ => (intOf v).toNat)
  case atStart => exact ⟨_, [], ⟨#[]⟩, c, _, rfl, rfl, rfl, by simp; omega, hB1, ⟨[], rfl, trivial⟩, by decide, fun l hl => by simp at hl⟩
  case round =>
    clear hB1 hc
    obtain ⟨v4, ls, s5, c, hi, rfl, rfl, rfl, hlc, hBk, hrd, hs5, hsm⟩ := hrel
    have hs5' : s5.size ≤ 500 := by omega
    by_cases hc0 : c = 0
    · subst hc0
      have hls := hBk.lines
      have hsz := textSz_small ls hsm
      have hok : ∀ l ∈ ls, ∀ x ∈ l, wordOk x = true := fun l hl x hx => ((hsm l hl).2 x hx).1
      have hJ := join_ok v4 ls (by omega) (fun l hl => ⟨by have := (hsm l hl).1; omega, fun x hx => ⟨hok l hl x hx, by have := ((hsm l hl).2 x hx).2; omega⟩⟩) (by omega) wr hls
      have HJ := Lib.hid hJ
      have hbe := hBk.below
      have hlen : ls.length ≤ 5 := by omega
      have hm3 : ∀ l ∈ ls, l.length ≤ 4611686018427387904 := fun l hl => by have := (hsm l hl).1; omega
      have hM := Lib.hid hm3
      have htf := Lib.hid (text_for ls hok)
      have hlz : (allText ls).length ≤ 60 := by rw [allText_len]; omega
      clear hJ hBk hm3 hsm hok hsz
      go_wp2_with fail
      refine HJ.out.mono ?_
      rintro e w3 ⟨xj, rfl, hxj, hb3⟩
      have hrj : Reads xj ls := ⟨_, by rw [hxj, htf.out.2], htf.out.1⟩
      have hzj : xj.size ≤ 60 := by
        have h9 : xj.data.toList.length = xj.size := by simp
        rw [hxj] at h9
        omega
      have hbe3 := hbe.trans (hb3.mono hbe.size)
      have hls3 := hls.below hb3
      have hS1 := Lib.hid (split_reads xj ls (by omega) (by omega) hrj w3 (hL.below hbe3))
      clear HJ hls hb3 hbe
      go_wp2_with fail
      refine hS1.out.mono ?_
      rintro e w4 ⟨vp, rfl, hp, hb4⟩
      have hbe4 := hbe3.trans (hb4.mono hbe3.size)
      have hls4 := hls3.below hb4
      have hS2 := Lib.hid (split_reads s5 ls (by omega) (by omega) hrd w4 (hL.below hbe4))
      clear hS1 hls3 hb4 hbe3
      go_wp2_with fail
      refine hS2.out.mono ?_
      rintro e w5 ⟨vq, rfl, hq, hb5⟩
      have hbe5 := hbe4.trans (hb5.mono hbe4.size)
      have hls5 := hls4.below hb5
      have hp5 := hp.below hb5
      have hE1 := Lib.hid (same_true vp v4 ls (by omega) hM.out w5 hp5 hls5)
      clear hS2 hls4 hb5 hbe4 hp
      go_wp2_with fail
      refine hE1.out.mono ?_
      rintro e w6 ⟨rfl, q, rfl⟩
      have hbq : Below w5.heap.size w5 (w5.drewN q) := below_drewN' q
      have hE2 := Lib.hid (same_true vq v4 ls (by omega) hM.out (w5.drewN q) (hq.below hbq) (hls5.below hbq))
      have hbe6 := hbe5.trans (hbq.mono hbe5.size)
      clear hE1 hls5 hq hp5 hbq hbe5
      generalize w5.drewN q = w6 at *
      go_wp2_with fail
      refine hE2.out.mono ?_
      rintro e w7 ⟨rfl, q', rfl⟩
      have hbe7 : Below W.heap.size W (w6.drewN q') := ⟨hbe6.os, hbe6.tape, hbe6.output, hbe6.size, hbe6.block⟩
      have hAw := Lib.hid (awake_any _ (hL.below hbe7))
      clear hE2 hbe6
      go_wp2_with fail
      refine hAw.out.mono ?_
      rintro e w8 ⟨rfl, hb8⟩
      go_wp2_with fail
      go_ret
      exact ⟨by simp, hbe7.trans (hb8.mono hbe7.size)⟩
    · have hB := hBk.top
      have hc1 : (0 : Int) < (c : Int) := by omega
      have hN := next_any wr W.heap.size hB.tape 4 (by omega)
      clear hBk
      go_wp2_with fail
      refine hN.mono ?_
      rintro e w3 ⟨y, rfl, hy, hg, ht⟩
      obtain ⟨k, rfl, hk⟩ := nat_of hy (by omega)
      have hB3 := hB.step hg ht (fun r e => .inl (by simpa using e.symm))
      clear hN hB hg ht hy
      generalize wr.heap.size = hi2 at hB3
      go_wp2_with fail
      go_loopw [7, 8] (fun v7 v8 wi => ∃ (u7 : Value) (l : List ByteArray) (k : Nat), u7 = v7 ∧ v8 = .int .i64 k ∧ l.length + k ≤ 3 ∧ wi.ownsRow hi2 9 1 u7 l.length (l.map Value.string) ∧ Back W hi2 ls v4 wi ∧ ∀ x ∈ l, wordOk x = true ∧ x.size ≤ 3) (fun _ v _ => (intOf v).toNat)
      case atStart => exact ⟨_, [], k, rfl, rfl, by simp; omega, World.ownsRow_nil _ _ _ _, hB3, fun x hx => by simp at hx⟩
      case round =>
        clear hB3 hk
        obtain ⟨v7, l, k, rfl, rfl, hlk, h7, hBi, hw⟩ := hrel
        have hlow := hBi.low
        have hhigh := hBi.high
        by_cases hk0 : k = 0
        · subst hk0
          obtain ⟨vs, h4, hvs⟩ := hBi.own
          obtain ⟨p7, n7, c7, rfl⟩ := own_slice h7
          have hls5 : ls.length ≤ 5 := by omega
          go_wp2_with (first | (at_builtin; refine wpList_append_own _ rfl _ _ 22 rfl (W.heap.size + 1) 25 i1 (.slice none 0 0) 1 24 Tryd.underlying22 hi1 hy0 hy1 hy2 rfl (by decide) _ _ _ rfl (h4.alloc _) ⟨wr.heap.size, 0, none⟩ 1 1 [.slice p7 n7 c7] rfl rfl ?c1 ?c2 ?c3 ?c4 ?c5 ?_))
          case c1 => exact cell_one_new _ _ _
          case c2 => intro u hu; simp at hu; subst hu; rfl
          case c3 => unfold maxLen; omega
          case c4 => omega
          case c5 => rw [World.size_alloc]; omega
          intro v4' w7 hown hgrow _
          obtain ⟨hB7, hv7⟩ := Back.line hBi h4 hvs h7 hown hgrow
          have hN := Lib.hid (next_any w7 W.heap.size hB7.tape 3 (by omega))
          clear hBi h4 hvs h7 hown hgrow hlow hhigh
          go_wp2_with fail
          refine hN.out.mono ?_
          rintro e w8 ⟨i, rfl, hi9, hg8, ht8⟩
          obtain ⟨i, rfl, hi3⟩ := nat_of hi9 (by omega)
          have hB8 := hB7.step hg8 ht8 (fun r e => .inl (by simpa using e.symm))
          have hv8 := hv7.kept hg8 (fun r e => .inl (tb_lt e))
          have hR := Lib.hid (repeat_any 32 i (by omega) w8)
          clear hN hB7 hv7 hg8 ht8 hi9
          go_wp2_with fail
          refine hR.out.mono ?_
          rintro e w9 ⟨x9, rfl, hx9, hb9⟩
          have hB9 := hB8.keep hb9
          have hv9 := hv8.below hb9
          have hz9 : x9.size ≤ 2 := by
            have h9 : x9.data.toList.length = x9.size := by simp
            rw [hx9, List.length_replicate] at h9
            omega
          have hN := Lib.hid (next_any w9 W.heap.size hB9.tape 3 (by omega))
          clear hR hB8 hv8 hb9
          go_wp2_with fail
          refine hN.out.mono ?_
          rintro e w10 ⟨j, rfl, hj9, hg10, ht10⟩
          obtain ⟨j, rfl, hj3⟩ := nat_of hj9 (by omega)
          have hB10 := hB9.step hg10 ht10 (fun r e => .inl (by simpa using e.symm))
          have hv10 := hv9.kept hg10 (fun r e => .inl (tb_lt e))
          have hR0 := repeat_any 32 (1 + j) (by omega) w10
          rw [show ((1 + j : Nat) : Int) = 1 + (j : Int) by omega] at hR0
          have hR := Lib.hid hR0
          clear hN hB9 hv9 hg10 ht10 hj9 hR0
          go_wp2_with fail
          refine hR.out.mono ?_
          rintro e w11 ⟨x11, rfl, hx11, hb11⟩
          have hB11 := hB10.keep hb11
          have hv11 := hv10.below hb11
          have hz11 : x11.size ≤ 3 := by
            have h9 : x11.data.toList.length = x11.size := by simp
            rw [hx11, List.length_replicate] at h9
            omega
          have hJ := Lib.hid (sjoin_sep _ l x11 w11 hv11.words (by omega) (fun z hz => (hw z hz).2) hz11)
          clear hR hB10 hv10 hb11 hv11
          go_wp2_with fail
          refine hJ.out.mono ?_
          rintro e w12 ⟨x12, rfl, hx12, hz12, hb12⟩
          have hB12 := hB11.keep hb12
          have hB13 := hB12.keep ((Below.refl _ _).alloc (Nat.le_refl _) (.cells #[.string ⟨#[]⟩, .string ⟨#[32]⟩, .string ⟨#[32, 35, 32, 97, 32, 98]⟩, .string ⟨#[35]⟩] 9))
          have hfour := Lib.hid (four w12)
          have hlt : w12.heap.size < (w12.alloc (.cells #[.string ⟨#[]⟩, .string ⟨#[32]⟩, .string ⟨#[32, 35, 32, 97, 32, 98]⟩, .string ⟨#[35]⟩] 9)).heap.size := by simp
          have htb := hB12.below.size
          have hne : w12.heap.size ≠ W.heap.size := by have := hB12.low; have := hB12.high; omega
          clear hJ hB11 hb12 hB12
          go_wp2_with fail
          generalize w12.alloc (.cells #[.string ⟨#[]⟩, .string ⟨#[32]⟩, .string ⟨#[32, 35, 32, 97, 32, 98]⟩, .string ⟨#[35]⟩] 9) = w13 at *
          generalize w12.heap.size = b13 at *
          refine (next_any w13 W.heap.size hB13.tape 4 (by omega)).mono ?_
          rintro e w14 ⟨z, rfl, hz9', hg14, ht14⟩
          obtain ⟨z, rfl, hz4⟩ := nat_of hz9' (by omega)
          obtain ⟨x, hcx, hbh⟩ := hfour.out z (by omega)
          have hcx14 := cell_grown hcx hg14 hlt hne
          have hB14 := hB13.step hg14 ht14 (fun r e => .inl (by simpa using e.symm))
          have hzx := hbh.1
          have hline := the_line (y := ((x9 ++ x12) ++ x) ++ (⟨#[10]⟩ : ByteArray)) hx9 hx11 hx12 hbh (fun z hz => (hw z hz).1) rfl
          have hrd2 := Lib.hid (hrd.snoc hline)
          have hsm2 := Lib.hid (hsm.snoc (by omega) hw)
          clear hfour hcx hg14 ht14 hB13 hz9' hline hbh hw hsm hrd hx9 hx11 hx12
          go_wp2_with fail
          go_roundw
          case rel =>
            refine ⟨_, ls ++ [l], _, c - 1, _, rfl, rfl, congrArg (Value.int .i64) (by omega), by simp; omega, hB14, hrd2.out, ?_, hsm2.out⟩
            rw [ByteArray.size_append, ByteArray.size_append, ByteArray.size_append, ByteArray.size_append, List.length_append]
            have h10 : (⟨#[10]⟩ : ByteArray).size = 1 := rfl
            have h11 : ([l] : List (List ByteArray)).length = 1 := rfl
            omega
          case measure => simp [intOf]; omega
        · have hk1 : (0 : Int) < (k : Int) := by omega
          have hB5 := hBi.keep ((Below.refl _ _).alloc (Nat.le_refl _) (.cells #[.string ⟨#[97]⟩, .string ⟨#[98, 55]⟩, .string ⟨#[45, 51]⟩, .string ⟨#[40]⟩, .string ⟨#[120, 46, 121]⟩] 9))
          have h75 := h7.alloc (.cells #[.string ⟨#[97]⟩, .string ⟨#[98, 55]⟩, .string ⟨#[45, 51]⟩, .string ⟨#[40]⟩, .string ⟨#[120, 46, 121]⟩] 9)
          have hfive := Lib.hid (five wr)
          have hlt : wr.heap.size < (wr.alloc (.cells #[.string ⟨#[97]⟩, .string ⟨#[98, 55]⟩, .string ⟨#[45, 51]⟩, .string ⟨#[40]⟩, .string ⟨#[120, 46, 121]⟩] 9)).heap.size := by simp
          have hne : wr.heap.size ≠ W.heap.size := by omega
          clear hBi h7
          go_wp2_with fail
          generalize wr.alloc (.cells #[.string ⟨#[97]⟩, .string ⟨#[98, 55]⟩, .string ⟨#[45, 51]⟩, .string ⟨#[40]⟩, .string ⟨#[120, 46, 121]⟩] 9) = w5 at *
          generalize wr.heap.size = b5 at *
          refine (next_any w5 W.heap.size hB5.tape 5 (by omega)).mono ?_
          rintro e w6 ⟨y, rfl, hy, hg6, ht6⟩
          obtain ⟨y, rfl, hy5⟩ := nat_of hy (by omega)
          obtain ⟨x, hcx, hxok, hxs⟩ := hfive.out y (by omega)
          have hcx6 := cell_grown hcx hg6 hlt hne
          have hB6 := hB5.step hg6 ht6 (fun r e => .inl (by simpa using e.symm))
          have h76 := own_next h75 hg6 (by omega)
          have hh6 := hB6.high
          clear hfive hcx hg6 ht6 hB5 h75 hy
          go_wp2_with (first | (at_builtin; refine wpList_append_own _ rfl _ _ 25 rfl hi2 9 i0 (.string ⟨#[]⟩) 1 16 Tryd.underlying25 hi0 hz0 hz1 hz2 rfl (by decide) _ _ _ rfl (h76.alloc _) ⟨w6.heap.size, 0, none⟩ 1 1 [.string x] rfl rfl ?c1 ?c2 ?c3 ?c4 ?c5 ?_))
          case c1 => exact cell_one_new _ _ _
          case c2 => intro u hu; simp at hu; subst hu; rfl
          case c3 => unfold maxLen; omega
          case c4 => omega
          case c5 => rw [World.size_alloc]; omega
          intro v7' w7 hown7 hgrow7 _
          have hB7 := Back.word hB6 h76 hown7 hgrow7
          have hown8 : w7.ownsRow hi2 9 1 v7' (l ++ [x]).length ((l ++ [x]).map Value.string) := by rw [List.length_append, List.map_append]; exact hown7
          clear hown7 hgrow7 hB6 h76
          go_wp2_with fail
          go_roundw
          case rel =>
            refine ⟨_, l ++ [x], k - 1, rfl, congrArg (Value.int .i64) (by omega), by simp; omega, hown8, hB7, fun z hz => ?_⟩
            rcases List.mem_append.1 hz with hz | hz
            · exact hw z hz
            · rw [List.mem_singleton.1 hz]; exact ⟨hxok, hxs⟩
          case measure => simp [intOf]; omega
end Go.Proofs.YtkeohlebdnfcoaaDoor
