/- The reference's Put. -/
import Derived.Test.YtkpmgdhaollheaaGP
namespace Go.Proofs.Ytkpmgdhaollheaa
open Go.RowKit Go.Shelf

/-- What is appended: m elements that can be read. -/
def RdNews (w : World) (v : Value) (m : Nat) (news : List Value) : Prop :=
  (v = .slice none 0 0 ∧ m = 0 ∧ news = []) ∨ ∃ ad c, v = .slice (some ad) m c ∧ ∀ j u, news[j]? = some u → w.cell? (ad.add j) = some u
theorem RdNews.below {w w' : World} {v : Value} {m : Nat} {news : List Value} (h : RdNews w v m news) (hb : Below w.heap.size w w') : RdNews w' v m news := by
  rcases h with h | ⟨ad, c, rfl, h⟩
  · exact .inl h
  · refine .inr ⟨ad, c, rfl, fun j u hu => ?_⟩
    have h1 := h j u hu
    have hlt := World.block_lt_of_cell? _ _ h1
    rw [hb.cell hlt]
    exact h1

section
variable {P : Program} (w : World)
theorem step_append_rd {ops : Array Oper} {o : Oper} {a : Act} {K : Act → World → Prop} {Q : Exit → Act → World → Prop} {E : Prop} (hgd : o.guard = none) (s x : Operand) (t : TypeId)
    (ho : o.op = .call { callee := .builtin .append, args := #[s, x], argTypes := #[t, t] })
    (base : Nat) (e : TypeId) (i : TypeInfo) (z : Value) (size bytes : Nat) (ht : P.underlying t = some (.slice e)) (hi : P.info? e = some i) (hz : i.zero = some z)
    (hsize : i.size = size) (hby : i.bytes = bytes) (hzs : z.cells.size = size) (hsz : 0 < size)
    (v : Value) (n : Nat) (xs : List Value) (hs : a.eval s = v) (hown : w.ownsRow base e size v n xs)
    (vx : Value) (m : Nat) (news : List Value) (hx : a.eval x = vx) (hr : RdNews w vx m news) (hl : news.length = m * size) (h1 : ∀ u ∈ news, u.oneCell' = true)
    (h63 : n + m ≤ maxLen) (hbytes : (n + m) * bytes ≤ 140737488355328) (hbase : base ≤ w.heap.size)
    (h : ∀ v' w', w'.ownsRow base e size v' (n + m) (xs ++ news) → w.grownBy w' v.ownBlock → K (a.put o.dst v') w') :
    if Region.wanted o (yielded ops a.tmps) = true then Oper.wp P o a w K Q else E := by
  have hw : Region.wanted o (yielded ops a.tmps) = true := by simp [Region.wanted, hgd]
  rw [if_pos hw]
  rcases hr with ⟨rfl, rfl, rfl⟩ | ⟨ad, c, rfl, hnews⟩
  · have hrun := run_append_owned_none (P := P) (w := w) base t o.type e i size ht hi v n xs hown
    unfold Oper.wp
    simp [execOp, ho, resolve, invoke, builtin, hs, hx, hrun, Result.andThen]
    exact h v w (by simpa using hown) (World.grownBy.refl _ _)
  · exact wp_append_own w s x t ho base e i z size bytes ht hi hz hsize hby hzs hsz v n xs hs hown ad m c news hx hl hnews h1 h63 hbytes hbase fun v' w' a b _ => h v' w' a b
end

/-- The same, where all rows are new since w0. -/
theorem step_append_b {P : Program} (w : World) {ops : Array Oper} {o : Oper} {a : Act} {K : Act → World → Prop} {Q : Exit → Act → World → Prop} {E : Prop} (hgd : o.guard = none) (s x : Operand) (t : TypeId)
    (ho : o.op = .call { callee := .builtin .append, args := #[s, x], argTypes := #[t, t] })
    (w0 : World) (hb : Below w0.heap.size w0 w) (e : TypeId) (i : TypeInfo) (z : Value) (size bytes : Nat) (ht : P.underlying t = some (.slice e)) (hi : P.info? e = some i) (hz : i.zero = some z)
    (hsize : i.size = size) (hby : i.bytes = bytes) (hzs : z.cells.size = size) (hsz : 0 < size)
    (v : Value) (n : Nat) (xs : List Value) (hs : a.eval s = v) (hown : w.ownsRow w0.heap.size e size v n xs)
    (vx : Value) (m : Nat) (news : List Value) (hx : a.eval x = vx) (hr : RdNews w vx m news) (hl : news.length = m * size) (h1 : ∀ u ∈ news, u.oneCell' = true)
    (h63 : n + m ≤ maxLen) (hbytes : (n + m) * bytes ≤ 140737488355328)
    (h : ∀ v' w', w'.ownsRow w0.heap.size e size v' (n + m) (xs ++ news) → w.grownBy w' v.ownBlock → Below w0.heap.size w0 w' → K (a.put o.dst v') w') :
    if Region.wanted o (yielded ops a.tmps) = true then Oper.wp P o a w K Q else E :=
  step_append_rd w hgd s x t ho w0.heap.size e i z size bytes ht hi hz hsize hby hzs hsz v n xs hs hown vx m news hx hr hl h1 h63 hbytes hb.size fun v' w' h2 h3 => h v' w' h2 h3 (hb.grown h3 hb.size (ownsRow_ge hown))

theorem oneI (l : List Int) : ∀ u ∈ l.map (Value.int .i64), u.oneCell' = true := by
  intro u hu
  obtain ⟨z, _, rfl⟩ := List.mem_map.1 hu
  rfl
theorem news_far {w w' : World} {row : Option Nat} {B : Nat} {news : List Value} (hg : w.grownBy w' row) (h : ∀ j u, news[j]? = some u → w.cell? ((⟨B, 0, none⟩ : Addr).add j) = some u) (hB : some B ≠ row) : ∀ j u, news[j]? = some u → w'.cell? ((⟨B, 0, none⟩ : Addr).add j) = some u := fun j u hu => hg.cell (h j u hu) (by
  have : ((⟨B, 0, none⟩ : Addr).add j).block = B := by unfold Addr.add; split <;> rfl
  rw [this]; exact hB)
theorem news_old {w : World} {o : Obj} {B : Nat} {news : List Value} (h : ∀ j u, news[j]? = some u → w.cell? ((⟨B, 0, none⟩ : Addr).add j) = some u) : ∀ j u, news[j]? = some u → (w.alloc o).cell? ((⟨B, 0, none⟩ : Addr).add j) = some u := fun j u hu => (World.grownBy_alloc w o none).cell (h j u hu) (by simp)
theorem made0 (w : World) (B : Nat) (hB : B ≤ w.heap.size) {b : Nat} (hb : b = w.heap.size) : (w.alloc (.cells #[] 3)).ownsRow B 3 1 (.slice (some ⟨b, 0, none⟩) 0 0) 0 [] := by
  subst hb
  exact World.ownsRow_made w #[] 0 hB (Nat.zero_le _) rfl

theorem rd_take {w : World} {B : Nat} {p : Option Addr} {n cap : Nat} {l : List Int} (h : w.ownsRow B 3 1 (.slice p n cap) n (l.map (Value.int .i64))) (k : Nat) (hk : k ≤ n) : RdNews w (.slice p k cap) k ((l.take k).map (Value.int .i64)) := by
  have hl : l.length = n := by simpa using h.1
  rcases h.2 with ⟨e, rfl⟩ | ⟨g, cap', cur, e, _⟩
  · cases e
    obtain rfl : k = 0 := by omega
    exact .inl ⟨rfl, rfl, by simp⟩
  · cases e
    refine .inr ⟨_, cap, rfl, fun j u hu => ?_⟩
    rw [List.map_take, List.getElem?_take] at hu
    split at hu
    · exact h.cells rfl j u hu
    · cases hu
theorem rd_drop {w : World} {B : Nat} {p : Option Addr} {n cap : Nat} {l : List Int} (h : w.ownsRow B 3 1 (.slice p n cap) n (l.map (Value.int .i64))) (k : Nat) (hk : k ≤ n) {p' : Option Addr} (hp : ∀ g, p = some ⟨g, 0, none⟩ → p' = some ⟨g, 0, none⟩ ∧ k = n ∨ p' = some ⟨g, k, none⟩) (hp0 : p = none → p' = none) : RdNews w (.slice p' (n - k) (cap - k)) (n - k) ((l.drop k).map (Value.int .i64)) := by
  have hl : l.length = n := by simpa using h.1
  rcases h.2 with ⟨e, rfl⟩ | ⟨g, cap', cur, e, _⟩
  · cases e
    obtain rfl : k = 0 := by omega
    rw [hp0 rfl]
    have : l = [] := List.eq_nil_of_length_eq_zero hl
    subst this
    exact .inl ⟨rfl, rfl, rfl⟩
  · cases e
    rcases hp g rfl with ⟨rfl, rfl⟩ | rfl
    · refine .inr ⟨_, _, rfl, fun j u hu => ?_⟩
      rw [List.drop_of_length_le (by omega)] at hu
      simp at hu
    · refine .inr ⟨_, _, rfl, fun j u hu => ?_⟩
      rw [List.map_drop, List.getElem?_drop] at hu
      have := h.cells rfl (k + j) u hu
      have e1 : (⟨g, 0, none⟩ : Addr).add (k + j) = ⟨g, k + j, none⟩ := by unfold Addr.add; split <;> simp_all
      have e2 : (⟨g, k, none⟩ : Addr).add j = ⟨g, k + j, none⟩ := by unfold Addr.add; split <;> simp_all
      rw [e1] at this
      rw [e2]
      exact this

set_option maxHeartbeats 2000000 in
set_option maxRecDepth 100000 in
theorem put_any (v : Value) (l : List Int) (x : Int) (B : Nat) (w : World) (h : OwnAt w B 3 1 encI v l) (hB : B ≤ w.heap.size) (hl : l.length ≤ 100000) :
    Calls Try.prog 82 #[v, .int .i64 x] w fun e w' => ∃ v', e = .returned v' ∧ OwnAt w' B 3 1 encI v' (putL x l) ∧ Below w.heap.size w w' := by
  obtain ⟨i0, hi, hz0, hz1, hz2⟩ := info_parts info_int
  have HR := Lib.hid h.rd
  obtain ⟨p, cap, rfl⟩ := h.shape
  have hcap : l.length ≤ cap := by
    rcases h.2 with ⟨e, h0⟩ | ⟨g, c, cur, e, _, _, hc, _⟩
    · omega
    · cases e; exact hc
  have HPt := Lib.hid (putL_at x l)
  obtain ⟨n, hn⟩ : ∃ n, n = l.length := ⟨_, rfl⟩
  rw [own_map] at h
  rw [← hn] at h hcap ⊢
  have HO := Lib.hid h
  have N := Lib.hid hn
  have hn' : (n : Int) ≤ 100000 := by omega
  have HCl := Lib.hid (show ∀ k, k < n → ∃ g, p = some ⟨g, 0, none⟩ ∧ w.cell? ⟨g, k, none⟩ = some (.int .i64 l[k]!) from fun k hk => by
    rcases h.2 with ⟨e, h0⟩ | ⟨g, c, cur, e, _⟩
    · omega
    · cases e
      refine ⟨g, rfl, ?_⟩
      rw [h.cellAt k (by omega)]
      simp [show k < l.length by omega])
  clear h hn
  go_enter Try.func82, Try.ntmps82
  go_wp2
  go_loopw [5] (fun i wr => ∃ k : Nat, k ≤ n ∧ i = .int .i64 k ∧ (∀ j, j < k → l[j]! < x) ∧ w = wr) (fun i _ => n - (intOf i).toNat)
  case atStart => exact ⟨0, Nat.zero_le _, rfl, fun j hj => absurd hj (Nat.not_lt_zero _), rfl⟩
  case round =>
    obtain ⟨k, hk, rfl, hall, rfl⟩ := hrel
    have hk0 : (0 : Int) ≤ (k : Int) := by omega
    have hk1 : (k : Int) ≤ (n : Int) := by omega
    by_cases hkn : k < n
    · obtain ⟨g, rfl, hc⟩ := HCl.out k hkn
      have hkn' : (k : Int) < (n : Int) := by omega
      by_cases hlt : l[k]! < x
      · have HS := Lib.hid (show ∀ j, j < k + 1 → l[j]! < x from fun j hj => by
          rcases Nat.lt_or_ge j k with h | h
          · exact hall j h
          · obtain rfl : j = k := by omega
            exact hlt)
        clear hall
        generalize l[k]! = y at *
        go_wp2
        go_roundw
        case rel => exact ⟨k + 1, by omega, by simp, HS.out, trivial⟩
        case measure => simp [intOf]; omega
      · have HP := Lib.hid (HPt.out k (by rw [← N.out]; exact hk) hall (.inr (by omega)))
        by_cases he : l[k]! = x
        · have HP2 := Lib.hid (show putL x l = l by rw [HP.out, if_pos ⟨by rw [← N.out]; exact hkn, he⟩])
          clear hall
          generalize l[k]! = y at *
          subst he
          go_wp2
          go_ret
          exact ⟨_, rfl, by rw [HP2.out, own_map, ← N.out]; exact HO.out, Below.refl _ _⟩
        · have HP2 := Lib.hid (show putL x l = l.take k ++ x :: l.drop k by rw [HP.out, if_neg fun h => he h.2])
          have he' : (l[k]! == x) = false := beq_eq_false_iff_ne.2 he
          clear hall
          generalize l[k]! = y at *
          go_wp2
          have q0 : Below w.heap.size w w.drew := (Below.refl _ _).drew
          have q1 : Below w.heap.size w (w.alloc (.cells #[] 3)).drew := ((Below.refl _ _).alloc (Nat.le_refl _) _).drew
          have q2 : Below w.heap.size w ((w.alloc (.cells #[] 3)).alloc (.cells #[.int .i64 x] 3)).drew := (((Below.refl _ _).alloc (Nat.le_refl _) _).alloc (by simp) _).drew
          have q3 : Below w.heap.size w (w.alloc (.cells #[.int .i64 x] 3)).drew := ((Below.refl _ _).alloc (Nat.le_refl _) _).drew
          have q4 : Below w.heap.size w ((w.alloc (.cells #[.int .i64 x] 3)).alloc (.cells #[] 3)).drew := (((Below.refl _ _).alloc (Nat.le_refl _) _).alloc (by simp) _).drew
          have hc1 : (k : Int) ≤ (cap : Int) := by omega
          have hc2 : (n : Int) ≤ (cap : Int) := by omega
          have hc3 : ¬ cap = k := by omega
          have HT := Lib.hid (fun (W : World) (hb : Below w.heap.size w W) => (rd_take HO.out k hk).below hb)
          have HT1 := Lib.hid (show ((l.take k).map (Value.int .i64)).length = k * 1 by rw [List.length_map, List.length_take, ← N.out]; omega)
          have HO1 := Lib.hid (show ∀ u ∈ ((l.take k).map (Value.int .i64)), u.oneCell' = true from oneI _)
          have HO2 := Lib.hid (show ∀ u ∈ ([.int .i64 x] : List Value), u.oneCell' = true from oneI [x])
          have HO3 := Lib.hid (show ∀ u ∈ ((l.drop k).map (Value.int .i64)), u.oneCell' = true from oneI _)
          have HD1 := Lib.hid (show ((l.drop k).map (Value.int .i64)).length = (n - k) * 1 by rw [List.length_map, List.length_drop, ← N.out]; omega)
          have HD := Lib.hid (fun (W : World) (hb : Below w.heap.size w W) => (rd_drop HO.out k hk (p' := some ⟨g, k, none⟩) (fun g' e => by cases e; exact .inr rfl) (fun e => by cases e)).below hb)
          have NB2 := Lib.hid (show ∀ j u, ([.int .i64 x] : List Value)[j]? = some u → ((w.alloc (.cells #[] 3)).alloc (.cells #[.int .i64 x] 3)).drew.cell? ((⟨w.heap.size + 1, 0, none⟩ : Addr).add j) = some u from fun j u hu => (news_at (w := w.alloc (.cells #[] 3)) (cs := #[.int .i64 x]) (t := 3) (by simp) j u hu : ((w.alloc (.cells #[] 3)).alloc (.cells #[.int .i64 x] 3)).cell? _ = some u))
          have NB3 := Lib.hid (show ∀ j u, ([.int .i64 x] : List Value)[j]? = some u → ((w.alloc (.cells #[.int .i64 x] 3)).alloc (.cells #[] 3)).drew.cell? ((⟨w.heap.size, 0, none⟩ : Addr).add j) = some u from fun j u hu => (news_old (news_at (w := w) (cs := #[.int .i64 x]) (t := 3) rfl) j u hu : ((w.alloc (.cells #[.int .i64 x] 3)).alloc (.cells #[] 3)).cell? _ = some u))
          go_region_held3 (fun w' => Below w.heap.size w w') (first | assumption | exact Below.drew (by assumption) | exact Below.alloc kb2 kb2.size _ | fail) (first
            | (refine step_append_b _ (by rfl) _ _ _ (by rfl) w (show Below w.heap.size w (w.alloc (.cells #[] 3)).drew from ((Below.refl _ _).alloc (Nat.le_refl _) _).drew) 3 i0 _ 1 8 Try.underlying22 hi hz0 hz1 hz2 rfl (by decide) (.slice (some ⟨w.heap.size, 0, none⟩) 0 0) 0 [] (by rfl) (made0 w _ (Nat.le_refl _) rfl) (.slice (some ⟨g, 0, none⟩) k cap) k ((l.take k).map (Value.int .i64)) (by rfl) (HT.out _ (show Below w.heap.size w (w.alloc (.cells #[] 3)).drew from ((Below.refl _ _).alloc (Nat.le_refl _) _).drew)) HT1.out HO1.out (by unfold maxLen; omega) (by omega) ?_; intro v2 w2 hown2 hgr2 kb2)
            | (refine step_append_b _ (by rfl) _ _ _ (by rfl) w (show Below w.heap.size w ((w.alloc (.cells #[] 3)).alloc (.cells #[.int .i64 x] 3)).drew from (((Below.refl _ _).alloc (Nat.le_refl _) _).alloc (by simp) _).drew) 3 i0 _ 1 8 Try.underlying22 hi hz0 hz1 hz2 rfl (by decide) (.slice (some ⟨w.heap.size, 0, none⟩) 0 0) 0 [] (by rfl) (World.ownsRow.alloc (made0 w _ (Nat.le_refl _) rfl) (.cells #[.int .i64 x] 3)) (.slice (some ⟨g, 0, none⟩) k cap) k ((l.take k).map (Value.int .i64)) (by rfl) (HT.out _ (show Below w.heap.size w ((w.alloc (.cells #[] 3)).alloc (.cells #[.int .i64 x] 3)).drew from (((Below.refl _ _).alloc (Nat.le_refl _) _).alloc (by simp) _).drew)) HT1.out HO1.out (by unfold maxLen; omega) (by omega) ?_; intro v2 w2 hown2 hgr2 kb2; have nb := news_far (B := w.heap.size + 1) hgr2 NB2.out (by simp [Value.ownBlock]))
            | (refine step_append_b _ (by rfl) _ _ _ (by rfl) w (show Below w.heap.size w ((w.alloc (.cells #[.int .i64 x] 3)).alloc (.cells #[] 3)).drew from (((Below.refl _ _).alloc (Nat.le_refl _) _).alloc (by simp) _).drew) 3 i0 _ 1 8 Try.underlying22 hi hz0 hz1 hz2 rfl (by decide) (.slice (some ⟨w.heap.size + 1, 0, none⟩) 0 0) 0 [] (by rfl) (made0 (w.alloc (.cells #[.int .i64 x] 3)) _ (by simp) (by simp)) (.slice (some ⟨g, 0, none⟩) k cap) k ((l.take k).map (Value.int .i64)) (by rfl) (HT.out _ (show Below w.heap.size w ((w.alloc (.cells #[.int .i64 x] 3)).alloc (.cells #[] 3)).drew from (((Below.refl _ _).alloc (Nat.le_refl _) _).alloc (by simp) _).drew)) HT1.out HO1.out (by unfold maxLen; omega) (by omega) ?_; intro v2 w2 hown2 hgr2 kb2; have nb := news_far (B := w.heap.size) hgr2 NB3.out (by simp [Value.ownBlock]))
            | (refine step_append_b _ (by rfl) _ _ _ (by rfl) w (kb2.alloc kb2.size (.cells #[.int .i64 x] 3)) 3 i0 _ 1 8 Try.underlying22 hi hz0 hz1 hz2 rfl (by decide) v2 (0 + k) ([] ++ ((l.take k).map (Value.int .i64))) (by rfl) (World.ownsRow.alloc hown2 (.cells #[.int .i64 x] 3)) (.slice (some ⟨w2.heap.size, 0, none⟩) 1 1) 1 [.int .i64 x] (by rfl) (.inr ⟨_, _, rfl, news_at (cs := #[.int .i64 x]) rfl⟩) rfl HO2.out (by unfold maxLen; omega) (by omega) ?_; intro v3 w3 hown3 hgr3 kb3)
            | (refine step_append_b _ (by rfl) _ _ _ (by rfl) w kb2 3 i0 _ 1 8 Try.underlying22 hi hz0 hz1 hz2 rfl (by decide) v2 (0 + k) ([] ++ ((l.take k).map (Value.int .i64))) (by rfl) hown2 (.slice (some ⟨w.heap.size + 1, 0, none⟩) 1 1) 1 [.int .i64 x] (by rfl) (.inr ⟨_, _, rfl, nb⟩) rfl HO2.out (by unfold maxLen; omega) (by omega) ?_; intro v3 w3 hown3 hgr3 kb3)
            | (refine step_append_b _ (by rfl) _ _ _ (by rfl) w kb2 3 i0 _ 1 8 Try.underlying22 hi hz0 hz1 hz2 rfl (by decide) v2 (0 + k) ([] ++ ((l.take k).map (Value.int .i64))) (by rfl) hown2 (.slice (some ⟨w.heap.size, 0, none⟩) 1 1) 1 [.int .i64 x] (by rfl) (.inr ⟨_, _, rfl, nb⟩) rfl HO2.out (by unfold maxLen; omega) (by omega) ?_; intro v3 w3 hown3 hgr3 kb3)
            | (refine step_append_b _ (by rfl) _ _ _ (by rfl) w kb3 3 i0 _ 1 8 Try.underlying22 hi hz0 hz1 hz2 rfl (by decide) v3 (0 + k + 1) (([] ++ ((l.take k).map (Value.int .i64))) ++ [.int .i64 x]) (by rfl) hown3 (.slice (some ⟨g, k, none⟩) (n - k) (cap - k)) (n - k) ((l.drop k).map (Value.int .i64)) (by rfl) (HD.out _ kb3) HD1.out HO3.out (by unfold maxLen; omega) (by omega) ?_; intro v4 w4 hown4 hgr4 kb4)
            | fail)
          all_goals
            go_wp2
            go_ret
            refine ⟨_, rfl, ?_, kb4⟩
            rw [HP2.out, own_map]
            have e : (l.take k ++ x :: l.drop k).length = 0 + k + 1 + (n - k) := by rw [List.length_append, List.length_cons, List.length_take, List.length_drop, ← N.out]; omega
            rw [e]
            have hm := World.ownsRow.mono hown4 hB
            simpa using hm
    · obtain rfl : k = n := by omega
      have HP := Lib.hid (HPt.out k (by rw [← N.out]; exact Nat.le_refl _) hall (.inl N.out))
      have HP2 := Lib.hid (show putL x l = l ++ [x] by rw [HP.out, if_neg fun h => by have := h.1; rw [← N.out] at this; omega, List.take_of_length_le (by rw [← N.out]; exact Nat.le_refl _), List.drop_of_length_le (by rw [← N.out]; exact Nat.le_refl _)])
      clear hall
      rcases HO.out.2 with ⟨e, h0⟩ | ⟨g, c, cur, e, _⟩
      · cases e
        go_wp2
        have q0 : Below w.heap.size w w.drew := (Below.refl _ _).drew
        have q1 : Below w.heap.size w (w.alloc (.cells #[] 3)).drew := ((Below.refl _ _).alloc (Nat.le_refl _) _).drew
        have q2 : Below w.heap.size w ((w.alloc (.cells #[] 3)).alloc (.cells #[.int .i64 x] 3)).drew := (((Below.refl _ _).alloc (Nat.le_refl _) _).alloc (by simp) _).drew
        have q3 : Below w.heap.size w (w.alloc (.cells #[.int .i64 x] 3)).drew := ((Below.refl _ _).alloc (Nat.le_refl _) _).drew
        have q4 : Below w.heap.size w ((w.alloc (.cells #[.int .i64 x] 3)).alloc (.cells #[] 3)).drew := (((Below.refl _ _).alloc (Nat.le_refl _) _).alloc (by simp) _).drew
        have HT := Lib.hid (fun (W : World) (hb : Below w.heap.size w W) => (show RdNews w (.slice none 0 0) 0 ((l.take 0).map (Value.int .i64)) from .inl ⟨rfl, rfl, rfl⟩).below hb)
        have HT1 := Lib.hid (show ((l.take 0).map (Value.int .i64)).length = 0 * 1 by rw [List.length_map, List.length_take, ← N.out]; omega)
        have HO1 := Lib.hid (show ∀ u ∈ ((l.take 0).map (Value.int .i64)), u.oneCell' = true from oneI _)
        have HO2 := Lib.hid (show ∀ u ∈ ([.int .i64 x] : List Value), u.oneCell' = true from oneI [x])
        have HO3 := Lib.hid (show ∀ u ∈ ([] : List Value), u.oneCell' = true from oneI [])
        have NB2 := Lib.hid (show ∀ j u, ([.int .i64 x] : List Value)[j]? = some u → ((w.alloc (.cells #[] 3)).alloc (.cells #[.int .i64 x] 3)).drew.cell? ((⟨w.heap.size + 1, 0, none⟩ : Addr).add j) = some u from fun j u hu => (news_at (w := w.alloc (.cells #[] 3)) (cs := #[.int .i64 x]) (t := 3) (by simp) j u hu : ((w.alloc (.cells #[] 3)).alloc (.cells #[.int .i64 x] 3)).cell? _ = some u))
        have NB3 := Lib.hid (show ∀ j u, ([.int .i64 x] : List Value)[j]? = some u → ((w.alloc (.cells #[.int .i64 x] 3)).alloc (.cells #[] 3)).drew.cell? ((⟨w.heap.size, 0, none⟩ : Addr).add j) = some u from fun j u hu => (news_old (news_at (w := w) (cs := #[.int .i64 x]) (t := 3) rfl) j u hu : ((w.alloc (.cells #[.int .i64 x] 3)).alloc (.cells #[] 3)).cell? _ = some u))
        go_region_held3 (fun w' => Below w.heap.size w w') (first | assumption | exact Below.drew (by assumption) | exact Below.alloc kb2 kb2.size _ | fail) (first
          | (refine step_append_b _ (by rfl) _ _ _ (by rfl) w (show Below w.heap.size w (w.alloc (.cells #[] 3)).drew from ((Below.refl _ _).alloc (Nat.le_refl _) _).drew) 3 i0 _ 1 8 Try.underlying22 hi hz0 hz1 hz2 rfl (by decide) (.slice (some ⟨w.heap.size, 0, none⟩) 0 0) 0 [] (by rfl) (made0 w _ (Nat.le_refl _) rfl) (.slice none 0 0) 0 ((l.take 0).map (Value.int .i64)) (by rfl) (HT.out _ (show Below w.heap.size w (w.alloc (.cells #[] 3)).drew from ((Below.refl _ _).alloc (Nat.le_refl _) _).drew)) HT1.out HO1.out (by unfold maxLen; omega) (by omega) ?_; intro v2 w2 hown2 hgr2 kb2)
          | (refine step_append_b _ (by rfl) _ _ _ (by rfl) w (show Below w.heap.size w ((w.alloc (.cells #[] 3)).alloc (.cells #[.int .i64 x] 3)).drew from (((Below.refl _ _).alloc (Nat.le_refl _) _).alloc (by simp) _).drew) 3 i0 _ 1 8 Try.underlying22 hi hz0 hz1 hz2 rfl (by decide) (.slice (some ⟨w.heap.size, 0, none⟩) 0 0) 0 [] (by rfl) (World.ownsRow.alloc (made0 w _ (Nat.le_refl _) rfl) (.cells #[.int .i64 x] 3)) (.slice none 0 0) 0 ((l.take 0).map (Value.int .i64)) (by rfl) (HT.out _ (show Below w.heap.size w ((w.alloc (.cells #[] 3)).alloc (.cells #[.int .i64 x] 3)).drew from (((Below.refl _ _).alloc (Nat.le_refl _) _).alloc (by simp) _).drew)) HT1.out HO1.out (by unfold maxLen; omega) (by omega) ?_; intro v2 w2 hown2 hgr2 kb2; have nb := news_far (B := w.heap.size + 1) hgr2 NB2.out (by simp [Value.ownBlock]))
          | (refine step_append_b _ (by rfl) _ _ _ (by rfl) w (show Below w.heap.size w ((w.alloc (.cells #[.int .i64 x] 3)).alloc (.cells #[] 3)).drew from (((Below.refl _ _).alloc (Nat.le_refl _) _).alloc (by simp) _).drew) 3 i0 _ 1 8 Try.underlying22 hi hz0 hz1 hz2 rfl (by decide) (.slice (some ⟨w.heap.size + 1, 0, none⟩) 0 0) 0 [] (by rfl) (made0 (w.alloc (.cells #[.int .i64 x] 3)) _ (by simp) (by simp)) (.slice none 0 0) 0 ((l.take 0).map (Value.int .i64)) (by rfl) (HT.out _ (show Below w.heap.size w ((w.alloc (.cells #[.int .i64 x] 3)).alloc (.cells #[] 3)).drew from (((Below.refl _ _).alloc (Nat.le_refl _) _).alloc (by simp) _).drew)) HT1.out HO1.out (by unfold maxLen; omega) (by omega) ?_; intro v2 w2 hown2 hgr2 kb2; have nb := news_far (B := w.heap.size) hgr2 NB3.out (by simp [Value.ownBlock]))
          | (refine step_append_b _ (by rfl) _ _ _ (by rfl) w (kb2.alloc kb2.size (.cells #[.int .i64 x] 3)) 3 i0 _ 1 8 Try.underlying22 hi hz0 hz1 hz2 rfl (by decide) v2 (0 + 0) ([] ++ ((l.take 0).map (Value.int .i64))) (by rfl) (World.ownsRow.alloc hown2 (.cells #[.int .i64 x] 3)) (.slice (some ⟨w2.heap.size, 0, none⟩) 1 1) 1 [.int .i64 x] (by rfl) (.inr ⟨_, _, rfl, news_at (cs := #[.int .i64 x]) rfl⟩) rfl HO2.out (by unfold maxLen; omega) (by omega) ?_; intro v3 w3 hown3 hgr3 kb3)
          | (refine step_append_b _ (by rfl) _ _ _ (by rfl) w kb2 3 i0 _ 1 8 Try.underlying22 hi hz0 hz1 hz2 rfl (by decide) v2 (0 + 0) ([] ++ ((l.take 0).map (Value.int .i64))) (by rfl) hown2 (.slice (some ⟨w.heap.size + 1, 0, none⟩) 1 1) 1 [.int .i64 x] (by rfl) (.inr ⟨_, _, rfl, nb⟩) rfl HO2.out (by unfold maxLen; omega) (by omega) ?_; intro v3 w3 hown3 hgr3 kb3)
          | (refine step_append_b _ (by rfl) _ _ _ (by rfl) w kb2 3 i0 _ 1 8 Try.underlying22 hi hz0 hz1 hz2 rfl (by decide) v2 (0 + 0) ([] ++ ((l.take 0).map (Value.int .i64))) (by rfl) hown2 (.slice (some ⟨w.heap.size, 0, none⟩) 1 1) 1 [.int .i64 x] (by rfl) (.inr ⟨_, _, rfl, nb⟩) rfl HO2.out (by unfold maxLen; omega) (by omega) ?_; intro v3 w3 hown3 hgr3 kb3)
          | (refine step_append_b _ (by rfl) _ _ _ (by rfl) w kb3 3 i0 _ 1 8 Try.underlying22 hi hz0 hz1 hz2 rfl (by decide) v3 (0 + 0 + 1) (([] ++ ((l.take 0).map (Value.int .i64))) ++ [.int .i64 x]) (by rfl) hown3 (.slice none 0 0) 0 [] (by rfl) (.inl ⟨rfl, rfl, rfl⟩) rfl HO3.out (by unfold maxLen; omega) (by omega) ?_; intro v4 w4 hown4 hgr4 kb4)
          | fail)
        all_goals
          go_wp2
          go_ret
          refine ⟨_, rfl, ?_, kb4⟩
          rw [HP2.out, own_map]
          have hm := World.ownsRow.mono hown4 hB
          have e0 : l.length = 0 := N.out.symm
          have e : (l ++ [x]).length = 0 + 0 + 1 + 0 := by rw [List.length_append, e0]; simp
          rw [e]
          have e2 : l.take 0 = l := List.take_of_length_le (by omega)
          simpa [e2] using hm
      · cases e
        by_cases hck : cap = k
        · obtain rfl : k = cap := hck.symm
          clear hck
          go_wp2
          have q0 : Below w.heap.size w w.drew := (Below.refl _ _).drew
          have q1 : Below w.heap.size w (w.alloc (.cells #[] 3)).drew := ((Below.refl _ _).alloc (Nat.le_refl _) _).drew
          have q2 : Below w.heap.size w ((w.alloc (.cells #[] 3)).alloc (.cells #[.int .i64 x] 3)).drew := (((Below.refl _ _).alloc (Nat.le_refl _) _).alloc (by simp) _).drew
          have q3 : Below w.heap.size w (w.alloc (.cells #[.int .i64 x] 3)).drew := ((Below.refl _ _).alloc (Nat.le_refl _) _).drew
          have q4 : Below w.heap.size w ((w.alloc (.cells #[.int .i64 x] 3)).alloc (.cells #[] 3)).drew := (((Below.refl _ _).alloc (Nat.le_refl _) _).alloc (by simp) _).drew
          have hc2 : (k : Int) ≤ (k : Int) := by omega
          have HT := Lib.hid (fun (W : World) (hb : Below w.heap.size w W) => (rd_take HO.out k hk).below hb)
          have HT1 := Lib.hid (show ((l.take k).map (Value.int .i64)).length = k * 1 by rw [List.length_map, List.length_take, ← N.out]; omega)
          have HO1 := Lib.hid (show ∀ u ∈ ((l.take k).map (Value.int .i64)), u.oneCell' = true from oneI _)
          have HO2 := Lib.hid (show ∀ u ∈ ([.int .i64 x] : List Value), u.oneCell' = true from oneI [x])
          have HO3 := Lib.hid (show ∀ u ∈ ([] : List Value), u.oneCell' = true from oneI [])
          have NB2 := Lib.hid (show ∀ j u, ([.int .i64 x] : List Value)[j]? = some u → ((w.alloc (.cells #[] 3)).alloc (.cells #[.int .i64 x] 3)).drew.cell? ((⟨w.heap.size + 1, 0, none⟩ : Addr).add j) = some u from fun j u hu => (news_at (w := w.alloc (.cells #[] 3)) (cs := #[.int .i64 x]) (t := 3) (by simp) j u hu : ((w.alloc (.cells #[] 3)).alloc (.cells #[.int .i64 x] 3)).cell? _ = some u))
          have NB3 := Lib.hid (show ∀ j u, ([.int .i64 x] : List Value)[j]? = some u → ((w.alloc (.cells #[.int .i64 x] 3)).alloc (.cells #[] 3)).drew.cell? ((⟨w.heap.size, 0, none⟩ : Addr).add j) = some u from fun j u hu => (news_old (news_at (w := w) (cs := #[.int .i64 x]) (t := 3) rfl) j u hu : ((w.alloc (.cells #[.int .i64 x] 3)).alloc (.cells #[] 3)).cell? _ = some u))
          go_region_held3 (fun w' => Below w.heap.size w w') (first | assumption | exact Below.drew (by assumption) | exact Below.alloc kb2 kb2.size _ | fail) (first
            | (refine step_append_b _ (by rfl) _ _ _ (by rfl) w (show Below w.heap.size w (w.alloc (.cells #[] 3)).drew from ((Below.refl _ _).alloc (Nat.le_refl _) _).drew) 3 i0 _ 1 8 Try.underlying22 hi hz0 hz1 hz2 rfl (by decide) (.slice (some ⟨w.heap.size, 0, none⟩) 0 0) 0 [] (by rfl) (made0 w _ (Nat.le_refl _) rfl) (.slice (some ⟨g, 0, none⟩) k k) k ((l.take k).map (Value.int .i64)) (by rfl) (HT.out _ (show Below w.heap.size w (w.alloc (.cells #[] 3)).drew from ((Below.refl _ _).alloc (Nat.le_refl _) _).drew)) HT1.out HO1.out (by unfold maxLen; omega) (by omega) ?_; intro v2 w2 hown2 hgr2 kb2)
            | (refine step_append_b _ (by rfl) _ _ _ (by rfl) w (show Below w.heap.size w ((w.alloc (.cells #[] 3)).alloc (.cells #[.int .i64 x] 3)).drew from (((Below.refl _ _).alloc (Nat.le_refl _) _).alloc (by simp) _).drew) 3 i0 _ 1 8 Try.underlying22 hi hz0 hz1 hz2 rfl (by decide) (.slice (some ⟨w.heap.size, 0, none⟩) 0 0) 0 [] (by rfl) (World.ownsRow.alloc (made0 w _ (Nat.le_refl _) rfl) (.cells #[.int .i64 x] 3)) (.slice (some ⟨g, 0, none⟩) k k) k ((l.take k).map (Value.int .i64)) (by rfl) (HT.out _ (show Below w.heap.size w ((w.alloc (.cells #[] 3)).alloc (.cells #[.int .i64 x] 3)).drew from (((Below.refl _ _).alloc (Nat.le_refl _) _).alloc (by simp) _).drew)) HT1.out HO1.out (by unfold maxLen; omega) (by omega) ?_; intro v2 w2 hown2 hgr2 kb2; have nb := news_far (B := w.heap.size + 1) hgr2 NB2.out (by simp [Value.ownBlock]))
            | (refine step_append_b _ (by rfl) _ _ _ (by rfl) w (show Below w.heap.size w ((w.alloc (.cells #[.int .i64 x] 3)).alloc (.cells #[] 3)).drew from (((Below.refl _ _).alloc (Nat.le_refl _) _).alloc (by simp) _).drew) 3 i0 _ 1 8 Try.underlying22 hi hz0 hz1 hz2 rfl (by decide) (.slice (some ⟨w.heap.size + 1, 0, none⟩) 0 0) 0 [] (by rfl) (made0 (w.alloc (.cells #[.int .i64 x] 3)) _ (by simp) (by simp)) (.slice (some ⟨g, 0, none⟩) k k) k ((l.take k).map (Value.int .i64)) (by rfl) (HT.out _ (show Below w.heap.size w ((w.alloc (.cells #[.int .i64 x] 3)).alloc (.cells #[] 3)).drew from (((Below.refl _ _).alloc (Nat.le_refl _) _).alloc (by simp) _).drew)) HT1.out HO1.out (by unfold maxLen; omega) (by omega) ?_; intro v2 w2 hown2 hgr2 kb2; have nb := news_far (B := w.heap.size) hgr2 NB3.out (by simp [Value.ownBlock]))
            | (refine step_append_b _ (by rfl) _ _ _ (by rfl) w (kb2.alloc kb2.size (.cells #[.int .i64 x] 3)) 3 i0 _ 1 8 Try.underlying22 hi hz0 hz1 hz2 rfl (by decide) v2 (0 + k) ([] ++ ((l.take k).map (Value.int .i64))) (by rfl) (World.ownsRow.alloc hown2 (.cells #[.int .i64 x] 3)) (.slice (some ⟨w2.heap.size, 0, none⟩) 1 1) 1 [.int .i64 x] (by rfl) (.inr ⟨_, _, rfl, news_at (cs := #[.int .i64 x]) rfl⟩) rfl HO2.out (by unfold maxLen; omega) (by omega) ?_; intro v3 w3 hown3 hgr3 kb3)
            | (refine step_append_b _ (by rfl) _ _ _ (by rfl) w kb2 3 i0 _ 1 8 Try.underlying22 hi hz0 hz1 hz2 rfl (by decide) v2 (0 + k) ([] ++ ((l.take k).map (Value.int .i64))) (by rfl) hown2 (.slice (some ⟨w.heap.size + 1, 0, none⟩) 1 1) 1 [.int .i64 x] (by rfl) (.inr ⟨_, _, rfl, nb⟩) rfl HO2.out (by unfold maxLen; omega) (by omega) ?_; intro v3 w3 hown3 hgr3 kb3)
            | (refine step_append_b _ (by rfl) _ _ _ (by rfl) w kb2 3 i0 _ 1 8 Try.underlying22 hi hz0 hz1 hz2 rfl (by decide) v2 (0 + k) ([] ++ ((l.take k).map (Value.int .i64))) (by rfl) hown2 (.slice (some ⟨w.heap.size, 0, none⟩) 1 1) 1 [.int .i64 x] (by rfl) (.inr ⟨_, _, rfl, nb⟩) rfl HO2.out (by unfold maxLen; omega) (by omega) ?_; intro v3 w3 hown3 hgr3 kb3)
            | (refine step_append_b _ (by rfl) _ _ _ (by rfl) w kb3 3 i0 _ 1 8 Try.underlying22 hi hz0 hz1 hz2 rfl (by decide) v3 (0 + k + 1) (([] ++ ((l.take k).map (Value.int .i64))) ++ [.int .i64 x]) (by rfl) hown3 (.slice (some ⟨g, 0, none⟩) 0 0) 0 [] (by rfl) (.inr ⟨_, _, rfl, fun j u hu => by simp at hu⟩) rfl HO3.out (by unfold maxLen; omega) (by omega) ?_; intro v4 w4 hown4 hgr4 kb4)
            | fail)
          all_goals
            go_wp2
            go_ret
            refine ⟨_, rfl, ?_, kb4⟩
            rw [HP2.out, own_map]
            have hm := World.ownsRow.mono hown4 hB
            have e0 : l.length = k := N.out.symm
            have e : (l ++ [x]).length = 0 + k + 1 + 0 := by rw [List.length_append, e0]; simp
            rw [e]
            have e2 : l.take k = l := List.take_of_length_le (by omega)
            simpa [e2] using hm
        · go_wp2
          have q0 : Below w.heap.size w w.drew := (Below.refl _ _).drew
          have q1 : Below w.heap.size w (w.alloc (.cells #[] 3)).drew := ((Below.refl _ _).alloc (Nat.le_refl _) _).drew
          have q2 : Below w.heap.size w ((w.alloc (.cells #[] 3)).alloc (.cells #[.int .i64 x] 3)).drew := (((Below.refl _ _).alloc (Nat.le_refl _) _).alloc (by simp) _).drew
          have q3 : Below w.heap.size w (w.alloc (.cells #[.int .i64 x] 3)).drew := ((Below.refl _ _).alloc (Nat.le_refl _) _).drew
          have q4 : Below w.heap.size w ((w.alloc (.cells #[.int .i64 x] 3)).alloc (.cells #[] 3)).drew := (((Below.refl _ _).alloc (Nat.le_refl _) _).alloc (by simp) _).drew
          have hc2 : (k : Int) ≤ (cap : Int) := by omega
          have hc3 : ¬ cap = k := hck
          have HT := Lib.hid (fun (W : World) (hb : Below w.heap.size w W) => (rd_take HO.out k hk).below hb)
          have HT1 := Lib.hid (show ((l.take k).map (Value.int .i64)).length = k * 1 by rw [List.length_map, List.length_take, ← N.out]; omega)
          have HO1 := Lib.hid (show ∀ u ∈ ((l.take k).map (Value.int .i64)), u.oneCell' = true from oneI _)
          have HO2 := Lib.hid (show ∀ u ∈ ([.int .i64 x] : List Value), u.oneCell' = true from oneI [x])
          have HO3 := Lib.hid (show ∀ u ∈ ([] : List Value), u.oneCell' = true from oneI [])
          have NB2 := Lib.hid (show ∀ j u, ([.int .i64 x] : List Value)[j]? = some u → ((w.alloc (.cells #[] 3)).alloc (.cells #[.int .i64 x] 3)).drew.cell? ((⟨w.heap.size + 1, 0, none⟩ : Addr).add j) = some u from fun j u hu => (news_at (w := w.alloc (.cells #[] 3)) (cs := #[.int .i64 x]) (t := 3) (by simp) j u hu : ((w.alloc (.cells #[] 3)).alloc (.cells #[.int .i64 x] 3)).cell? _ = some u))
          have NB3 := Lib.hid (show ∀ j u, ([.int .i64 x] : List Value)[j]? = some u → ((w.alloc (.cells #[.int .i64 x] 3)).alloc (.cells #[] 3)).drew.cell? ((⟨w.heap.size, 0, none⟩ : Addr).add j) = some u from fun j u hu => (news_old (news_at (w := w) (cs := #[.int .i64 x]) (t := 3) rfl) j u hu : ((w.alloc (.cells #[.int .i64 x] 3)).alloc (.cells #[] 3)).cell? _ = some u))
          go_region_held3 (fun w' => Below w.heap.size w w') (first | assumption | exact Below.drew (by assumption) | exact Below.alloc kb2 kb2.size _ | fail) (first
            | (refine step_append_b _ (by rfl) _ _ _ (by rfl) w (show Below w.heap.size w (w.alloc (.cells #[] 3)).drew from ((Below.refl _ _).alloc (Nat.le_refl _) _).drew) 3 i0 _ 1 8 Try.underlying22 hi hz0 hz1 hz2 rfl (by decide) (.slice (some ⟨w.heap.size, 0, none⟩) 0 0) 0 [] (by rfl) (made0 w _ (Nat.le_refl _) rfl) (.slice (some ⟨g, 0, none⟩) k cap) k ((l.take k).map (Value.int .i64)) (by rfl) (HT.out _ (show Below w.heap.size w (w.alloc (.cells #[] 3)).drew from ((Below.refl _ _).alloc (Nat.le_refl _) _).drew)) HT1.out HO1.out (by unfold maxLen; omega) (by omega) ?_; intro v2 w2 hown2 hgr2 kb2)
            | (refine step_append_b _ (by rfl) _ _ _ (by rfl) w (show Below w.heap.size w ((w.alloc (.cells #[] 3)).alloc (.cells #[.int .i64 x] 3)).drew from (((Below.refl _ _).alloc (Nat.le_refl _) _).alloc (by simp) _).drew) 3 i0 _ 1 8 Try.underlying22 hi hz0 hz1 hz2 rfl (by decide) (.slice (some ⟨w.heap.size, 0, none⟩) 0 0) 0 [] (by rfl) (World.ownsRow.alloc (made0 w _ (Nat.le_refl _) rfl) (.cells #[.int .i64 x] 3)) (.slice (some ⟨g, 0, none⟩) k cap) k ((l.take k).map (Value.int .i64)) (by rfl) (HT.out _ (show Below w.heap.size w ((w.alloc (.cells #[] 3)).alloc (.cells #[.int .i64 x] 3)).drew from (((Below.refl _ _).alloc (Nat.le_refl _) _).alloc (by simp) _).drew)) HT1.out HO1.out (by unfold maxLen; omega) (by omega) ?_; intro v2 w2 hown2 hgr2 kb2; have nb := news_far (B := w.heap.size + 1) hgr2 NB2.out (by simp [Value.ownBlock]))
            | (refine step_append_b _ (by rfl) _ _ _ (by rfl) w (show Below w.heap.size w ((w.alloc (.cells #[.int .i64 x] 3)).alloc (.cells #[] 3)).drew from (((Below.refl _ _).alloc (Nat.le_refl _) _).alloc (by simp) _).drew) 3 i0 _ 1 8 Try.underlying22 hi hz0 hz1 hz2 rfl (by decide) (.slice (some ⟨w.heap.size + 1, 0, none⟩) 0 0) 0 [] (by rfl) (made0 (w.alloc (.cells #[.int .i64 x] 3)) _ (by simp) (by simp)) (.slice (some ⟨g, 0, none⟩) k cap) k ((l.take k).map (Value.int .i64)) (by rfl) (HT.out _ (show Below w.heap.size w ((w.alloc (.cells #[.int .i64 x] 3)).alloc (.cells #[] 3)).drew from (((Below.refl _ _).alloc (Nat.le_refl _) _).alloc (by simp) _).drew)) HT1.out HO1.out (by unfold maxLen; omega) (by omega) ?_; intro v2 w2 hown2 hgr2 kb2; have nb := news_far (B := w.heap.size) hgr2 NB3.out (by simp [Value.ownBlock]))
            | (refine step_append_b _ (by rfl) _ _ _ (by rfl) w (kb2.alloc kb2.size (.cells #[.int .i64 x] 3)) 3 i0 _ 1 8 Try.underlying22 hi hz0 hz1 hz2 rfl (by decide) v2 (0 + k) ([] ++ ((l.take k).map (Value.int .i64))) (by rfl) (World.ownsRow.alloc hown2 (.cells #[.int .i64 x] 3)) (.slice (some ⟨w2.heap.size, 0, none⟩) 1 1) 1 [.int .i64 x] (by rfl) (.inr ⟨_, _, rfl, news_at (cs := #[.int .i64 x]) rfl⟩) rfl HO2.out (by unfold maxLen; omega) (by omega) ?_; intro v3 w3 hown3 hgr3 kb3)
            | (refine step_append_b _ (by rfl) _ _ _ (by rfl) w kb2 3 i0 _ 1 8 Try.underlying22 hi hz0 hz1 hz2 rfl (by decide) v2 (0 + k) ([] ++ ((l.take k).map (Value.int .i64))) (by rfl) hown2 (.slice (some ⟨w.heap.size + 1, 0, none⟩) 1 1) 1 [.int .i64 x] (by rfl) (.inr ⟨_, _, rfl, nb⟩) rfl HO2.out (by unfold maxLen; omega) (by omega) ?_; intro v3 w3 hown3 hgr3 kb3)
            | (refine step_append_b _ (by rfl) _ _ _ (by rfl) w kb2 3 i0 _ 1 8 Try.underlying22 hi hz0 hz1 hz2 rfl (by decide) v2 (0 + k) ([] ++ ((l.take k).map (Value.int .i64))) (by rfl) hown2 (.slice (some ⟨w.heap.size, 0, none⟩) 1 1) 1 [.int .i64 x] (by rfl) (.inr ⟨_, _, rfl, nb⟩) rfl HO2.out (by unfold maxLen; omega) (by omega) ?_; intro v3 w3 hown3 hgr3 kb3)
            | (refine step_append_b _ (by rfl) _ _ _ (by rfl) w kb3 3 i0 _ 1 8 Try.underlying22 hi hz0 hz1 hz2 rfl (by decide) v3 (0 + k + 1) (([] ++ ((l.take k).map (Value.int .i64))) ++ [.int .i64 x]) (by rfl) hown3 (.slice (some ⟨g, k, none⟩) 0 (cap - k)) 0 [] (by rfl) (.inr ⟨_, _, rfl, fun j u hu => by simp at hu⟩) rfl HO3.out (by unfold maxLen; omega) (by omega) ?_; intro v4 w4 hown4 hgr4 kb4)
            | fail)
          all_goals
            go_wp2
            go_ret
            refine ⟨_, rfl, ?_, kb4⟩
            rw [HP2.out, own_map]
            have hm := World.ownsRow.mono hown4 hB
            have e0 : l.length = k := N.out.symm
            have e : (l ++ [x]).length = 0 + k + 1 + 0 := by rw [List.length_append, e0]; simp
            rw [e]
            have e2 : l.take k = l := List.take_of_length_le (by omega)
            simpa [e2] using hm
end Go.Proofs.Ytkpmgdhaollheaa
