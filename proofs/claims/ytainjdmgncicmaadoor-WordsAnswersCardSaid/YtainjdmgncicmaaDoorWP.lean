/- words.Split where the text is in form. -/
import Derived.Test.YtainjdmgncicmaaDoorWO
namespace Go.Proofs.YtainjdmgncicmaaDoor
open Go.RowKit Go.Shelf

attribute [local go_sem] Oper.semAt_some

theorem one_cell {W : World} {b : Nat} {v : Value} (h : W.cell? ⟨b, 0, none⟩ = some v) : ∀ j u, [v][j]? = some u → W.cell? ((⟨b, 0, none⟩ : Addr).add j) = some u := by
  intro j u hj
  match j, hj with
  | 0, hj =>
    simp at hj
    subst hj
    simpa [Addr.add] using h

theorem same'' {f : FuncId} {args : Array Value} {v : Value} (h : ∀ w, Calls Tryd.prog f args w fun e w' => e = .returned v ∧ w' = w) : ∀ w, Calls Tryd.prog f args w fun e w' => e = .returned v ∧ w = w' :=
  fun w => (h w).mono fun _ _ h => ⟨h.1, h.2.symm⟩

set_option maxHeartbeats 2000000 in
set_option maxRecDepth 100000 in
theorem split_ok (s : ByteArray) (hs : s.size ≤ 16384) (hn : Lib.countByte s.data.toList 10 ≤ 400) (hw : wholeB s = true) (hp : s.data.toList.all okByte = true) (w : World)
    (htab : Lib.TabIs Tryd.prog w "strings.asciiSpace" .u8 Lib.asciiSpaceTab) :
    Calls Tryd.prog 13 #[.string s] w fun e w' => ∃ v, e = .returned (.tuple #[v, .int .i64 0]) ∧ TextAt w' v ((linesOf s.data.toList).map fun x => Lib.fields (codeOf x)) ∧ Below w.heap.size w w' := by
  have hcount := same'' fun w => Tryd.strings_Count_one s 10 w
  have hwhole := same'' fun w => whole_any s (by omega) w
  have hprint := same'' fun w => printable_any s (by omega) w
  have hclone := fun w => clone_any s (by omega) w
  have hlines := fun w => lines_any s w
  rw [hw] at hwhole
  rw [hp] at hprint
  have hs' : ¬ (16384 : Int) < (s.size : Int) := by omega
  generalize Lib.countByte s.data.toList 10 = nn at *
  have hn' : ¬ (400 : Int) < (nn : Int) := by omega
  refine (callsIn_wide (n := 4)).1 ?_
  refine callsIn_of_wp_marks Tryd.func13 rfl trivial ?_ rfl
  simp only [Tryd.ntmps13, List.size_toArray, List.length_cons, List.length_nil, Nat.reduceAdd, Nat.reduceSub, Array.replicate_succ, Array.replicate_zero, List.push_toArray, List.append_toArray, List.nil_append, List.cons_append]
  gi_wp2_with (first
    | (refine ⟨trivial, ?_⟩; gi_at_call 26; refine (callsIn_wide.2 (hcount _)).mono ?_; rintro e w' ⟨rfl, rfl⟩)
    | (refine ⟨trivial, ?_⟩; gi_at_call 27; refine (callsIn_wide.2 (hwhole _)).mono ?_; rintro e w' ⟨rfl, rfl⟩)
    | (refine ⟨trivial, ?_⟩; gi_at_call 28; refine (callsIn_wide.2 (hprint _)).mono ?_; rintro e w' ⟨rfl, rfl⟩)
    | (refine ⟨trivial, ?_⟩; gi_at_call 30; refine (callsIn_wide.2 (hclone _)).mono ?_; rintro e w' ⟨rfl, hbc⟩)
    | (refine ⟨trivial, ?_⟩; gi_at_call 29; refine (callsIn_wide.2 (hlines _)).mono ?_; rintro e w' ⟨rfl, rfl⟩))
  obtain ⟨c, hc⟩ : ∃ c, c = w'.heap.size := ⟨_, rfl⟩
  have hsz1 := hbc.size
  simp only [World.size_alloc] at hsz1 hbc
  have hbox : Boxed (w'.alloc (.cells #[.string s] 9)) w.heap.size 22 (.slice none 0 0) := by
    refine Boxed.alloc ?_ _
    exact (hbc.block w.heap.size (by omega)).trans (Boxed.new w _ _)
  have hbel : Below w.heap.size w (w'.alloc (.cells #[.string s] 9)) :=
    (((Below.refl w.heap.size w).alloc (Nat.le_refl _) (.cells #[.slice none 0 0] 22)).trans (hbc.mono (by omega))).alloc (by omega) _
  have hcb : Boxed (w'.alloc (.cells #[.string s] 9)) c 9 (.string s) := by rw [hc]; exact Boxed.new _ _ _
  have hw2 : (w'.alloc (.cells #[.string s] 9)).heap.size = c + 1 := by rw [World.size_alloc, hc]
  rw [← hc]
  have hcw : w.heap.size < c := by omega
  clear hc hbc hsz1
  generalize w'.alloc (.cells #[.string s] 9) = w2 at *
  refine range_lines c rfl s (by omega) hcb rfl (SoFar w w.heap.size (c + 1)) (SoFar.own _ (by omega)) (fun pre W u v h hu => h.box (by omega) (by omega) hu) (fun pre W h => h.drew)
    ⟨⟨_, [], hbox, World.ownsRow_nil _ _ _ _, trivial⟩, hbel, by omega⟩
    (fun x => { tmps := #[.string s, undef, .slice none 0 0, .int .i64 0, .pointer (some ⟨w.heap.size, 0, none⟩), .string x, undef, undef, undef, .string s, .int .i64 s.size, .bool false, .bool false, .string s, .int .i64 nn, .bool (decide ((400 : Int) < (nn : Int))), .bool (decide ((400 : Int) < (nn : Int))), .string s, .bool true, .bool false, .bool false, .string s, .bool true, .bool false, .bool false, .string s, .string s, .func (.func 52) #[] #[.pointer (some ⟨c, 0, none⟩)], .string x, undef, undef, undef, undef, undef, undef, undef, undef, undef, undef, undef, undef], defers := [] }) ?assign ?body ?done
  case assign =>
    intro l x W K hK
    gi_wp2
    exact hK
  case body =>
    rintro l pre x W hso hin hsz hcnt
    have hcut := fun w => cut_any x (by omega) w
    have hlen := linesOf_len s.data.toList
    rw [show s.data.toList.length = s.size by simp] at hlen
    gi_wp2_with (refine ⟨trivial, ?_⟩; gi_at_call 31; refine (CallsIn.inRound l (callsIn_wide.2 (hcut _))).mono ?_; rintro e w' ⟨⟨ca, cb, cf, rfl, hca, hcz⟩, q, rfl⟩)
    refine wpIn_region_any (by kernel_rfl) ?_
    change wpAnyIn _ _ _ _ _ _ _ _ _ (W.drewN q).drew
    have hso2 : SoFar w w.heap.size (c + 1) pre (W.drewN q).drew := by
      obtain ⟨⟨v, vs, h1, h2, h3⟩, h4, h5⟩ := hso
      exact ⟨⟨v, vs, h1, h2, RowsAt.kept (W := W) (W' := (W.drewN q).drew) (fun _ _ _ h => h) h3⟩, ⟨h4.os, h4.tape, h4.output, h4.size, h4.block⟩, h5⟩
    have hko : KeepsOthers W (W.drewN q).drew := ⟨Nat.le_refl _, fun _ _ h _ => h⟩
    have hcb2 : ∀ u : ByteArray, Boxed W c 9 (.string u) → Boxed (W.drewN q).drew c 9 (.string u) := fun _ h => h
    clear hso
    generalize (W.drewN q).drew = W2 at *
    obtain ⟨⟨v, vs, h1, h2, h3⟩, h4, h5⟩ := hso2
    have hcell := h1.cell
    have hfro := h1.frozen
    have hcell2 := fun O => (h1.alloc O).cell
    have hcell3 := fun O O' => ((h1.alloc O).alloc O').cell
    have hasc : ∀ (j : Nat) b, ca.data.toList[j]? = some b → b.toNat < 128 := by
      intro j b hb
      have hm := List.mem_of_getElem? hb
      rw [hca] at hm
      have h5 := List.all_eq_true.1 hp b (hin b ((List.takeWhile_sublist _).subset hm))
      have := okByte_iff.1 h5
      omega
    have htab2 : Lib.TabIs Tryd.prog W2 "strings.asciiSpace" .u8 Lib.asciiSpaceTab := var_keep htab h4
    have hfields := Tryd.strings_Fields_laid ca W2 (by omega) hasc htab2
    rw [hca] at hfields
    have hlo := h4.size
    obtain ⟨i0, hi0, hz0, hz1, hz2⟩ := info_parts info_line
    have hstep := fun v' w5 => so_step (c := c) (x := x) (v' := v') (w5 := w5) (Nat.le_refl _) (by omega) h1 h2 h3 h4 h5 rfl
    have hown4 := (h2.alloc (.cells ((Lib.fields (codeOf x.data.toList)).map fun l => Value.string ⟨l.toArray⟩).toArray 9)).alloc (.cells #[.slice (some ⟨W2.heap.size, 0, none⟩) (Lib.fields (codeOf x.data.toList)).length (Lib.fields (codeOf x.data.toList)).length] 25)
    have hc4 : ((W2.alloc (.cells ((Lib.fields (codeOf x.data.toList)).map fun l => Value.string ⟨l.toArray⟩).toArray 9)).alloc (.cells #[.slice (some ⟨W2.heap.size, 0, none⟩) (Lib.fields (codeOf x.data.toList)).length (Lib.fields (codeOf x.data.toList)).length] 25)).cell? ⟨W2.heap.size + 1, 0, none⟩ = some (.slice (some ⟨W2.heap.size, 0, none⟩) (Lib.fields (codeOf x.data.toList)).length (Lib.fields (codeOf x.data.toList)).length) := by
      have h := (Boxed.new (W2.alloc (.cells ((Lib.fields (codeOf x.data.toList)).map fun l => Value.string ⟨l.toArray⟩).toArray 9)) 25 (.slice (some ⟨W2.heap.size, 0, none⟩) (Lib.fields (codeOf x.data.toList)).length (Lib.fields (codeOf x.data.toList)).length)).cell
      rw [World.size_alloc] at h
      exact h
    have hs4 : w.heap.size ≤ ((W2.alloc (.cells ((Lib.fields (codeOf x.data.toList)).map fun l => Value.string ⟨l.toArray⟩).toArray 9)).alloc (.cells #[.slice (some ⟨W2.heap.size, 0, none⟩) (Lib.fields (codeOf x.data.toList)).length (Lib.fields (codeOf x.data.toList)).length] 25)).heap.size := by
      rw [World.size_alloc, World.size_alloc]; omega
    refine any_two (i := 0) (j := 1) (by kernel_rfl) rfl rfl rfl rfl (fun K' hK => ?_) (fun K' hK => ?_)
    · gi_wp2
      refine any_one (i := 1) (by kernel_rfl) rfl rfl (fun K' hK => ?_)
      gi_wp2
      refine any_one (i := 2) (by kernel_rfl) rfl rfl (fun K' hK => ?_)
      gi_wp2_with (refine ⟨trivial, ?_⟩; gi_at_call 32; refine (CallsIn.inRound l (callsIn_wide.2 hfields)).mono ?_; rintro e w' ⟨rfl, rfl⟩)
      refine any_one (i := 3) (by kernel_rfl) rfl rfl (fun K' hK => ?_)
      gi_wp2
      refine any_one (i := 4) (by kernel_rfl) rfl rfl (fun K' hK => ?_)
      refine op_append (Operand.tmp 35) (Operand.tmp 38) 22 rfl w.heap.size 25 i0 (.slice none 0 0) 1 24 Tryd.underlying22 hi0 hz0 hz1 hz2 rfl (by decide) v pre.length vs rfl hown4 ⟨W2.heap.size + 1, 0, none⟩ 1 1 [.slice (some ⟨W2.heap.size, 0, none⟩) (Lib.fields (codeOf x.data.toList)).length (Lib.fields (codeOf x.data.toList)).length] rfl rfl (one_cell hc4) (by simp [Value.oneCell']) (by unfold maxLen; omega) (by omega) hs4 ?_
      intro v' w5 hown5 hgrow5
      obtain ⟨hv5, hk5, hc5, hs5⟩ := hstep v' w5 hown5 hgrow5
      obtain ⟨g', cap', rfl⟩ := ownsRow_succ hown5
      have hcell5 := hv5.cell
      have hfro5 := hv5.frozen
      refine hK _ _ ?_
      refine any_one (i := 5) (by kernel_rfl) rfl rfl (fun K' hK => ?_)
      gi_wp2
      refine wpAnyIn_done (by kernel_rfl) ?_ _
      exact ⟨hko.trans hk5, fun u hu => hc5 u (hcb2 u hu), hs5⟩
    · gi_wp2
      refine any_two (i := 0) (j := 2) (by kernel_rfl) rfl rfl rfl rfl (fun K' hK => ?_) (fun K' hK => ?_)
      · gi_wp2
        refine any_one (i := 2) (by kernel_rfl) rfl rfl (fun K' hK => ?_)
        gi_wp2_with (refine ⟨trivial, ?_⟩; gi_at_call 32; refine (CallsIn.inRound l (callsIn_wide.2 hfields)).mono ?_; rintro e w' ⟨rfl, rfl⟩)
        refine any_one (i := 3) (by kernel_rfl) rfl rfl (fun K' hK => ?_)
        gi_wp2
        refine any_one (i := 4) (by kernel_rfl) rfl rfl (fun K' hK => ?_)
        refine op_append (Operand.tmp 35) (Operand.tmp 38) 22 rfl w.heap.size 25 i0 (.slice none 0 0) 1 24 Tryd.underlying22 hi0 hz0 hz1 hz2 rfl (by decide) v pre.length vs rfl hown4 ⟨W2.heap.size + 1, 0, none⟩ 1 1 [.slice (some ⟨W2.heap.size, 0, none⟩) (Lib.fields (codeOf x.data.toList)).length (Lib.fields (codeOf x.data.toList)).length] rfl rfl (one_cell hc4) (by simp [Value.oneCell']) (by unfold maxLen; omega) (by omega) hs4 ?_
        intro v' w5 hown5 hgrow5
        obtain ⟨hv5, hk5, hc5, hs5⟩ := hstep v' w5 hown5 hgrow5
        obtain ⟨g', cap', rfl⟩ := ownsRow_succ hown5
        have hcell5 := hv5.cell
        have hfro5 := hv5.frozen
        refine hK _ _ ?_
        refine any_one (i := 5) (by kernel_rfl) rfl rfl (fun K' hK => ?_)
        gi_wp2
        refine wpAnyIn_done (by kernel_rfl) ?_ _
        exact ⟨hko.trans hk5, fun u hu => hc5 u (hcb2 u hu), hs5⟩
      · gi_wp2_with (refine ⟨trivial, ?_⟩; gi_at_call 32; refine (CallsIn.inRound l (callsIn_wide.2 hfields)).mono ?_; rintro e w' ⟨rfl, rfl⟩)
        refine any_two (i := 0) (j := 3) (by kernel_rfl) rfl rfl rfl rfl (fun K' hK => ?_) (fun K' hK => ?_)
        · gi_wp2
          refine any_one (i := 3) (by kernel_rfl) rfl rfl (fun K' hK => ?_)
          gi_wp2
          refine any_one (i := 4) (by kernel_rfl) rfl rfl (fun K' hK => ?_)
          refine op_append (Operand.tmp 35) (Operand.tmp 38) 22 rfl w.heap.size 25 i0 (.slice none 0 0) 1 24 Tryd.underlying22 hi0 hz0 hz1 hz2 rfl (by decide) v pre.length vs rfl hown4 ⟨W2.heap.size + 1, 0, none⟩ 1 1 [.slice (some ⟨W2.heap.size, 0, none⟩) (Lib.fields (codeOf x.data.toList)).length (Lib.fields (codeOf x.data.toList)).length] rfl rfl (one_cell hc4) (by simp [Value.oneCell']) (by unfold maxLen; omega) (by omega) hs4 ?_
          intro v' w5 hown5 hgrow5
          obtain ⟨hv5, hk5, hc5, hs5⟩ := hstep v' w5 hown5 hgrow5
          obtain ⟨g', cap', rfl⟩ := ownsRow_succ hown5
          have hcell5 := hv5.cell
          have hfro5 := hv5.frozen
          refine hK _ _ ?_
          refine any_one (i := 5) (by kernel_rfl) rfl rfl (fun K' hK => ?_)
          gi_wp2
          refine wpAnyIn_done (by kernel_rfl) ?_ _
          exact ⟨hko.trans hk5, fun u hu => hc5 u (hcb2 u hu), hs5⟩
        · gi_wp2
          refine any_one (i := 0) (by kernel_rfl) rfl rfl (fun K' hK => ?_)
          gi_wp2
          refine any_one (i := 4) (by kernel_rfl) rfl rfl (fun K' hK => ?_)
          refine op_append (Operand.tmp 35) (Operand.tmp 38) 22 rfl w.heap.size 25 i0 (.slice none 0 0) 1 24 Tryd.underlying22 hi0 hz0 hz1 hz2 rfl (by decide) v pre.length vs rfl hown4 ⟨W2.heap.size + 1, 0, none⟩ 1 1 [.slice (some ⟨W2.heap.size, 0, none⟩) (Lib.fields (codeOf x.data.toList)).length (Lib.fields (codeOf x.data.toList)).length] rfl rfl (one_cell hc4) (by simp [Value.oneCell']) (by unfold maxLen; omega) (by omega) hs4 ?_
          intro v' w5 hown5 hgrow5
          obtain ⟨hv5, hk5, hc5, hs5⟩ := hstep v' w5 hown5 hgrow5
          obtain ⟨g', cap', rfl⟩ := ownsRow_succ hown5
          have hcell5 := hv5.cell
          have hfro5 := hv5.frozen
          refine hK _ _ ?_
          refine any_one (i := 5) (by kernel_rfl) rfl rfl (fun K' hK => ?_)
          gi_wp2
          refine wpAnyIn_done (by kernel_rfl) ?_ _
          exact ⟨hko.trans hk5, fun u hu => hc5 u (hcb2 u hu), hs5⟩
  case done =>
    rintro D xs W hD hxs hI hK
    obtain ⟨v, hv, ht⟩ := hI.text
    have hcell := hv.cell
    gi_wp2
    refine ⟨by simp, .inl ⟨_, _, rfl, run_takeDeferred hK, ?_⟩⟩
    refine ⟨_, results_tmp2 rfl _ _ _, ?_⟩
    refine ⟨v, rfl, ?_, ?_⟩
    · rw [← hxs, List.map_map]
      refine ht.kept fun k o hk hc => ?_
      rw [World.putObj_heap_other ?_]
      · exact hk
      · rintro rfl
        rw [hK] at hk
        cases hk
        cases hc
    · exact hI.2.1.grown (grownBy_putObj' W D _) hI.2.1.size (fun k e => by
        have : k = D := by simpa using e.symm
        have := hbel.size
        omega)
end Go.Proofs.YtainjdmgncicmaaDoor
