/- Part 21 of the proof: see its parts. -/
import Derived.Test.YtdpfohgkikjeaaaGreatV20
/- Do: what turns one cell of the disk. -/
namespace Go.Proofs.YtdpfohgkikjeaaaGreat
open Go.RowKit
set_option linter.unusedVariables false
set_option linter.unusedSimpArgs false

/-- The cells of a disk are turned, its sectors stay. -/
theorem DiskAt.store {w w' : World} {b d d' vs vals bl} (h : DiskAt w b d vs vals bl) (hk : Kept (fun x => x = b) w w') (hc : w'.heap[b]? = some (.cells (diskCells d' vs) diskT (0, 0))) (hsw : d'.sw = d.sw) : DiskAt w' b d' vs vals bl := by
  refine ⟨hc, h.row.kept hk (fun x hx e => h.b_vs (e ▸ hx)), by rw [hsw]; exact h.len, fun i v l hv hl => ?_, fun x hx => Nat.lt_of_lt_of_le (h.low x hx) hk.size, h.b_vs, h.b_bl, h.vs_bl⟩
  rw [hsw] at hl
  exact (h.secs i v l hv hl).kept hk h.low (fun x hx e => h.b_bl (e ▸ hx))

theorem DiskAt.to {w w' : World} {b d d' vs vals bl} (h : DiskAt w b d vs vals bl) (hk : Kept (fun x => x = b) w w') (hc : w'.heap[b]? = some (.cells (diskCells d' vs) diskT (0, 0))) (hsw : d'.sw = d.sw) : DiskTo w w' b (b :: (fpv vs ++ bl)) d' :=
  ⟨⟨_, ⟨_, _, _, h.store hk hc hsw, rfl⟩, fun x hx => .inl hx⟩, hk.mono (fun i e _ => by rw [e]; simp)⟩

set_option maxRecDepth 100000 in
set_option maxHeartbeats 1000000 in
theorem do_begin {w b d vs vals bl} (h : DiskAt w b d vs vals bl) :
    Calls Tryz.prog 44 #[.pointer (some ⟨b, 0, none⟩), .agg #[.int .i64 3, .int .i64 0, .string ⟨#[]⟩]] w fun e w' => e = .returned (.tuple #[]) ∧ DiskTo w w' b (b :: (fpv vs ++ bl)) { d with new := [], newSafe := 0 } := by
  have hbw : b < w.heap.size := lt_of_heap h.cells
  obtain ⟨hc, hf⟩ := cells_of h.cells
  have hb1 := (new1 w (Obj.cells #[.int .i64 3, .int .i64 0, .string ⟨#[]⟩] 80)).2.2.get h.cells (fun h => h)
  have hka := (new1 w (Obj.cells #[.int .i64 3, .int .i64 0, .string ⟨#[]⟩] 80)).2.2
  have hkb := hka.mono (T := fun x => x = b) (fun _ h _ => h.elim)
  go_enter Tryz.func44, Tryz.ntmps44
  go_wp2
  go_end0
  refine ⟨rfl, h.to ((Kept.cell1.step Kept.cell1).alloc _) ?_ rfl⟩
  rw [heap_alloc_lt (by simpa using hbw), heap_set_same (heap_set_same h.cells)]
  simp [diskCells]

set_option maxRecDepth 100000 in
set_option maxHeartbeats 1000000 in
theorem do_append {w b d vs vals bl} (h : DiskAt w b d vs vals bl) (s : Str) (hs : d.new.length + s.length ≤ 1099511627776) :
    Calls Tryz.prog 44 #[.pointer (some ⟨b, 0, none⟩), .agg #[.int .i64 4, .int .i64 0, sv s]] w fun e w' => e = .returned (.tuple #[]) ∧ DiskTo w w' b (b :: (fpv vs ++ bl)) { d with new := d.new ++ s } := by
  have hbw : b < w.heap.size := lt_of_heap h.cells
  obtain ⟨hc, hf⟩ := cells_of h.cells
  have hb1 := (new1 w (Obj.cells #[.int .i64 4, .int .i64 0, sv s] 80)).2.2.get h.cells (fun h => h)
  have hka := (new1 w (Obj.cells #[.int .i64 4, .int .i64 0, sv s] 80)).2.2
  have hkb := hka.mono (T := fun x => x = b) (fun _ h _ => h.elim)
  go_enter Tryz.func44, Tryz.ntmps44
  have hap := sv_append d.new s
  have hl2 : (d.new ++ s).length ≤ 1099511627776 := by rw [List.length_append]; exact hs
  go_wp2_with fail
  obtain ⟨hn1, hsz1, hk1⟩ := new1 w (Obj.cells #[.int .i64 4, .int .i64 0, sv s] 80)
  clear hka hkb
  generalize hA : w.heap.size = A at *
  generalize w.alloc (Obj.cells #[.int .i64 4, .int .i64 0, sv s] 80) = w1 at *
  have hB5 : ∀ W, Kept no w1 W → W.cell? ⟨b, 5, none⟩ = some (sv d.new) := fun W hW => hW.read (by rw [(cells_of hb1).1]; rfl) (fun h => h)
  have hA2 : ∀ W, Kept no w1 W → W.cell? ⟨A, 2, none⟩ = some (sv s) := fun W hW => hW.read (by rw [(cells_of hn1).1]; rfl) (fun h => h)
  refine wp_region3 (fun W => Kept no w1 W) [(0, true), (1, true), (2, true), (3, true), (4, false), (5, true), (6, false), (7, true)] [8, 9, 10] (by kernel_rfl) (by kernel_rfl) (fun _ _ d _ _ h => by cases d <;> exact h) ((Kept.refl _ _).drew) ?_
  repeat ((first | refine wpPre3_pure rfl rfl (fun W => (by go_simp; rfl)) ?_ | refine wpPre3_read rfl rfl (fun W hW => (by have h1 := hB5 W hW; have h2 := hA2 W hW; go_simp; rfl)) ?_); simp only [Act.put, List.setIfInBounds_toArray, List.set])
  refine wpPre3_pure rfl rfl (v := sv (d.new ++ s)) (fun W => ?_) ?_
  · go_simp
    omega
  simp only [Act.put, List.setIfInBounds_toArray, List.set]
  refine wpPre3_nil ?_
  have hk12 : Kept no w1 w1.drew := (Kept.refl _ _).drew
  generalize w1.drew = w2 at hk12 ⊢
  have hb2 := hk12.get hb1 (fun h => h)
  obtain ⟨hc2, hf2⟩ := cells_of hb2
  refine wpTail3_last (by kernel_rfl) rfl rfl (fun K hK => ?_)
  go_wp2_with fail
  refine wpTail3_last (by kernel_rfl) rfl rfl (fun K hK => ?_)
  go_wp2_with fail
  refine wpTail3_last (by kernel_rfl) rfl rfl (fun K hK => ?_)
  go_wp2_with fail
  refine wpTail3_nil ?_
  go_wp2
  go_end0
  refine ⟨rfl, h.to (((hk1.step hk12).mono (fun _ h _ => h.elim)).step Kept.cell1) ?_ rfl⟩
  rw [heap_set_same hb2]
  simp [diskCells]

set_option maxRecDepth 100000 in
set_option maxHeartbeats 1000000 in
theorem do_syncFile {w b d vs vals bl} (h : DiskAt w b d vs vals bl) :
    Calls Tryz.prog 44 #[.pointer (some ⟨b, 0, none⟩), .agg #[.int .i64 5, .int .i64 0, .string ⟨#[]⟩]] w fun e w' => e = .returned (.tuple #[]) ∧ DiskTo w w' b (b :: (fpv vs ++ bl)) { d with newSafe := d.new.length } := by
  have hbw : b < w.heap.size := lt_of_heap h.cells
  obtain ⟨hc, hf⟩ := cells_of h.cells
  have hb1 := (new1 w (Obj.cells #[.int .i64 5, .int .i64 0, .string ⟨#[]⟩] 80)).2.2.get h.cells (fun h => h)
  have hka := (new1 w (Obj.cells #[.int .i64 5, .int .i64 0, .string ⟨#[]⟩] 80)).2.2
  have hkb := hka.mono (T := fun x => x = b) (fun _ h _ => h.elim)
  go_enter Tryz.func44, Tryz.ntmps44
  go_wp2
  go_end0
  refine ⟨rfl, h.to (Kept.cell1.alloc _) ?_ rfl⟩
  rw [heap_alloc_lt (by simpa using hbw), heap_set_same h.cells]
  simp [diskCells]

set_option maxRecDepth 100000 in
set_option maxHeartbeats 1000000 in
theorem do_rename {w b d vs vals bl} (h : DiskAt w b d vs vals bl) :
    Calls Tryz.prog 44 #[.pointer (some ⟨b, 0, none⟩), .agg #[.int .i64 6, .int .i64 0, .string ⟨#[]⟩]] w fun e w' => e = .returned (.tuple #[]) ∧ DiskTo w w' b (b :: (fpv vs ++ bl)) { d with before := if d.renamed then d.before else d.file, renamed := true, file := d.new, safe := d.newSafe } := by
  have hbw : b < w.heap.size := lt_of_heap h.cells
  obtain ⟨hc, hf⟩ := cells_of h.cells
  have hb1 := (new1 w (Obj.cells #[.int .i64 6, .int .i64 0, .string ⟨#[]⟩] 80)).2.2.get h.cells (fun h => h)
  have hka := (new1 w (Obj.cells #[.int .i64 6, .int .i64 0, .string ⟨#[]⟩] 80)).2.2
  have hkb := hka.mono (T := fun x => x = b) (fun _ h _ => h.elim)
  go_enter Tryz.func44, Tryz.ntmps44
  cases hre : d.renamed with
  | true =>
    go_wp2
    go_end0
    refine ⟨rfl, h.to (((Kept.cell1.step Kept.cell1).step Kept.cell1).alloc _) ?_ rfl⟩
    rw [heap_alloc_lt (by simpa using hbw), heap_set_same (heap_set_same (heap_set_same h.cells))]
    simp [diskCells]
  | false =>
    have hD := h
    clear h
    go_wp2
    go_end0
    refine ⟨rfl, hD.to ((((Kept.cell1.step Kept.cell1).step Kept.cell1).step Kept.cell1).alloc _) ?_ rfl⟩
    rw [heap_alloc_lt (by simpa using hbw), heap_set_same (heap_set_same (heap_set_same (heap_set_same hD.cells)))]
    simp [diskCells]

set_option maxRecDepth 100000 in
set_option maxHeartbeats 1000000 in
theorem do_syncDir {w b d vs vals bl} (h : DiskAt w b d vs vals bl) :
    Calls Tryz.prog 44 #[.pointer (some ⟨b, 0, none⟩), .agg #[.int .i64 7, .int .i64 0, .string ⟨#[]⟩]] w fun e w' => e = .returned (.tuple #[]) ∧ DiskTo w w' b (b :: (fpv vs ++ bl)) { d with renamed := false } := by
  have hbw : b < w.heap.size := lt_of_heap h.cells
  obtain ⟨hc, hf⟩ := cells_of h.cells
  have hb1 := (new1 w (Obj.cells #[.int .i64 7, .int .i64 0, .string ⟨#[]⟩] 80)).2.2.get h.cells (fun h => h)
  have hka := (new1 w (Obj.cells #[.int .i64 7, .int .i64 0, .string ⟨#[]⟩] 80)).2.2
  have hkb := hka.mono (T := fun x => x = b) (fun _ h _ => h.elim)
  go_enter Tryz.func44, Tryz.ntmps44
  go_wp2
  go_end0
  refine ⟨rfl, h.to (Kept.cell1.alloc _) ?_ rfl⟩
  rw [heap_alloc_lt (by simpa using hbw), heap_set_same h.cells]
  simp [diskCells]

end Go.Proofs.YtdpfohgkikjeaaaGreat
/- Do: Sync. -/
namespace Go.Proofs.YtdpfohgkikjeaaaGreat
open Go.RowKit
set_option linter.unusedVariables false
set_option linter.unusedSimpArgs false

/-- The rows behind k Syncs of one sector each. -/
def syncTo (sw : List (List Str)) (k : Nat) : List (List Str) := (sw.take k).map (fun l => [lastOf l]) ++ sw.drop k
theorem syncTo_length (sw : List (List Str)) (k : Nat) : (syncTo sw k).length = sw.length := by simp [syncTo]; omega
theorem syncTo_zero (sw : List (List Str)) : syncTo sw 0 = sw := by simp [syncTo]
theorem syncTo_end (sw : List (List Str)) {k : Nat} (h : sw.length ≤ k) : syncTo sw k = sw.map fun l => [lastOf l] := by
  simp [syncTo, List.take_of_length_le h, List.drop_eq_nil_of_le h]
theorem syncTo_get (sw : List (List Str)) {k : Nat} {l : List Str} (h : sw[k]? = some l) : (syncTo sw k)[k]? = some l := by
  have hk := (List.getElem?_eq_some_iff.1 h).1
  unfold syncTo
  rw [List.getElem?_append_right (by simp; omega)]
  simp [Nat.min_eq_left (Nat.le_of_lt hk), h]
theorem syncTo_set (sw : List (List Str)) {k : Nat} {l : List Str} (h : sw[k]? = some l) : (syncTo sw k).set k [lastOf l] = syncTo sw (k + 1) := by
  have hk := (List.getElem?_eq_some_iff.1 h).1
  have hl := (List.getElem?_eq_some_iff.1 h).2
  unfold syncTo
  rw [List.set_append_right _ _ (by simp; omega)]
  have e : sw.drop k = l :: sw.drop (k + 1) := by rw [List.drop_eq_getElem_cons hk, hl]
  rw [e, List.take_succ_eq_append_getElem hk, hl]
  simp [Nat.min_eq_left (Nat.le_of_lt hk)]

set_option maxRecDepth 100000 in
set_option maxHeartbeats 2000000 in
theorem do_sync {w b d vs vals bl} (h : DiskAt w b d vs vals bl) (hne : ∀ r ∈ d.sw, r ≠ []) (hN : ∀ r ∈ d.sw, r.length ≤ 1000000000000) (hM : d.sw.length ≤ 1000000000000) :
    Calls Tryz.prog 44 #[.pointer (some ⟨b, 0, none⟩), .agg #[.int .i64 2, .int .i64 0, .string ⟨#[]⟩]] w fun e w' => e = .returned (.tuple #[]) ∧ DiskTo w w' b (b :: (fpv vs ++ bl)) { d with sw := d.sw.map fun l => [lastOf l] } := by
  have hbw : b < w.heap.size := lt_of_heap h.cells
  have hlen := h.len
  have hvs : ∃ pv c, vs = .slice pv vals.length c := by
    obtain ⟨pv, c, e⟩ := h.row.slice
    exact ⟨pv, c, e⟩
  obtain ⟨pv, c, hvs⟩ := hvs
  go_enter Tryz.func44, Tryz.ntmps44
  go_wp2_with fail
  obtain ⟨hn1, hsz1, hk1⟩ := new1 w (Obj.cells #[.int .i64 2, .int .i64 0, .string ⟨#[]⟩] 80)
  have h1 := h.kept hk1 (fun _ _ h => h)
  generalize w.alloc (Obj.cells #[.int .i64 2, .int .i64 0, .string ⟨#[]⟩] 80) = w1 at *
  have h0 : DiskAt w1 b { d with sw := syncTo d.sw 0 } vs vals bl := by rw [syncTo_zero]; exact h1
  go_loopw [5] (fun s5 wr => ∃ (k : Nat) (vals' : List Value), k ≤ d.sw.length ∧ s5 = .int .i64 ((k : Nat) : Int) ∧ vals'.length = vals.length ∧ DiskAt wr b { d with sw := syncTo d.sw k } vs vals' bl ∧ Kept (fun x => x ∈ b :: (fpv vs ++ bl)) w wr) (fun s5 _ => d.sw.length - (intOf s5).toNat)
  case atStart => exact ⟨0, vals, Nat.zero_le _, rfl, rfl, h0, hk1.mono (fun _ h _ => h.elim)⟩
  case round =>
    obtain ⟨k, vals', hk, rfl, hvl, hd, hkw⟩ := hrel
    have hB0 : ∀ W, Kept no wr W → W.cell? ⟨b, 0, none⟩ = some (.slice pv vals.length c) := fun W hW => hW.read (by rw [(cells_of hd.cells).1, hvs]; rfl) (fun h => h)
    have hB := hB0 wr (Kept.refl _ _)
    have hVL : vals.length ≤ 1000000000000 := by omega
    by_cases hlt : k < d.sw.length
    · obtain ⟨l, hl⟩ : ∃ l, d.sw[k]? = some l := ⟨d.sw[k], by simp [hlt]⟩
      have hlm : l ∈ d.sw := List.mem_of_getElem? hl
      have hlne := hne l hlm
      have hll := hN l hlm
      have hlp : 0 < l.length := List.length_pos_iff.2 hlne
      have hgl := syncTo_get d.sw hl
      have HSET : Hid ((syncTo d.sw k).set k [lastOf l] = syncTo d.sw (k + 1)) := syncTo_set d.sw hl
      obtain ⟨g, c', g2, o2, c2, hvs', hpv, hc1, hc2, hgb, hgl', hcp, hg2, hg2l, h21, h22, hs2⟩ := hd.sec (p := k) hgl
      rw [hvs, hvl] at hvs'
      simp only [Value.slice.injEq, true_and] at hvs'
      obtain ⟨rfl, rfl⟩ := hvs'
      have hgp : ∀ W, Kept no wr W → W.cell? ⟨g, k, none⟩ = some (.slice (some ⟨g2, o2, none⟩) l.length c2) := fun W hW => hW.read hcp (fun h => h)
      have hkV : k < vals.length := by omega
      generalize hn : vals.length = n at *
      generalize hm : l.length = m at *
      clear hN hne hgl h0 h1
      go_wp2_with fail
      refine wp_region3 (fun W => Kept no wr W) [(0, true), (1, true), (2, true), (3, false), (4, true), (5, true), (6, true), (7, true), (8, false), (9, true), (10, true), (11, false), (12, true), (13, true), (14, true), (15, false), (16, true), (17, true), (18, false), (19, true), (20, true), (21, true)] [22, 23] (by kernel_rfl) (by kernel_rfl) (fun _ _ d _ _ h => by cases d <;> exact h) ((Kept.refl _ _).drew) ?_
      repeat ((first | refine wpPre3_pure rfl rfl (fun W => (by go_simp; rfl)) ?_ | refine wpPre3_read rfl rfl (fun W hW => (by have h1 := hB0 W hW; have h2 := hgp W hW; go_simp; rfl)) ?_); simp only [Act.put, List.setIfInBounds_toArray, List.set])
      refine wpPre3_pure rfl rfl (v := .slice (some ⟨g2, o2 + (m - 1), none⟩) 1 (c2 - (m - 1))) (fun W => ?_) ?_
      · go_simp
        have hw : IntKind.i64.wrap ((m : Int) - 1) = (m : Int) - 1 := by rw [IntKind.wrap_i64]; omega
        have ht : ((m : Int) - 1).toNat = m - 1 := by omega
        rw [hw, ht, if_pos ⟨by omega, by omega⟩, if_neg (by omega), show m - (m - 1) = 1 by omega]
      simp only [Act.put, List.setIfInBounds_toArray, List.set]
      refine wpPre3_nil ?_
      have hk12 : Kept no wr wr.drew := (Kept.refl _ _).drew
      generalize wr.drew = w2 at hk12 ⊢
      have hd2 := hd.kept hk12 (fun _ _ h => h)
      have hrow2 := hd2.row
      rw [hvl, hvs] at hrow2
      obtain ⟨cur, hcur, hcs⟩ := hrow2.heap
      obtain ⟨hcg, hfg⟩ := cells_of hcur
      have hcg2 : w2.cell? ⟨g, k, none⟩ = some (cur[k]'(by omega)) := by rw [hcg]; simp [show k < cur.size by omega]
      have hfg2 := hfg k
      clear hcg hfg hcur
      have hsl : SecAt w2 (.slice (some ⟨g2, o2 + (m - 1), none⟩) 1 (c2 - (m - 1))) [lastOf l] bl := by
        refine ⟨g2, o2 + (m - 1), c2 - (m - 1), by simp, hg2, by simp; omega, by unfold maxLen; omega, fun j s hs => ?_⟩
        match j, hs with
        | 0, hs =>
          simp only [List.getElem?_cons_zero, Option.some.injEq] at hs
          have := hs2.kept hk12 (fun h => h) (m - 1) s (by
            rw [← hs]; unfold lastOf
            rw [← hm, List.getLastD_eq_getLast?, List.getLast?_eq_getElem?, List.getElem?_eq_getElem (by omega)]; rfl)
          simpa using this
      have hput := hd2.put (Kept.refl _ _) (p := k) (g := g) (c := c) (by rw [hvl]; exact hvs) (by omega) hsl (fun _ h => h) hd2.low (fun x hx => ⟨fun e => hd2.b_bl (e ▸ hx), fun e => hd2.vs_bl g (by rw [hvs, fpv_some]; simp) (e ▸ hx)⟩)
      refine wpTail3_last (by kernel_rfl) rfl rfl (fun K hK => ?_)
      go_wp2_with fail
      refine wpTail3_last (by kernel_rfl) rfl rfl (fun K hK => ?_)
      go_wp2_with fail
      refine wpTail3_nil ?_
      go_wp2
      refine ⟨⟨k + 1, vals'.set k (.slice (some ⟨g2, o2 + (m - 1), none⟩) 1 (c2 - (m - 1))), by omega, by go_num, by simp [hvl], ?_, ?_⟩, by simp [intOf]; omega⟩
      · have e := HSET.out
        simp only [e] at hput
        exact hput
      · exact ((hkw.step (hk12.mono (fun _ h _ => h.elim))).setCell (p := ⟨g, k, none⟩) (fun _ => by rw [hvs, fpv_some]; simp) _)
    · obtain rfl : k = d.sw.length := by omega
      rw [syncTo_end d.sw (Nat.le_refl _)] at hd
      go_wp2
      go_end0
      exact ⟨rfl, ⟨_, ⟨_, _, _, hd, rfl⟩, fun x hx => .inl hx⟩, hkw⟩
end Go.Proofs.YtdpfohgkikjeaaaGreat
/- Do, whole; Now. -/
namespace Go.Proofs.YtdpfohgkikjeaaaGreat
open Go.RowKit
set_option linter.unusedVariables false
set_option linter.unusedSimpArgs false

theorem do_any {w b d fp} (h : DiskR w b d fp) {N L : Nat} (hL : d.Lens N L) (hN : N ≤ 1000000000000) (a : PAct) (hr : RightA a) (hn : a.kind = 4 → d.new.length + a.data.length ≤ 1099511627776) :
    Calls Tryz.prog 44 #[.pointer (some ⟨b, 0, none⟩), a.val] w fun e w' => e = .returned (.tuple #[]) ∧ DiskTo w w' b fp (d.act a) := by
  obtain ⟨vs, vals, bl, h, rfl⟩ := h
  obtain ⟨kind, at_, data⟩ := a
  simp only [RightA] at hr hn
  rcases hr with ⟨rfl, h1, h2⟩ | ⟨rfl, rfl⟩ | ⟨hk, rfl, rfl⟩
  · have hlt : at_ < d.sw.length := by rw [hL.sw]; exact h1
    have hl : d.sw[at_]? = some d.sw[at_] := by simp [hlt]
    have hm : d.sw[at_] ∈ d.sw := by simp
    have e : d.act ⟨1, at_, data⟩ = { d with sw := d.sw.set at_ (d.sw[at_] ++ [data]) } := by
      simp [DiskS.act, List.getD_eq_getElem?_getD, hlt]
    rw [e]
    exact do_write h at_ data _ hl (Nat.le_trans (hL.rows _ hm) hN) (hL.some _ hm)
  · exact do_append h data (hn rfl)
  · rcases hk with rfl | rfl | rfl | rfl | rfl
    · exact do_sync h hL.some (fun r hr => Nat.le_trans (hL.rows r hr) hN) (by rw [hL.sw]; decide)
    · exact do_begin h
    · exact do_syncFile h
    · exact do_rename h
    · exact do_syncDir h

set_option maxRecDepth 100000 in
set_option maxHeartbeats 2000000 in
theorem now_any {w b d fp} (h : DiskR w b d fp) {N L : Nat} (hL : d.Lens N L) (hN : N ≤ 1000000000000) :
    Calls Tryz.prog 21 #[.pointer (some ⟨b, 0, none⟩)] w fun e w' => ∃ v, e = .returned v ∧ Row w' 9 1 v 400 (d.now.map sv) ∧ (∀ x ∈ fpv v, w.heap.size ≤ x) ∧ Kept no w w' := by
  obtain ⟨vs, vals, bl, h, rfl⟩ := h
  have hlen := h.len
  have hsw := hL.sw
  obtain ⟨pv, c, hvs⟩ := h.row.slice
  have hV : vals.length = 400 := by omega
  rw [hV] at hvs
  have hbw : b < w.heap.size := lt_of_heap h.cells
  go_enter Tryz.func21, Tryz.ntmps21
  go_wp2_with fail
  go_loopw [3, 4] (fun s3 s4 wr => ∃ (k : Nat), k ≤ 400 ∧ s4 = .int .i64 ((k : Nat) : Int) ∧ Row wr 9 1 s3 k ((d.now.take k).map sv) ∧ (∀ x ∈ fpv s3, w.heap.size ≤ x) ∧ Kept no w wr) (fun _ s4 _ => 400 - (intOf s4).toNat)
  case atStart => exact ⟨0, Nat.zero_le _, rfl, ⟨rfl, .inl ⟨rfl, rfl⟩⟩, by simp [fpv_nil], Kept.refl _ _⟩
  case round =>
    obtain ⟨k, hk, rfl, hr, hnew, hkw⟩ := hrel
    have hSn : ∀ x, x ∈ fpv u3 → x < w.heap.size → no x := fun x hx hlt => by have := hnew x hx; omega
    have hB0 : ∀ W, Kept (fun x => x ∈ fpv u3) wr W → W.cell? ⟨b, 0, none⟩ = some (.slice pv 400 c) := fun W hW => (hkw.step' hW hSn).read (by rw [(cells_of h.cells).1, hvs]; rfl) (fun h => h)
    have hB := hB0 wr (Kept.refl _ _)
    by_cases hlt : k < 400
    · obtain ⟨l, hl⟩ : ∃ l, d.sw[k]? = some l := ⟨d.sw[k], by simp [hsw, hlt]⟩
      have hlm : l ∈ d.sw := List.mem_of_getElem? hl
      have hll := hL.rows l hlm
      have hlp : 0 < l.length := List.length_pos_iff.2 (hL.some l hlm)
      obtain ⟨g, c', g2, o2, c2, hvs', hpv, hc1, hc2, hgb, hgl', hcp, hg2, hg2l, h21, h22, hs2⟩ := h.sec (p := k) hl
      rw [hvs, hV] at hvs'
      simp only [Value.slice.injEq, true_and] at hvs'
      obtain ⟨rfl, rfl⟩ := hvs'
      have hgp : ∀ W, Kept (fun x => x ∈ fpv u3) wr W → W.cell? ⟨g, k, none⟩ = some (.slice (some ⟨g2, o2, none⟩) l.length c2) := fun W hW => (hkw.step' hW hSn).read hcp (fun h => h)
      have hlast : ∀ W, Kept (fun x => x ∈ fpv u3) wr W → W.cell? ⟨g2, o2 + (l.length - 1), none⟩ = some (sv (lastOf l)) := fun W hW => (hkw.step' hW hSn).read (hs2 (l.length - 1) (lastOf l) (by
        unfold lastOf
        rw [List.getLastD_eq_getLast?, List.getLast?_eq_getElem?, List.getElem?_eq_getElem (by omega)]; rfl)) (fun h => h)
      have hnow : (d.now.take (k + 1)).map sv = (d.now.take k).map sv ++ [sv (lastOf l)] := by
        have e : d.now[k]? = some (lastOf l) := by simp [DiskS.now, hl]
        rw [List.take_add_one, e]; simp
      have HNOW : Hid ((d.now.take (k + 1)).map sv = (d.now.take k).map sv ++ [sv (lastOf l)]) := hnow
      clear hnow
      generalize lastOf l = s at hlast HNOW
      generalize hm : l.length = m at *
      have hwm : IntKind.i64.wrap ((m : Int) - 1) = (m : Int) - 1 := by rw [IntKind.wrap_i64]; omega
      have htm : ((m : Int) - 1).toNat = m - 1 := by omega
      have hm0 : 0 ≤ (m : Int) - 1 := by omega
      have hm1 : (m : Int) - 1 < (m : Int) := by omega
      go_wp2_with fail
      refine wp_region3 (fun W => Kept (fun x => x ∈ fpv u3) wr W) [(0, true), (1, true), (2, true), (3, true), (4, false), (5, true), (6, true), (7, false), (8, true), (9, true), (10, true), (11, false), (12, true), (13, true), (14, false), (15, true), (16, true), (17, true), (18, false)] [19, 20, 21] (by kernel_rfl) (by kernel_rfl) (fun _ _ d _ _ h => by cases d <;> exact h) ((Kept.refl _ _).drew) ?_
      repeat ((first | refine wpPre3_pure rfl rfl (fun W => (by go_simp; rfl)) ?_ | refine wpPre3_read rfl rfl (fun W hW => (by have h1 := hB0 W hW; have h2 := hgp W hW; have h3 := hlast W hW; go_simp; rfl)) ?_); simp only [Act.put, List.setIfInBounds_toArray, List.set])
      refine wpPre3_pure rfl rfl (v := .pointer (some ⟨g2, o2 + (m - 1), none⟩)) (fun W => ?_) ?_
      · go_simp
        intro hh; omega
      simp only [Act.put, List.setIfInBounds_toArray, List.set]
      refine wpPre3_read rfl rfl (v := sv s) (fun W hW => by have h3 := hlast W hW; go_simp) ?_
      simp only [Act.put, List.setIfInBounds_toArray, List.set]
      refine wpPre3_nil ?_
      have hk12 : Kept no wr wr.drew := (Kept.refl _ _).drew
      have hr2 := hr.drew
      generalize wr.drew = w2 at hk12 hr2 ⊢
      refine wpTail3_cons rfl rfl (fun K hK => ?_)
      go_wp2_with fail
      refine ⟨fun h => h.alloc _, ?_⟩
      obtain ⟨hn5, hsz5, hk5⟩ := new1 w2 (Obj.cells #[sv s] 9)
      generalize hG5 : w2.heap.size = G5 at hn5 hsz5 ⊢
      generalize w2.alloc (Obj.cells #[sv s] 9) = w5 at hn5 hsz5 hk5 ⊢
      refine wpTail3_cons rfl rfl (fun K hK => ?_)
      refine wp_push _ _ 34 rfl tyStr u3 _ _ rfl (hr2.kept hk5 (fun _ _ h => h)) G5 1 (sv s) rfl (by rw [(cells_of hn5).1]; rfl) rfl (by decide) (by omega) ?_
      intro v6 w6 hr6 hG6
      refine hK _ _ ⟨fun hh => hh.step hG6.1, ?_⟩
      clear hK
      refine wpTail3_last (by kernel_rfl) rfl rfl (fun K hK => ?_)
      go_wp2_with fail
      refine wpTail3_nil ?_
      have hs1 := hkw.size
      have hs2' := hk12.size
      have hs5 := hk5.size
      go_wp2
      refine ⟨⟨k + 1, by omega, by go_num, ?_, fun x hx => ?_, ?_⟩, by simp [intOf]; omega⟩
      · rw [HNOW.out]; exact hr6
      · rcases hG6.2 x hx with hx | hx
        · exact hnew x hx
        · omega
      · exact ((hkw.step hk12).step hk5).step' hG6.1 (fun x hx hlt => by have := hnew x hx; omega)
    · obtain rfl : k = 400 := by omega
      go_wp2
      go_ret
      refine ⟨u3, rfl, ?_, hnew, hkw⟩
      have e : d.now.take 400 = d.now := List.take_of_length_le (by simp [DiskS.now, hsw])
      rw [e] at hr
      exact hr
end Go.Proofs.YtdpfohgkikjeaaaGreat
/- Crash: the sectors. -/
namespace Go.Proofs.YtdpfohgkikjeaaaGreat
open Go.RowKit
set_option linter.unusedVariables false
set_option linter.unusedSimpArgs false

/-- What is left of the first k sectors. -/
def LeftTo (d : DiskS) (k : Nat) (secs : List Str) : Prop := secs.length = k ∧ ∀ (i : Nat) (s : Str), secs[i]? = some s → ∃ l : List Str, d.sw[i]? = some l ∧ s ∈ l

theorem LeftTo.leaves {d : DiskS} {secs : List Str} (h : LeftTo d 400 secs) (hl : d.sw.length = 400) : d.Leaves secs := by
  refine ⟨by rw [h.1, hl], fun i hi => ?_⟩
  have hi' : i < secs.length := by rw [h.1, ← hl]; exact hi
  obtain ⟨l, hl, hs⟩ := h.2 i secs[i] (by simp [hi'])
  simp only [List.getD_eq_getElem?_getD, hl, Option.getD_some, List.getElem?_eq_getElem hi']
  exact hs

theorem LeftTo.snoc {d : DiskS} {k : Nat} {secs : List Str} (h : LeftTo d k secs) {l : List Str} {s : Str} (hl : d.sw[k]? = some l) (hs : s ∈ l) : LeftTo d (k + 1) (secs ++ [s]) := by
  refine ⟨by simp [h.1], fun i x hx => ?_⟩
  by_cases hi : i < secs.length
  · rw [List.getElem?_append_left hi] at hx; exact h.2 i x hx
  · have hi2 : i = k := by
      have := (List.getElem?_eq_some_iff.1 hx).1
      simp [h.1] at this
      have := h.1
      omega
    subst hi2
    rw [List.getElem?_append_right (by have := h.1; omega)] at hx
    simp [h.1] at hx
    subst hx
    exact ⟨l, hl, hs⟩

structure CrashTo (d : DiskS) (w w' : World) (e : Ending) : Prop where
  ex : ∃ B fp secs f, e = .returned (.pointer (some ⟨B, 0, none⟩)) ∧ DiskR w' B (DiskS.of secs f) fp ∧ secs.length = 400 ∧ d.Leaves secs ∧ d.LeavesFile f ∧ (∀ x ∈ fp, w.heap.size ≤ x) ∧ Kept no w w'

set_option maxRecDepth 100000 in
set_option maxHeartbeats 20000000 in
theorem crash_any {w b d fp} (h : DiskR w b d fp) {N L : Nat} (hL : d.Lens N L) (hN : N ≤ 1000000000000) (hLL : L ≤ 1000000000000) {B : Nat} {v : Value} {raw : List Int} (hraw : IntsAt w B v raw) :
    Calls Tryz.prog 15 #[.pointer (some ⟨b, 0, none⟩), v] w fun e w' => CrashTo d w w' e := by
  obtain ⟨vs, vals, bl, h, rfl⟩ := h
  have hlen := h.len
  have hsw := hL.sw
  obtain ⟨pv, c, hvs⟩ := h.row.slice
  have hV : vals.length = 400 := by omega
  rw [hV] at hvs
  have hbw : b < w.heap.size := lt_of_heap h.cells
  go_enter Tryz.func15, Tryz.ntmps15
  go_wp2_with fail
  go_loopw [5, 6, 7] (fun s5 s6 s7 wr => ∃ (k a : Nat) (secs : List Str), k ≤ 400 ∧ a ≤ k + 1 ∧ s7 = .int .i64 ((k : Nat) : Int) ∧ s6 = .int .i64 ((a : Nat) : Int) ∧ LeftTo d k secs ∧ Row wr 9 1 s5 k (secs.map sv) ∧ (∀ x ∈ fpv s5, w.heap.size ≤ x) ∧ Kept no w wr) (fun _ _ s7 _ => 400 - (intOf s7).toNat)
  case atStart => exact ⟨0, 1, [], Nat.zero_le _, by omega, rfl, rfl, ⟨rfl, by simp⟩, ⟨rfl, .inl ⟨rfl, rfl⟩⟩, by simp [fpv_nil], Kept.refl _ _⟩
  case round =>
    obtain ⟨k, a, secs, hk, ha, rfl, rfl, hleft, hr, hnew, hkw⟩ := hrel
    have hB0 : ∀ W, Kept no wr W → W.cell? ⟨b, 0, none⟩ = some (.slice pv 400 c) := fun W hW => (hkw.step hW).read (by rw [(cells_of h.cells).1, hvs]; rfl) (fun h => h)
    have hB := hB0 wr (Kept.refl _ _)
    by_cases hlt : k < 400
    · obtain ⟨l, hl⟩ : ∃ l, d.sw[k]? = some l := ⟨d.sw[k], by simp [hsw, hlt]⟩
      have hlm : l ∈ d.sw := List.mem_of_getElem? hl
      have hll := hL.rows l hlm
      have hlp : 0 < l.length := List.length_pos_iff.2 (hL.some l hlm)
      obtain ⟨g, c', g2, o2, c2, hvs', hpv, hc1, hc2, hgb, hgl', hcp, hg2, hg2l, h21, h22, hs2⟩ := h.sec (p := k) hl
      rw [hvs, hV] at hvs'
      simp only [Value.slice.injEq, true_and] at hvs'
      obtain ⟨rfl, rfl⟩ := hvs'
      have hgp : ∀ W, Kept no wr W → W.cell? ⟨g, k, none⟩ = some (.slice (some ⟨g2, o2, none⟩) l.length c2) := fun W hW => (hkw.step hW).read hcp (fun h => h)
      have hgpr := hgp wr (Kept.refl _ _)
      have hsec : ∀ W, Kept no wr W → ∀ j s, l[j]? = some s → W.cell? ⟨g2, o2 + j, none⟩ = some (sv s) := fun W hW j s hs => (hkw.step hW).read (hs2 j s hs) (fun h => h)
      have hsn := fun j s (hs : l[j]? = some s) => hleft.snoc hl (List.mem_of_getElem? hs)
      generalize hm : l.length = m at *
      go_upto_if 28 with fail
      go_cut [8, 6] (fun s8 s6 wx => ∃ j a' : Nat, j < m ∧ a' ≤ k + 2 ∧ s8 = .int .i64 ((j : Nat) : Int) ∧ s6 = .int .i64 ((a' : Nat) : Int) ∧ Kept no wr wx)
      case first =>
        by_cases h1m : 1 < m
        · have hrawr := hraw.kept hkw (fun _ h => h.elim)
          go_wp2_with fail
          refine wp_region3 (fun W => Kept no wr W) [(0, true), (1, true), (3, true), (4, true), (5, true), (6, false), (7, true), (8, true), (9, false), (10, true)] [2, 11, 12] (by kernel_rfl) (by kernel_rfl) (fun _ _ d _ _ h => by cases d <;> exact h) ((Kept.refl _ _).drew) ?_
          repeat ((first | refine wpPre3_pure rfl rfl (fun W => (by go_simp; rfl)) ?_ | refine wpPre3_read rfl rfl (fun W hW => (by have h1 := hB0 W hW; have h2 := hgp W hW; go_simp; rfl)) ?_); simp only [Act.put, List.setIfInBounds_toArray, List.set])
          refine wpPre3_nil ?_
          have hk12 : Kept no wr wr.drew := (Kept.refl _ _).drew
          have hraw2 := hrawr.kept hk12 (fun _ h => h.elim)
          generalize wr.drew = w2 at hk12 hraw2 ⊢
          refine wpTail3_cons rfl rfl (fun K hK => ?_)
          go_wp2_with fail
          refine (raw_any hraw2 a _ rfl (by omega)).mono ?_
          rintro e w3 ⟨rfl, hw⟩
          rw [hw]
          clear hw
          refine hK _ _ ⟨fun h => h, ?_⟩
          clear hK
          refine wpTail3_cons rfl rfl (fun K hK => ?_)
          go_wp2_with fail
          refine (pick_fs (rawN raw a) m _ rfl (rawN_ok hraw.fits a) (by omega) (by omega) w2).mono ?_
          rintro e w3 ⟨rfl, hw⟩
          rw [hw]
          clear hw
          refine hK _ _ ⟨fun h => h, ?_⟩
          clear hK
          have hpl := pickN_lt (rawN raw a) (n := m) (by omega)
          generalize pickN (rawN raw a) m = j at hpl ⊢
          refine wpTail3_cons rfl rfl (fun K hK => ?_)
          go_wp2_with fail
          refine ⟨fun h => h, ?_⟩
          refine wpTail3_nil ?_
          go_wp2
          go_meet
          case rel => exact ⟨j, a + 1, hpl, by omega, rfl, by go_num, hk12⟩
        · go_wp2
          go_meet
          case rel => exact ⟨0, a, hlp, by omega, rfl, rfl, Kept.refl _ _⟩
      case rest =>
        obtain ⟨j, a', hj, ha', rfl, rfl, hkc⟩ := hcut
        obtain ⟨s, hs⟩ : ∃ s, l[j]? = some s := ⟨l[j]'(by omega), by simp [show j < l.length by omega]⟩
        have hB1 := hB0 wc hkc
        have hB2 := hgp wc hkc
        have hB3 := hsec wc hkc j s hs
        have hsn' := hsn j s hs
        clear hB hgpr hs hsn hsec
        have hrc := hr.kept hkc (fun _ _ h => h)
        go_wp2_with (at_builtin; apply hold)
        delta Hid
        obtain ⟨hn5, hsz5, hk5⟩ := new1 wc (Obj.cells #[sv s] 9)
        generalize hG5 : wc.heap.size = G5 at hn5 hsz5 ⊢
        generalize wc.alloc (Obj.cells #[sv s] 9) = w5 at hn5 hsz5 hk5 ⊢
        refine wpList_push rfl _ _ 34 rfl tyStr u5 _ _ rfl (hrc.kept hk5 (fun _ _ h => h)) G5 1 (sv s) rfl (by rw [(cells_of hn5).1]; rfl) rfl (by decide) (by omega) ?_
        intro v6 w6 hr6 hG6
        have hs1 := hkw.size
        have hs2' := hkc.size
        have hs5 := hk5.size
        go_wp2
        refine ⟨⟨k + 1, a', _, by omega, by omega, by go_num, rfl, hsn', ?_, fun x hx => ?_, ?_⟩, by simp [intOf]; omega⟩
        · simpa using hr6
        · rcases hG6.2 x hx with hx | hx
          · exact hnew x hx
          · omega
        · exact ((hkw.step hkc).step hk5).step' hG6.1 (fun x hx hlt => by have := hnew x hx; omega)
    · obtain rfl : k = 400 := by omega
      have hrawr := hraw.kept hkw (fun _ h => h.elim)
      have hd := h.kept hkw (fun _ _ h => h)
      obtain ⟨hc, _⟩ := cells_of hd.cells
      have hr' : Row wr 9 1 u5 secs.length (secs.map sv) := by rw [hleft.1]; exact hr
      have hlv := hleft.leaves hsw
      have hl4 := hleft.1
      have hofs := fun (f : Str) (w2 : World) (hk2 : Kept no wr w2) => of_any (hr'.kept hk2 (fun _ _ h => h)) hl4 f
      have hfin : ∀ (f : Str) (w2 w3 : World) (B' : Nat) (fp : List Nat), d.LeavesFile f → Kept no wr w2 → DiskR w3 B' (DiskS.of secs f) fp → (∀ x ∈ fp, w2.heap.size ≤ x) → Kept no w2 w3 → CrashTo d w w3 (.returned (.pointer (some ⟨B', 0, none⟩))) := fun f w2 w3 B' fp hf hk2 hD hx hk3 =>
        ⟨B', fp, secs, f, rfl, hD, hl4, hlv, hf, fun x hxx => by have := hx x hxx; have := hk2.size; have := hkw.size; omega, (hkw.step hk2).step hk3⟩
      have HF : Hid (∀ (f : Str) (w2 w3 : World) (B' : Nat) (fp : List Nat), d.LeavesFile f → Kept no wr w2 → DiskR w3 B' (DiskS.of secs f) fp → (∀ x ∈ fp, w2.heap.size ≤ x) → Kept no w2 w3 → CrashTo d w w3 (.returned (.pointer (some ⟨B', 0, none⟩)))) := hfin
      clear hfin hr hr' hleft hlv
      cases hren : d.renamed with
      | false =>
        go_wp2_with fail
        refine (hofs d.file wr (Kept.refl _ _)).mono ?_
        rintro e w3 ⟨B', fp, rfl, hD, hx, hk3⟩
        go_wp2
        go_ret
        exact HF.out _ _ _ _ _ (.inl rfl) (Kept.refl _ _) hD hx hk3
      | true =>
        have hwok := rawN_ok hraw.fits 0
        go_wp2_with fail
        refine (raw_any hrawr 0 _ rfl (by omega)).mono ?_
        rintro e w2 ⟨rfl, hw⟩
        rw [hw]
        clear hw
        generalize rawN raw 0 = x at hwok ⊢
        obtain ⟨hx1, hx2⟩ := hwok
        by_cases hev : x.tmod 2 = 0
        · by_cases hx0 : 0 ≤ x
          · rw [Int.tmod_eq_emod_of_nonneg hx0] at hev
            go_wp2_with fail
            refine (hofs d.before wr (Kept.refl _ _)).mono ?_
            rintro e w3 ⟨B', fp, rfl, hD, hx, hk3⟩
            go_wp2
            go_ret
            exact HF.out _ _ _ _ _ (.inr ⟨hren, .inl rfl⟩) (Kept.refl _ _) hD hx hk3
          · go_wp2_with fail
            refine (hofs d.before wr (Kept.refl _ _)).mono ?_
            rintro e w3 ⟨B', fp, rfl, hD, hx, hk3⟩
            go_wp2
            go_ret
            exact HF.out _ _ _ _ _ (.inr ⟨hren, .inl rfl⟩) (Kept.refl _ _) hD hx hk3
        · have hsf := hL.safe hren
          have hfl := hL.file
          have hl1 : ∀ W, Kept no wr W → W.cell? ⟨b, 1, none⟩ = some (sv d.file) := fun W hW => hW.read (by rw [hc]; rfl) (fun h => h)
          have hl4' : ∀ W, Kept no wr W → W.cell? ⟨b, 4, none⟩ = some (.int .i64 (d.safe : Int)) := fun W hW => hW.read (by rw [hc]; rfl) (fun h => h)
          have hlf : ∀ j, j ≤ d.file.length - d.safe → d.LeavesFile (d.file.take (d.safe + j)) := fun j hj => .inr ⟨hren, .inr ⟨d.safe + j, by omega, by omega, rfl⟩⟩
          have HLF : Hid (∀ j, j ≤ d.file.length - d.safe → d.LeavesFile (d.file.take (d.safe + j))) := hlf
          clear hlf
          generalize hfn : d.file = F at *
          generalize hsn : d.safe = Z at *
          have hmore : ∀ (q : Int) (W : World), RawOk q → _ := fun q W hq => pick_fs q (F.length - Z + 1) ((F.length : Int) - (Z : Int) + 1) (by omega) hq (by omega) (by omega) W
          have hplt := fun q => pickN_lt q (n := F.length - Z + 1) (by omega)
          by_cases hx0 : 0 ≤ x
          · rw [Int.tmod_eq_emod_of_nonneg hx0] at hev
            go_wp2_with fail
            refine wp_region3 (fun W => Kept no wr W) [(0, true), (1, true), (2, true), (3, false), (4, true), (5, true), (6, true), (7, false), (8, true), (9, true), (10, true), (11, true), (12, true), (13, false), (14, true), (15, true), (16, true), (17, true), (18, false), (19, true), (20, true)] [21, 22, 23, 24] (by kernel_rfl) (by kernel_rfl) (fun _ _ d _ _ h => by cases d <;> exact h) ((Kept.refl _ _).drew) ?_
            repeat ((first | refine wpPre3_pure rfl rfl (fun W => (by go_simp; rfl)) ?_ | refine wpPre3_read rfl rfl (fun W hW => (by have h1 := hl1 W hW; have h2 := hl4' W hW; go_simp; rfl)) ?_); simp only [Act.put, List.setIfInBounds_toArray, List.set])
            refine wpPre3_nil ?_
            have hk12 : Kept no wr wr.drew := (Kept.refl _ _).drew
            generalize wr.drew = w2 at hk12 ⊢
            refine wpTail3_cons rfl rfl (fun K hK => ?_)
            go_wp2_with fail
            refine (hmore (x / 2) w2 ⟨by omega, by omega⟩).mono ?_
            rintro e w3 ⟨rfl, hw⟩
            rw [hw]
            clear hw
            refine hK _ _ ⟨fun h => h, ?_⟩
            clear hK
            have hj := hplt (x / 2)
            generalize pickN (x / 2) (F.length - Z + 1) = j at hj ⊢
            have hjF : Z + j ≤ F.length := by omega
            refine wpTail3_cons rfl rfl (fun K hK => ?_)
            go_wp2_with fail
            refine ⟨fun h => h, ?_⟩
            refine wpTail3_cons rfl rfl (fun K hK => ?_)
            go_wp2_with fail
            refine ⟨fun h => h, ?_⟩
            refine wpTail3_cons rfl rfl (fun K hK => ?_)
            go_wp2_with fail
            refine ⟨fun h => h, ?_⟩
            refine wpTail3_nil ?_
            go_wp2_with fail
            have hext : (⟨F.toArray⟩ : ByteArray).extract 0 (Z + j) = ⟨(F.take (Z + j)).toArray⟩ := by rw [extract_list]; simp
            rw [hext]
            clear hext
            refine (hofs (F.take (Z + j)) w2 hk12).mono ?_
            rintro e w3 ⟨B', fp, rfl, hD, hx, hk3⟩
            go_wp2
            go_ret
            exact HF.out _ _ _ _ _ (HLF.out j (by omega)) hk12 hD hx hk3
          · have hq1 : -9223372036854775808 ≤ x.tdiv 2 ∧ x.tdiv 2 < 9223372036854775808 := by
              have hnt := Int.neg_tdiv (a := -x) (b := 2)
              rw [Int.neg_neg] at hnt
              rw [hnt, Int.tdiv_eq_ediv_of_nonneg (by omega)]
              omega
            obtain ⟨hq1, hq2⟩ := hq1
            go_wp2_with fail
            refine wp_region3 (fun W => Kept no wr W) [(0, true), (1, true), (2, true), (3, false), (4, true), (5, true), (6, true), (7, false), (8, true), (9, true), (10, true), (11, true), (12, true), (13, false), (14, true), (15, true), (16, true), (17, true), (18, false), (19, true), (20, true)] [21, 22, 23, 24] (by kernel_rfl) (by kernel_rfl) (fun _ _ d _ _ h => by cases d <;> exact h) ((Kept.refl _ _).drew) ?_
            repeat ((first | refine wpPre3_pure rfl rfl (fun W => (by go_simp; rfl)) ?_ | refine wpPre3_read rfl rfl (fun W hW => (by have h1 := hl1 W hW; have h2 := hl4' W hW; go_simp; rfl)) ?_); simp only [Act.put, List.setIfInBounds_toArray, List.set])
            refine wpPre3_nil ?_
            have hk12 : Kept no wr wr.drew := (Kept.refl _ _).drew
            generalize wr.drew = w2 at hk12 ⊢
            refine wpTail3_cons rfl rfl (fun K hK => ?_)
            go_wp2_with fail
            refine (hmore (x.tdiv 2) w2 ⟨hq1, hq2⟩).mono ?_
            rintro e w3 ⟨rfl, hw⟩
            rw [hw]
            clear hw
            refine hK _ _ ⟨fun h => h, ?_⟩
            clear hK
            have hj := hplt (x.tdiv 2)
            generalize pickN (x.tdiv 2) (F.length - Z + 1) = j at hj ⊢
            have hjF : Z + j ≤ F.length := by omega
            refine wpTail3_cons rfl rfl (fun K hK => ?_)
            go_wp2_with fail
            refine ⟨fun h => h, ?_⟩
            refine wpTail3_cons rfl rfl (fun K hK => ?_)
            go_wp2_with fail
            refine ⟨fun h => h, ?_⟩
            refine wpTail3_cons rfl rfl (fun K hK => ?_)
            go_wp2_with fail
            refine ⟨fun h => h, ?_⟩
            refine wpTail3_nil ?_
            go_wp2_with fail
            have hext : (⟨F.toArray⟩ : ByteArray).extract 0 (Z + j) = ⟨(F.take (Z + j)).toArray⟩ := by rw [extract_list]; simp
            rw [hext]
            clear hext
            refine (hofs (F.take (Z + j)) w2 hk12).mono ?_
            rintro e w3 ⟨B', fp, rfl, hD, hx, hk3⟩
            go_wp2
            go_ret
            exact HF.out _ _ _ _ _ (HLF.out j (by omega)) hk12 hD hx hk3
end Go.Proofs.YtdpfohgkikjeaaaGreat
