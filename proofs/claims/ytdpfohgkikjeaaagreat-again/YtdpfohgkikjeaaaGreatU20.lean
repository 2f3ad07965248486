/- Part 20 of the proof: see its parts. -/
import Derived.Test.YtdpfohgkikjeaaaGreatU9
import Derived.Test.YtdpfohgkikjeaaaGreatU19
/- readBack of nothing; Recover. -/
namespace Go.Proofs.YtdpfohgkikjeaaaGreat
open Go.RowKit
set_option linter.unusedVariables false
set_option linter.unusedSimpArgs false

theorem readHead_num {s : Str} {hd : Head} (h : readHead s = some hd) : hd.number < 18446744073709551616 := by
  unfold readHead at h
  split at h
  · cases h
    have h2 := unle_lt' (l := (s.drop 8).take 8) (n := 8) (by rw [List.length_take]; omega)
    exact Nat.lt_of_lt_of_le h2 (by decide)
  · cases h

set_option maxHeartbeats 1000000 in
set_option maxRecDepth 100000 in
theorem readBack_none (b o cap : Nat) (secs : List Str) (w : World) (hs : StrsAt w b o secs) (hl : secs.length = 400) (h64 : ∀ s ∈ secs, s.length = 64) (hcap : 400 ≤ cap) (hcm : cap ≤ 9223372036854775807) (hbl : b < w.heap.size)
    (hno : ∀ h hd t, ¬ Finds (imgOf secs) h hd t) (file : Str) (evI : Int) :
    Calls Tryz.prog 48 #[.slice (some ⟨b, o, none⟩) 400 cap, .string ⟨file.toArray⟩, .int .i64 evI] w fun e w' => e = .returned (.tuple #[.pointer none, .bool false, .int .i64 7]) ∧ Kept no w w' := by
  have hfind := (find_swap b o cap secs w hs hl h64 hcap hcm hbl).mono (R' := fun e w' => e = .returned (.tuple #[.agg #[.string ⟨#[]⟩, .int .i64 0, .int .u32 0, .bool false, .bool false, .int .i64 0, .int .u64 0], .bool false]) ∧ Kept no w w') (fun e w' ⟨hk, hh⟩ => by
    rcases hh with ⟨h', hd', t', hF', he⟩ | ⟨_, he⟩
    · exact absurd hF' (hno _ _ _)
    · exact ⟨he, hk⟩)
  go_enter Tryz.func48, Tryz.ntmps48
  go_wp2_with fail
  refine hfind.mono ?_
  rintro e w1 ⟨rfl, hk1⟩
  go_wp2
  refine bodyPost_ret (v := .tuple #[.pointer none, .bool false, .int .i64 7]) (by simp [results, Tryz.results48, go_sem]) rfl ⟨rfl, hk1.alloc _⟩

/-- What Recover answers. -/
theorem recover_arg (v : Value) (secs : List Str) (file : Str) (n : Int) (w : World) (hr : Row w 9 1 v secs.length (secs.map sv)) (h : n < 1 ∨ 20 < n ∨ ¬ (secs.length = 400 ∧ ∀ s ∈ secs, s.length = 64)) :
    Calls Tryz.prog 20 #[v, .string ⟨file.toArray⟩, .int .i64 n] w fun e w' => e = .returned (.tuple #[.pointer none, .bool false, .int .i64 1]) ∧ w' = w := by
  by_cases h1 : n < 1
  · have hd : decide (n < 1) = true := by simpa using h1
    clear h
    go_enter Tryz.func20, Tryz.ntmps20
    go_wp2
    refine bodyPost_ret (v := .tuple #[.pointer none, .bool false, .int .i64 1]) (by simp [results, Tryz.results20, go_sem]) rfl ⟨rfl, rfl⟩
  · have hd : decide (n < 1) = false := by simpa using h1
    by_cases h2 : 20 < n
    · have hd2 : decide (20 < n) = true := by simpa using h2
      clear h
      go_enter Tryz.func20, Tryz.ntmps20
      go_wp2
      refine bodyPost_ret (v := .tuple #[.pointer none, .bool false, .int .i64 1]) (by simp [results, Tryz.results20, go_sem]) rfl ⟨rfl, rfl⟩
    · have hd2 : decide (20 < n) = false := by simpa using h2
      have hsw := isSwap_any hr false (by simp only [Bool.false_eq_true, false_iff]; rcases h with h | h | h; exact absurd h h1; exact absurd h h2; exact h)
      clear h
      go_enter Tryz.func20, Tryz.ntmps20
      go_wp2_with fail
      refine hsw.mono ?_
      rintro e w1 ⟨rfl, hw⟩
      rw [hw]
      clear hw
      go_wp2
      refine bodyPost_ret (v := .tuple #[.pointer none, .bool false, .int .i64 1]) (by simp [results, Tryz.results20, go_sem]) rfl ⟨rfl, rfl⟩

set_option maxHeartbeats 1000000 in
theorem recover_any (b o cap : Nat) (secs : List Str) (w : World) (hr : Row w 9 1 (.slice (some ⟨b, o, none⟩) 400 cap) secs.length (secs.map sv)) (hl : secs.length = 400) (h64 : ∀ s ∈ secs, s.length = 64) (file : Str) (n : Int) (h1 : 1 ≤ n) (h2 : n ≤ 20)
    (R : Ending → World → Prop) (hb : Calls Tryz.prog 48 #[.slice (some ⟨b, o, none⟩) 400 cap, .string ⟨file.toArray⟩, .int .i64 n] w fun e w' => ∃ v0 v1 v2, e = .returned (.tuple #[v0, v1, v2]) ∧ R e w') :
    Calls Tryz.prog 20 #[.slice (some ⟨b, o, none⟩) 400 cap, .string ⟨file.toArray⟩, .int .i64 n] w R := by
  have hd : decide (n < 1) = false := by simp; omega
  have hd2 : decide (20 < n) = false := by simp; omega
  have hsw := isSwap_any hr true (by simp only [true_iff]; exact ⟨hl, h64⟩)
  go_enter Tryz.func20, Tryz.ntmps20
  go_wp2_with fail
  refine hsw.mono ?_
  rintro e w1 ⟨rfl, hw⟩
  rw [hw]
  clear hw
  go_wp2_with fail
  refine hb.mono ?_
  rintro e w1 ⟨v0, v1, v2, rfl, hR⟩
  go_wp2
  exact bodyPost_ret (v := .tuple #[v0, v1, v2]) (by simp [results, Tryz.results20, go_sem]) rfl hR
end Go.Proofs.YtdpfohgkikjeaaaGreat
/- A disk in memory; Of. -/
namespace Go.Proofs.YtdpfohgkikjeaaaGreat
open Go.RowKit
set_option linter.unusedVariables false
set_option linter.unusedSimpArgs false

abbrev diskT : TypeId := 52
abbrev rowT : TypeId := 34
theorem tyRow : SliceTy Tryz.prog 50 34 1 24 := SliceTy.mk' (z := .slice none 0 0) (by kernel_rfl) (by kernel_rfl) rfl (by decide)

/-- A sector: all that it may be, in a row that is only read. -/
def SecAt (w : World) (v : Value) (l : List Str) (bl : List Nat) : Prop := ∃ g o c, v = .slice (some ⟨g, o, none⟩) l.length c ∧ g ∈ bl ∧ l.length ≤ c ∧ c ≤ maxLen ∧ StrsAt w g o l

theorem SecAt.kept {S : Blocks} {w w' : World} {v l bl} (h : SecAt w v l bl) (k : Kept S w w') (hl : ∀ x ∈ bl, x < w.heap.size) (hn : ∀ x ∈ bl, ¬ S x) : SecAt w' v l bl := by
  obtain ⟨g, o, c, hv, hg, h1, h2, hc⟩ := h
  refine ⟨g, o, c, hv, hg, h1, h2, fun j s hs => ?_⟩
  rw [World.cell?_of_block (w := w) (k.block g (hl g hg) (hn g hg))]
  exact hc j s hs

theorem SecAt.mono {w : World} {v l bl bl'} (h : SecAt w v l bl) (hs : ∀ x ∈ bl, x ∈ bl') : SecAt w v l bl' := by
  obtain ⟨g, o, c, hv, hg, hr⟩ := h
  exact ⟨g, o, c, hv, hs g hg, hr⟩

abbrev diskCells (d : DiskS) (vs : Value) : Array Value := #[vs, sv d.file, sv d.before, .bool d.renamed, .int .i64 (d.safe : Int), sv d.new, .int .i64 (d.newSafe : Int)]

structure DiskAt (w : World) (b : Nat) (d : DiskS) (vs : Value) (vals : List Value) (bl : List Nat) : Prop where
  cells : w.heap[b]? = some (.cells (diskCells d vs) diskT (0, 0))
  row : Row w rowT 1 vs vals.length vals
  len : vals.length = d.sw.length
  secs : ∀ (i : Nat) (v : Value) (l : List Str), vals[i]? = some v → d.sw[i]? = some l → SecAt w v l bl
  low : ∀ x ∈ bl, x < w.heap.size
  b_vs : b ∉ fpv vs
  b_bl : b ∉ bl
  vs_bl : ∀ x ∈ fpv vs, x ∉ bl

/-- The disk d lies at b; its blocks are fp. -/
def DiskR (w : World) (b : Nat) (d : DiskS) (fp : List Nat) : Prop := ∃ vs vals bl, DiskAt w b d vs vals bl ∧ fp = b :: (fpv vs ++ bl)

theorem DiskAt.kept {S : Blocks} {w w' : World} {b d vs vals bl} (h : DiskAt w b d vs vals bl) (k : Kept S w w') (hn : ∀ x ∈ b :: (fpv vs ++ bl), ¬ S x) : DiskAt w' b d vs vals bl := by
  have hb : ∀ x ∈ bl, ¬ S x := fun x hx => hn x (by simp [hx])
  exact ⟨k.get h.cells (hn b (by simp)), h.row.kept k (fun x hx => hn x (by simp [hx])), h.len, fun i v l hv hl => (h.secs i v l hv hl).kept k h.low hb, fun x hx => Nat.lt_of_lt_of_le (h.low x hx) k.size, h.b_vs, h.b_bl, h.vs_bl⟩

theorem DiskR.kept {S : Blocks} {w w' : World} {b d fp} (h : DiskR w b d fp) (k : Kept S w w') (hn : ∀ x ∈ fp, ¬ S x) : DiskR w' b d fp := by
  obtain ⟨vs, vals, bl, h, rfl⟩ := h
  exact ⟨vs, vals, bl, h.kept k hn, rfl⟩

theorem DiskR.lt {w : World} {b d fp} (h : DiskR w b d fp) : ∀ x ∈ fp, x < w.heap.size := fun x hx => by
  obtain ⟨vs, vals, bl, h, rfl⟩ := h
  simp only [List.mem_cons, List.mem_append] at hx
  rcases hx with rfl | hx | hx
  · exact lt_of_heap h.cells
  · exact h.row.lt x hx
  · exact h.low x hx

theorem DiskR.mem {w : World} {b d fp} (h : DiskR w b d fp) : b ∈ fp := by
  obtain ⟨vs, vals, bl, h, rfl⟩ := h
  simp

/-- What a call leaves of a disk. -/
structure DiskTo (w w' : World) (b : Nat) (fp : List Nat) (d' : DiskS) : Prop where
  ex : ∃ fp', DiskR w' b d' fp' ∧ ∀ x ∈ fp', x ∈ fp ∨ w.heap.size ≤ x
  kept : Kept (fun x => x ∈ fp) w w'

theorem strs_one {w : World} {g : Nat} {s : Str} {T : TypeId} {f : Nat × Nat} (h : w.heap[g]? = some (.cells #[sv s] T f)) : StrsAt w g 0 [s] := fun j x hx => by
  rw [cells_of' h]
  match j, hx with
  | 0, hx => simp at hx; subst hx; rfl

/-- One sector more. -/
theorem DiskAt.push {w w1 w2 : World} {b : Nat} {d d' : DiskS} {vs vs' : Value} {vals : List Value} {bl : List Nat} {g : Nat} {s : Str} (h : DiskAt w b d vs vals bl)
    (hg : w1.heap[g]? = some (.cells #[sv s] 9 (0, 0))) (hgn : w.heap.size ≤ g) (hk1 : Kept no w w1)
    (hr : Row w2 rowT 1 vs' (vals.length + 1) (vals ++ [.slice (some ⟨g, 0, none⟩) 1 1])) (hG : Grew w1 w2 vs vs')
    (hsw : d'.sw = d.sw ++ [[s]]) (he : d' = { d with sw := d'.sw }) : DiskAt (w2.setCell ⟨b, 0, none⟩ vs') b d' vs' (vals ++ [.slice (some ⟨g, 0, none⟩) 1 1]) (g :: bl) := by
  have hs1 := hk1.size
  have hs2 := hG.1.size
  have hbl : b < w.heap.size := lt_of_heap h.cells
  have hvl := h.row.lt
  have hbvs' : b ∉ fpv vs' := fun hx => by
    rcases hG.2 b hx with hx | hx
    · exact h.b_vs hx
    · omega
  have hg1 : g < w1.heap.size := lt_of_heap hg
  have hgv : g ∉ fpv vs := fun hx => by have := hvl g hx; omega
  have hgb : g ≠ b := by omega
  have hg2 := hG.1.get hg hgv
  have hc2 : w2.heap[b]? = some (.cells (diskCells d vs) diskT (0, 0)) := hG.1.get (hk1.get h.cells (fun h => h)) h.b_vs
  have hset := heap_set_same (o := 0) (v := vs') hc2
  have hk : Kept (fun x => x = b) w2 (w2.setCell ⟨b, 0, none⟩ vs') := Kept.cell1
  have hg3 := hk.get hg2 hgb
  have hlow : ∀ x ∈ bl, x < w1.heap.size := fun x hx => by have := h.low x hx; omega
  refine ⟨?_, ?_, ?_, ?_, ?_, hbvs', ?_, ?_⟩
  · rw [hset, he]; simp [diskCells]
  · have e : (vals ++ [Value.slice (some ⟨g, 0, none⟩) 1 1]).length = vals.length + 1 := by simp
    rw [e]
    exact hr.kept hk (fun x hx e => hbvs' (e ▸ hx))
  · rw [hsw]; simp [h.len]
  · intro i v l hv hl
    rw [hsw] at hl
    have hlen := h.len
    by_cases hi : i < vals.length
    · rw [List.getElem?_append_left hi] at hv
      rw [List.getElem?_append_left (by omega)] at hl
      have h1 := (h.secs i v l hv hl).kept hk1 h.low (fun _ _ h => h)
      have h2 := h1.kept hG.1 hlow (fun x hx hx2 => h.vs_bl x hx2 hx)
      have h3 := h2.kept hk (fun x hx => by have := hlow x hx; omega) (fun x hx e => h.b_bl (e ▸ hx))
      exact h3.mono (fun x hx => List.mem_cons_of_mem _ hx)
    · have hi' : i = vals.length := by
        have := (List.getElem?_eq_some_iff.1 hv).1
        simp at this; omega
      subst hi'
      rw [List.getElem?_append_right (Nat.le_refl _)] at hv
      rw [List.getElem?_append_right (by omega)] at hl
      simp [hlen] at hv hl
      subst hv; subst hl
      exact ⟨g, 0, 1, rfl, by simp, Nat.le_refl _, by simp [maxLen], strs_one hg3⟩
  · intro x hx
    have := hk.size
    rcases List.mem_cons.1 hx with rfl | hx
    · omega
    · have := hlow x hx; omega
  · intro hx
    rcases List.mem_cons.1 hx with hx | hx
    · exact hgb hx.symm
    · exact h.b_bl hx
  · intro x hx hx2
    rcases List.mem_cons.1 hx2 with rfl | hx2
    · rcases hG.2 x hx with hx | hx
      · exact hgv hx
      · omega
    · rcases hG.2 x hx with hx | hx
      · exact h.vs_bl x hx hx2
      · have := hlow x hx2; omega
end Go.Proofs.YtdpfohgkikjeaaaGreat
/- Of, Fresh. -/
namespace Go.Proofs.YtdpfohgkikjeaaaGreat
open Go.RowKit
set_option linter.unusedVariables false
set_option linter.unusedSimpArgs false

theorem of_take (secs : List Str) (file : Str) {k : Nat} (h : k < secs.length) : (DiskS.of (secs.take (k + 1)) file).sw = (DiskS.of (secs.take k) file).sw ++ [[secs[k]]] := by
  show (secs.take (k + 1)).map _ = (secs.take k).map _ ++ _
  rw [List.take_succ_eq_append_getElem h, List.map_append]; rfl

set_option maxRecDepth 100000 in
set_option maxHeartbeats 1000000 in
theorem of_any {w : World} {v : Value} {secs : List Str} (hr : Row w 9 1 v secs.length (secs.map sv)) (hl : secs.length = 400) (file : Str) :
    Calls Tryz.prog 30 #[v, sv file] w fun e w' => ∃ b fp, e = .returned (.pointer (some ⟨b, 0, none⟩)) ∧ DiskR w' b (DiskS.of secs file) fp ∧ (∀ x ∈ fp, w.heap.size ≤ x) ∧ Kept no w w' := by
  obtain ⟨g, c, rfl, hc1, hcell⟩ : ∃ g c, v = .slice (some ⟨g, 0, none⟩) 400 c ∧ g < w.heap.size ∧ ∀ k (h : k < secs.length), w.cell? ⟨g, k, none⟩ = some (sv secs[k]) := by
    have hlt := hr.lt
    rcases hr.shape with ⟨_, h1, _⟩ | ⟨g, c, hv, _, _⟩
    · omega
    · subst hv
      have hh := hr.cell
      refine ⟨g, c, by rw [hl], hlt g (by simp [fpv_some]), fun k h => ?_⟩
      exact hh.2.2.2 k (sv secs[k]) (by simp [h])
  clear hr
  go_enter Tryz.func30, Tryz.ntmps30
  go_wp2_with fail
  obtain ⟨hn1, hsz1, hk1⟩ := new1 w (Obj.cells #[.slice none 0 0, .string ⟨file.toArray⟩, .string ⟨#[]⟩, .bool false, .int .i64 0, .string ⟨#[]⟩, .int .i64 0] 52)
  generalize hB : w.heap.size = B at hn1 hsz1 ⊢
  generalize w.alloc (Obj.cells #[.slice none 0 0, .string ⟨file.toArray⟩, .string ⟨#[]⟩, .bool false, .int .i64 0, .string ⟨#[]⟩, .int .i64 0] 52) = w1 at hn1 hsz1 hk1 ⊢
  have hd0 : DiskAt w1 B (DiskS.of (secs.take 0) file) (.slice none 0 0) [] [] := ⟨by rw [hn1]; rfl, ⟨rfl, .inl ⟨rfl, rfl⟩⟩, by simp [DiskS.of], by simp, by simp, by simp [fpv_nil], by simp, by simp⟩
  go_loopw [6, 7] (fun s6 s7 wr => ∃ (k : Nat) (vs : Value) (vals : List Value) (bl : List Nat), k ≤ 400 ∧ s6 = .int .i64 ((k : Nat) : Int) ∧ DiskAt wr B (DiskS.of (secs.take k) file) vs vals bl ∧ (∀ x ∈ fpv vs ++ bl, B ≤ x) ∧ Kept no w wr) (fun s6 _ _ => 400 - (intOf s6).toNat)
  case atStart => exact ⟨0, _, _, _, by omega, rfl, hd0, by simp [fpv_nil], hk1⟩
  case round =>
    obtain ⟨k, vs, vals, bl, hk, rfl, hd, hge, hkw⟩ := hrel
    by_cases hlt : k < 400
    · have hk2 : k < secs.length := by omega
      have hcl := hcell k hk2
      rw [← World.cell?_of_block (w' := wr) (a := ⟨g, k, none⟩) (hkw.block g (by omega) (fun h => h))] at hcl
      have hot := of_take secs file hk2
      have HOT : Hid ((DiskS.of (secs.take (k + 1)) file).sw = (DiskS.of (secs.take k) file).sw ++ [[secs[k]]]) := hot
      clear hot hcell
      generalize secs[k] = s at hcl HOT
      go_wp2_with fail
      refine (nought_any wr).mono ?_
      rintro e w2 ⟨rfl, hk2w⟩
      have hd2 := hd.kept hk2w (fun _ _ h => h)
      have hcl2 : w2.cell? ⟨g, k, none⟩ = some (sv s) := by
        rw [World.cell?_of_block (w := wr) (hk2w.block g (by have := hkw.size; omega) (fun h => h))]; exact hcl
      obtain ⟨hcB, hfB⟩ := cells_of hd2.cells
      have hsz2 := hk2w.size
      have hvl : vals.length ≤ 400 := by rw [hd2.len]; simp [DiskS.of]; omega
      have hrow2 := hd2.row
      generalize hn : vals.length = n at hrow2 hvl
      go_wp2_with (at_builtin; apply hold)
      delta Hid
      obtain ⟨hg1, hz1, hkk1⟩ := new1 w2 (Obj.cells #[sv s] 9)
      generalize hG : w2.heap.size = G at hg1 hz1 ⊢
      generalize w2.alloc (Obj.cells #[sv s] 9) = w3 at hg1 hz1 hkk1 ⊢
      obtain ⟨hg2, hz2, hkk2⟩ := new1 w3 (Obj.cells #[.slice (some ⟨G, 0, none⟩) 1 1] 34)
      have hg1' := hkk2.get hg1 (fun h => h)
      have hkk := hkk1.step hkk2
      rw [hz1] at hg2
      generalize w3.alloc (Obj.cells #[.slice (some ⟨G, 0, none⟩) 1 1] 34) = w4 at hg2 hz2 hkk2 hg1' hkk ⊢
      refine wpList_push rfl _ _ 50 rfl tyRow vs _ _ rfl (hrow2.kept hkk (fun _ _ h => h)) (G + 1) 1 (.slice (some ⟨G, 0, none⟩) 1 1) rfl (by rw [(cells_of hg2).1]; rfl) rfl (by decide) (by omega) ?_
      intro v' w5 hown' hgrow
      subst hn
      have hd5 := hd2.push hg1' (by omega) hkk hown' hgrow HOT.out rfl
      obtain ⟨pv, cv, rfl⟩ := hown'.slice
      have hB5 := hgrow.1.get (hkk.get hd2.cells (fun h => h)) hd2.b_vs
      have hbl2 := hd2.low
      have hvl2 := hrow2.lt
      obtain ⟨hc5, hf5⟩ := cells_of hB5
      clear hcB hfB hB5
      go_wp2
      refine ⟨⟨k + 1, _, _, _, by omega, by go_num, hd5, fun x hx => ?_, ?_⟩, by simp [intOf]; omega⟩
      · simp only [List.mem_append, List.mem_cons] at hx
        have hs2 := hkw.size
        have hbn : ∀ y ∈ fpv vs ++ bl, B ≤ y := hge
        rcases hx with hx | rfl | hx
        · rcases hgrow.2 x hx with hx | hx
          · exact hge x (by simp [hx])
          · omega
        · omega
        · exact hge x (by simp [hx])
      · refine (((hkw.step hk2w).step hkk).step' hgrow.1 (fun x hx hlt => ?_)).setNew (by show w.heap.size ≤ B; omega) _
        have := hge x (by simp [hx])
        omega
    · obtain rfl : k = 400 := by omega
      go_wp2
      go_ret
      refine ⟨B, _, rfl, ⟨vs, vals, bl, ?_, rfl⟩, fun x hx => ?_, hkw⟩
      · rw [List.take_of_length_le (by omega)] at hd; exact hd
      · rcases List.mem_cons.1 hx with rfl | hx
        · omega
        · have := hge x hx; omega
end Go.Proofs.YtdpfohgkikjeaaaGreat
/- Fresh. -/
namespace Go.Proofs.YtdpfohgkikjeaaaGreat
open Go.RowKit
set_option linter.unusedVariables false
set_option linter.unusedSimpArgs false

/-- What is read in a world that has grown. -/
theorem Kept.read {S : Blocks} {w W : World} (h : Kept S w W) {b o : Nat} {v : Value} (hc : w.cell? ⟨b, o, none⟩ = some v) (hn : ¬ S b) : W.cell? ⟨b, o, none⟩ = some v := by
  rw [World.cell?_of_block (w := w) (h.block b (World.block_lt_of_cell? w _ hc) hn)]
  exact hc

theorem wp_push {P : Program} {w : World} {o : Oper} {a : Act} {Q : Exit → Act → World → Prop} {K : Act → World → Prop} (s x : Operand) (t : TypeId) (ho : o.op = .call { callee := .builtin .append, args := #[s, x], argTypes := #[t, t] })
    {e : TypeId} {bytes : Nat} (T : SliceTy P t e 1 bytes) (v : Value) (n : Nat) (xs : List Value) (hs : a.eval s = v) (hown : Row w e 1 v n xs)
    (g c : Nat) (u : Value) (hx : a.eval x = .slice (some ⟨g, 0, none⟩) 1 c) (hu : w.cell? ⟨g, 0, none⟩ = some u) (h1 : u.oneCell' = true) (hb : bytes ≤ 64) (hn : n ≤ 1099511627776)
    (h : ∀ v' w', Row w' e 1 v' (n + 1) (xs ++ [u]) → Grew w w' v v' → K (a.put o.dst v') w') : o.wp P a w K Q := by
  obtain ⟨v', w', hr, h2, h3, _⟩ := run_app T o.type w v n xs hown g 0 1 c [u] rfl (fun j u' hj => by
    match j, hj with
    | 0, hj => simp at hj; subst hj; simpa using hu) (fun u' hu' => by simp at hu'; subst hu'; exact h1) (by
    have : (n + 1) * bytes ≤ 1099511627777 * 64 := Nat.mul_le_mul (by omega) hb
    omega) (by omega)
  unfold Oper.wp execOp
  simp only [ho, resolve, invoke, builtin, Sem.run_bind, Sem.run_pure, Result.andThen_ok, List.map_toArray, List.map_cons, List.map_nil, hs, hx, hr]
  exact h v' w' h2 h3

set_option maxRecDepth 100000 in
set_option maxHeartbeats 1000000 in
theorem fresh_disk (w : World) (file : Str) :
    Calls Tryz.prog 29 #[sv file] w fun e w' => ∃ b fp, e = .returned (.pointer (some ⟨b, 0, none⟩)) ∧ DiskR w' b (DiskS.of (List.replicate 400 blank) file) fp ∧ (∀ x ∈ fp, w.heap.size ≤ x) ∧ Kept no w w' := by
  go_enter Tryz.func29, Tryz.ntmps29
  go_wp2_with fail
  obtain ⟨hn1, hsz1, hk1⟩ := new1 w (Obj.cells #[.slice none 0 0, .string ⟨file.toArray⟩, .string ⟨#[]⟩, .bool false, .int .i64 0, .string ⟨#[]⟩, .int .i64 0] 52)
  generalize hB : w.heap.size = B at hn1 hsz1 ⊢
  generalize w.alloc (Obj.cells #[.slice none 0 0, .string ⟨file.toArray⟩, .string ⟨#[]⟩, .bool false, .int .i64 0, .string ⟨#[]⟩, .int .i64 0] 52) = w1 at hn1 hsz1 hk1 ⊢
  have hd0 : DiskAt w1 B (DiskS.of (List.replicate 0 blank) file) (.slice none 0 0) [] [] := ⟨by rw [hn1]; rfl, ⟨rfl, .inl ⟨rfl, rfl⟩⟩, by simp [DiskS.of], by simp, by simp, by simp [fpv_nil], by simp, by simp⟩
  have hot : ∀ k, (DiskS.of (List.replicate (k + 1) blank) file).sw = (DiskS.of (List.replicate k blank) file).sw ++ [[blank]] := fun k => by simp [DiskS.of, List.replicate_succ']
  have HOT : Hid (∀ k, (DiskS.of (List.replicate (k + 1) blank) file).sw = (DiskS.of (List.replicate k blank) file).sw ++ [[blank]]) := hot
  clear hot
  go_loopw [4] (fun s4 wr => ∃ (k : Nat) (vs : Value) (vals : List Value) (bl : List Nat), k ≤ 400 ∧ s4 = .int .i64 ((k : Nat) : Int) ∧ DiskAt wr B (DiskS.of (List.replicate k blank) file) vs vals bl ∧ (∀ x ∈ fpv vs ++ bl, B ≤ x) ∧ Kept no w wr) (fun s4 _ => 400 - (intOf s4).toNat)
  case atStart => exact ⟨0, _, _, _, by omega, rfl, hd0, by simp [fpv_nil], hk1⟩
  case round =>
    obtain ⟨k, vs, vals, bl, hk, rfl, hd, hge, hkw⟩ := hrel
    by_cases hlt : k < 400
    · have hot := HOT.out k
      have HOT1 : Hid ((DiskS.of (List.replicate (k + 1) blank) file).sw = (DiskS.of (List.replicate k blank) file).sw ++ [[blank]]) := hot
      clear hot
      have hB0 : ∀ W, Kept no wr W → W.cell? ⟨B, 0, none⟩ = some vs := fun W hW => hW.read (by rw [(cells_of hd.cells).1]; rfl) (fun h => h)
      go_wp2_with fail
      refine wp_region3 (fun W => Kept no wr W) [(0, true), (1, true), (2, true), (3, true), (4, false)] [5, 6, 7, 8, 9, 10, 11] (by kernel_rfl) (by kernel_rfl) (fun _ _ d _ _ h => by cases d <;> exact h) ((Kept.refl _ _).drew) ?_
      repeat ((first | refine wpPre3_pure rfl rfl (fun W => (by go_simp; rfl)) ?_ | refine wpPre3_read rfl rfl (fun W hW => (by have h1 := hB0 W hW; go_simp; rfl)) ?_); simp only [Act.put, List.setIfInBounds_toArray, List.set])
      refine wpPre3_nil ?_
      refine wpTail3_cons rfl rfl (fun K hK => ?_)
      go_wp2_with fail
      refine (nought_any _).mono ?_
      rintro e w2 ⟨rfl, hk2w⟩
      refine hK _ _ ⟨fun h => h.step hk2w, ?_⟩
      clear hK
      replace hk2w : Kept no wr w2 := hk2w.of_drew
      have hsz2 := hk2w.size
      have hd2 := hd.kept hk2w (fun _ _ h => h)
      have hvl : vals.length ≤ 400 := by rw [hd2.len]; simp [DiskS.of]; omega
      have hrow2 := hd2.row
      generalize hn : vals.length = n at hrow2 hvl
      generalize hbl : blank = s at *
      have HBL : Hid (blank = s) := hbl
      clear hbl
      refine wpTail3_cons rfl rfl (fun K hK => ?_)
      go_wp2_with fail
      refine ⟨fun h => h.alloc _, ?_⟩
      obtain ⟨hg1, hz1, hkk1⟩ := new1 w2 (Obj.cells #[sv s] 9)
      generalize hG : w2.heap.size = G at hg1 hz1 ⊢
      generalize w2.alloc (Obj.cells #[sv s] 9) = w3 at hg1 hz1 hkk1 ⊢
      refine wpTail3_cons rfl rfl (fun K hK => ?_)
      go_wp2_with fail
      refine ⟨fun h => h.alloc _, ?_⟩
      obtain ⟨hg2, hz2, hkk2⟩ := new1 w3 (Obj.cells #[.slice (some ⟨G, 0, none⟩) 1 1] 34)
      have hg1' := hkk2.get hg1 (fun h => h)
      have hkk := hkk1.step hkk2
      rw [hz1] at hg2
      generalize w3.alloc (Obj.cells #[.slice (some ⟨G, 0, none⟩) 1 1] 34) = w4 at hg2 hz2 hkk2 hg1' hkk ⊢
      refine wpTail3_last (by kernel_rfl) rfl rfl (fun K hK => ?_)
      refine wp_push _ _ 50 rfl tyRow vs _ _ rfl (hrow2.kept hkk (fun _ _ h => h)) (G + 1) 1 (.slice (some ⟨G, 0, none⟩) 1 1) rfl (by rw [(cells_of hg2).1]; rfl) rfl (by decide) (by omega) ?_
      intro v' w5 hown' hgrow
      refine hK _ _ ?_
      clear hK
      subst hn
      have hd5 := hd2.push hg1' (by omega) hkk hown' hgrow HOT1.out rfl
      obtain ⟨pv, cv, rfl⟩ := hown'.slice
      have hB5 := hgrow.1.get (hkk.get hd2.cells (fun h => h)) hd2.b_vs
      have hbl2 := hd2.low
      have hvl2 := hrow2.lt
      obtain ⟨hc5, hf5⟩ := cells_of hB5
      clear hB5
      refine wpTail3_last (by kernel_rfl) rfl rfl (fun K hK => ?_)
      go_wp2_with fail
      refine wpTail3_last (by kernel_rfl) rfl rfl (fun K hK => ?_)
      go_wp2_with fail
      refine wpTail3_last (by kernel_rfl) rfl rfl (fun K hK => ?_)
      go_wp2_with fail
      refine wpTail3_nil ?_
      go_wp2
      rw [HBL.out]
      refine ⟨⟨k + 1, _, _, _, by omega, by go_num, hd5, fun x hx => ?_, ?_⟩, by simp [intOf]; omega⟩
      · simp only [List.mem_append, List.mem_cons] at hx
        have hs2 := hkw.size
        rcases hx with hx | rfl | hx
        · rcases hgrow.2 x hx with hx | hx
          · exact hge x (by simp [hx])
          · omega
        · omega
        · exact hge x (by simp [hx])
      · refine (((hkw.step hk2w).step hkk).step' hgrow.1 (fun x hx hlt => ?_)).setNew (by show w.heap.size ≤ B; omega) _
        have := hge x (by simp [hx])
        omega
    · obtain rfl : k = 400 := by omega
      go_wp2
      go_ret
      refine ⟨B, _, rfl, ⟨vs, vals, bl, hd, rfl⟩, fun x hx => ?_, hkw⟩
      rcases List.mem_cons.1 hx with rfl | hx
      · omega
      · have := hge x hx; omega
end Go.Proofs.YtdpfohgkikjeaaaGreat
/- Right; Do. -/
namespace Go.Proofs.YtdpfohgkikjeaaaGreat
open Go.RowKit
set_option linter.unusedVariables false
set_option linter.unusedSimpArgs false

set_option maxRecDepth 100000 in
set_option maxHeartbeats 1000000 in
theorem right_any (a : PAct) (h : RightA a) (w : World) : Calls Tryz.prog 43 #[a.val] w fun e w' => e = .returned (.bool true) ∧ Kept no w w' := by
  obtain ⟨kind, at_, data⟩ := a
  rcases h with ⟨hk, h1, h2⟩ | ⟨hk, h1⟩ | ⟨hk, h1, h2⟩
  · simp only at hk h1 h2
    subst hk
    have h2' : (data.length : Int) = 64 := by omega
    clear h2
    go_enter Tryz.func43, Tryz.ntmps43
    go_wp2
    go_ret
    exact ⟨by simp, (Kept.refl _ _).alloc _⟩
  · simp only at hk h1
    subst hk
    subst h1
    go_enter Tryz.func43, Tryz.ntmps43
    go_wp2
    go_ret
    exact ⟨by simp, (Kept.refl _ _).alloc _⟩
  · simp only at hk h1 h2
    subst h1
    subst h2
    rcases hk with rfl | rfl | rfl | rfl | rfl
    all_goals
      go_enter Tryz.func43, Tryz.ntmps43
      go_wp2
      go_ret
      exact ⟨by simp, (Kept.refl _ _).alloc _⟩
end Go.Proofs.YtdpfohgkikjeaaaGreat
