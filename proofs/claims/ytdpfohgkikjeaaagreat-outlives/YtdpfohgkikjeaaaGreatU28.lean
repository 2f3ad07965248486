/- Part 28 of the proof: see its parts. -/
import Derived.Test.YtdpfohgkikjeaaaGreatU27
/- move: a failure of the computer. -/
namespace Go.Proofs.YtdpfohgkikjeaaaGreat
open Go.RowKit
set_option linter.unusedVariables false
set_option linter.unusedSimpArgs false

theorem leavesFile_len {d : DiskS} {N L : Nat} (h : d.Lens N L) {f : Str} (hf : d.LeavesFile f) : f.length ≤ L := by
  have h1 := h.file
  have h2 := h.before
  rcases hf with rfl | ⟨_, rfl | ⟨n, _, _, rfl⟩⟩
  · exact h1
  · exact h2
  · rw [List.length_take]; omega

set_option maxRecDepth 100000 in
set_option maxHeartbeats 8000000 in
theorem move_crash {w b bx bd D fp N L B} (h : DeskR w b bx bd D fp) (g : Going D N L) (hN : N + 600 ≤ 8000000000000) (hL : L ≤ 1000000000000) (kind n : Int) (v : Value) (raw : List Int) (hraw : IntsAt w B v raw) (hBw : ∀ x ∈ fp, B ≤ x) (hkind : RawOk kind) (hn : RawOk n) (hK : pickN kind 8 = 7) :
    Calls Tryz.prog 31 #[.pointer (some ⟨b, 0, none⟩), .agg #[.int .i64 kind, .int .i64 n, v]] w fun e w' => e = .returned (.bool true) ∧ MovedTo w w' b fp D (N + 1) L := by
  obtain ⟨vt, vf, fx, fd, ft, ff, hM, rfl⟩ := h
  have hb0 : b < w.heap.size := lt_of_heap hM.cells
  obtain ⟨hc0, _⟩ := cells_of hM.cells
  go_enter Tryz.func31, Tryz.ntmps31
  go_wp2_with fail
  obtain ⟨hn1, hsz1, hk1⟩ := new1 w (Obj.cells #[.int .i64 kind, .int .i64 n, v] 40)
  have hM1 := hM.kept hk1 (fun _ _ h => h)
  generalize hA : w.heap.size = A at hn1 hsz1 ⊢
  generalize w.alloc (Obj.cells #[.int .i64 kind, .int .i64 n, v] 40) = w1 at hn1 hsz1 hk1 hM1 ⊢
  refine (look_doc hM1.doc).mono ?_
  rintro e w2 ⟨rfl, hk2⟩
  have hM2 := hM1.kept hk2 (fun _ _ h => h)
  have hn2 := hk2.get hn1 (fun h => h)
  obtain ⟨hca2, _⟩ := cells_of hn2
  have hA2 : A < w2.heap.size := lt_of_heap hn2
  go_wp2_with fail
  obtain ⟨hn3, hsz3, hk3⟩ := new1 w2 (Obj.cells #[.int .i64 (D.doc.lines.length : Int), .int .i64 (D.doc.edits : Int), .int .i64 (D.doc.kind : Int)] viewT)
  have hM3 := hM2.kept hk3 (fun _ _ h => h)
  have ha3 := hk3.get hn2 (fun h => h)
  generalize hV : w2.heap.size = V at hn3 hsz3 hA2 ⊢
  generalize w2.alloc (Obj.cells #[.int .i64 (D.doc.lines.length : Int), .int .i64 (D.doc.edits : Int), .int .i64 (D.doc.kind : Int)] viewT) = w3 at hn3 hsz3 hk3 hM3 ha3 ⊢
  refine (pick_keep kind 8 8 rfl hkind (by decide) (by decide) w3).mono ?_
  rintro e w4 ⟨rfl, hw⟩
  rw [hw, hK]
  clear hw hc0 hca2
  have hkw : Kept no w w3 := (hk1.step hk2).step hk3
  have hraw3 := hraw.kept hkw (fun _ h => h.elim)
  have hR3 : DeskR w3 b bx bd D (deskFp b fx fd ft ff) := ⟨_, _, _, _, _, _, hM3, rfl⟩
  have hmv : ∀ w' D', DeskTo w3 w' b bx bd (deskFp b fx fd ft ff) D' → Going D' (N + 1) L → D'.doc.every = D.doc.every → MovedTo w w' b (deskFp b fx fd ft ff) D (N + 1) L := fun w' D' ⟨⟨fp', hr, hx⟩, hk⟩ g' he =>
    ⟨bx, bd, fp', D', hr, g', he, fun x hx' => by
      rcases hx x hx' with h | h
      · exact .inl h
      · have := hkw.size; exact .inr (by omega), (hkw.mono (fun _ h _ => h.elim)).step hk⟩
  obtain ⟨hcA, _⟩ := cells_of ha3
  obtain ⟨hcV, _⟩ := cells_of hn3
  obtain ⟨hcB, _⟩ := cells_of hM3.cells
  have hbd : ∀ W, Kept no w3 W → W.cell? ⟨b, 1, none⟩ = some (.pointer (some ⟨bd, 0, none⟩)) := fun W hW => hW.read (by rw [hcB]; rfl) (fun h => h)
  have hv : ∀ W, Kept no w3 W → W.cell? ⟨A, 2, none⟩ = some v := fun W hW => hW.read (by rw [hcA]; rfl) (fun h => h)
  go_wp2_with fail
  refine wp_region3 (fun W => Kept no w3 W) [(0, true), (1, true), (2, true), (3, true), (4, false), (5, true), (6, false)] [7, 8, 9] (by kernel_rfl) (by kernel_rfl) (fun _ _ d _ _ h => by cases d <;> exact h) ((Kept.refl _ _).drew) ?_
  repeat ((first | refine wpPre3_pure rfl rfl (fun W => (by go_simp; rfl)) ?_ | refine wpPre3_read rfl rfl (fun W hW => (by have h1 := hv W hW; have h2 := hbd W hW; go_simp; rfl)) ?_); simp only [Act.put, List.setIfInBounds_toArray, List.set])
  refine wpPre3_nil ?_
  have hk4 : Kept no w3 w3.drew := (Kept.refl _ _).drew
  have hraw4 := hraw3.kept hk4 (fun _ h => h.elim)
  have hM4 := hM3.kept hk4 (fun _ _ h => h)
  generalize w3.drew = w4 at hk4 hraw4 hM4 ⊢
  refine wpTail3_cons rfl rfl (fun K hK => ?_)
  go_wp2_with fail
  refine (crash_any hM4.disk g.ok.lens (by omega) (by omega) hraw4).mono ?_
  rintro e w5 ⟨⟨BK, fk, secs, f, rfl, hKD, hsl, hlv, hlf, hkn, hk5⟩⟩
  refine hK _ _ ⟨fun h => h.step hk5, ?_⟩
  clear hK
  have hM5 := hM4.kept hk5 (fun _ _ h => h)
  have hR5 : DeskR w5 b bx bd D (deskFp b fx fd ft ff) := ⟨_, _, _, _, _, _, hM5, rfl⟩
  refine wpTail3_last (by kernel_rfl) rfl rfl (fun K hK => ?_)
  go_wp2_with fail
  refine (back_any hR5 g.ok g.known (by omega) hL hKD hsl hlv (g.ok.file.leaves hlf) g.mf g.mt (leavesFile_len g.ok.lens hlf) (fun x hx hx2 => by have := hkn x hx; have := hM4.lt x hx2; omega)).mono ?_
  rintro e w6 ⟨rfl, ls, hh, hd, bx', fp', hls, hch, hF, hR6, hok6, hx6, hk6⟩
  refine hK _ _ ?_
  clear hK
  refine wpTail3_last (by kernel_rfl) rfl rfl (fun K hK => ?_)
  go_wp2_with fail
  refine wpTail3_nil ?_
  go_wp2
  go_ret
  have hs34 := hk4.size
  have hs45 := hk5.size
  have hsw := hkw.size
  refine ⟨by simp, bx', BK, fp', _, hR6, ⟨hok6.mono (by omega), rfl, rfl, rfl, back_rows _ _ _ _ _ _ _ (by omega)⟩, rfl, fun x hx => ?_, ((hkw.step (hk4.step hk5)).mono (T := fun x => x ∈ deskFp b fx fd ft ff) (fun _ h _ => h.elim)).step hk6⟩
  rcases hx6 x hx with h | h | h
  · exact .inl h
  · have := hkn x h; exact .inr (by omega)
  · exact .inr (by omega)
end Go.Proofs.YtdpfohgkikjeaaaGreat
/- move: Sync. -/
namespace Go.Proofs.YtdpfohgkikjeaaaGreat
open Go.RowKit
set_option linter.unusedVariables false
set_option linter.unusedSimpArgs false

set_option maxRecDepth 100000 in
set_option maxHeartbeats 8000000 in
theorem move_sync {w b bx bd D fp N L B} (h : DeskR w b bx bd D fp) (g : Going D N L) (hN : N + 600 ≤ 8000000000000) (hL : L ≤ 1000000000000) (kind n : Int) (v : Value) (raw : List Int) (hraw : IntsAt w B v raw) (hBw : ∀ x ∈ fp, B ≤ x) (hkind : RawOk kind) (hn : RawOk n) (hK : pickN kind 8 = 3) :
    Calls Tryz.prog 31 #[.pointer (some ⟨b, 0, none⟩), .agg #[.int .i64 kind, .int .i64 n, v]] w fun e w' => e = .returned (.bool true) ∧ MovedTo w w' b fp D (N + 1) L := by
  obtain ⟨vt, vf, fx, fd, ft, ff, hM, rfl⟩ := h
  have hb0 : b < w.heap.size := lt_of_heap hM.cells
  obtain ⟨hc0, _⟩ := cells_of hM.cells
  go_enter Tryz.func31, Tryz.ntmps31
  go_wp2_with fail
  obtain ⟨hn1, hsz1, hk1⟩ := new1 w (Obj.cells #[.int .i64 kind, .int .i64 n, v] 40)
  have hM1 := hM.kept hk1 (fun _ _ h => h)
  generalize hA : w.heap.size = A at hn1 hsz1 ⊢
  generalize w.alloc (Obj.cells #[.int .i64 kind, .int .i64 n, v] 40) = w1 at hn1 hsz1 hk1 hM1 ⊢
  refine (look_doc hM1.doc).mono ?_
  rintro e w2 ⟨rfl, hk2⟩
  have hM2 := hM1.kept hk2 (fun _ _ h => h)
  have hn2 := hk2.get hn1 (fun h => h)
  obtain ⟨hca2, _⟩ := cells_of hn2
  have hA2 : A < w2.heap.size := lt_of_heap hn2
  go_wp2_with fail
  obtain ⟨hn3, hsz3, hk3⟩ := new1 w2 (Obj.cells #[.int .i64 (D.doc.lines.length : Int), .int .i64 (D.doc.edits : Int), .int .i64 (D.doc.kind : Int)] viewT)
  have hM3 := hM2.kept hk3 (fun _ _ h => h)
  have ha3 := hk3.get hn2 (fun h => h)
  generalize hV : w2.heap.size = V at hn3 hsz3 hA2 ⊢
  generalize w2.alloc (Obj.cells #[.int .i64 (D.doc.lines.length : Int), .int .i64 (D.doc.edits : Int), .int .i64 (D.doc.kind : Int)] viewT) = w3 at hn3 hsz3 hk3 hM3 ha3 ⊢
  refine (pick_keep kind 8 8 rfl hkind (by decide) (by decide) w3).mono ?_
  rintro e w4 ⟨rfl, hw⟩
  rw [hw, hK]
  clear hw hc0 hca2
  have hkw : Kept no w w3 := (hk1.step hk2).step hk3
  have hraw3 := hraw.kept hkw (fun _ h => h.elim)
  have hR3 : DeskR w3 b bx bd D (deskFp b fx fd ft ff) := ⟨_, _, _, _, _, _, hM3, rfl⟩
  have hmv : ∀ w' D', DeskTo w3 w' b bx bd (deskFp b fx fd ft ff) D' → Going D' (N + 1) L → D'.doc.every = D.doc.every → MovedTo w w' b (deskFp b fx fd ft ff) D (N + 1) L := fun w' D' ⟨⟨fp', hr, hx⟩, hk⟩ g' he =>
    ⟨bx, bd, fp', D', hr, g', he, fun x hx' => by
      rcases hx x hx' with h | h
      · exact .inl h
      · have := hkw.size; exact .inr (by omega), (hkw.mono (fun _ h _ => h.elim)).step hk⟩
  obtain ⟨hcA, _⟩ := cells_of ha3
  obtain ⟨hcV, _⟩ := cells_of hn3
  obtain ⟨hcB, _⟩ := cells_of hM3.cells
  have hs := sync_d hM3.doc
  by_cases hk0 : D.doc.kind = 0
  · have hk0' : (D.doc.kind : Int) = 0 := by omega
    by_cases he : D.doc.edits = 0
    · have he' : (D.doc.edits : Int) = 0 := by omega
      have hr : D.doc.sync = (6, D.doc) := by
        unfold DocS.sync
        rw [if_neg (by omega), if_pos ⟨he, g.known⟩]
      rw [hr] at hs
      clear hr he hk0
      go_wp2_with fail
      refine hs.mono ?_
      rintro e w5 ⟨rfl, hT⟩
      obtain ⟨fx5, hM5, hx5⟩ := hM3.doc_to hT
      have hcV5 : ∀ k, w5.cell? ⟨V, k, none⟩ = #[Value.int .i64 (D.doc.lines.length : Int), .int .i64 (D.doc.edits : Int), .int .i64 (D.doc.kind : Int)][k]? := (cells_of (hT.kept.get hn3 (fun hx => by have hx : V ∈ fx := hx; have := hM2.doc.lt V hx; omega))).1
      have hTo : DeskTo w3 w5 b bx bd (deskFp b fx fd ft ff) D := ⟨⟨_, ⟨_, _, _, _, _, _, hM5, rfl⟩, fun x hx => by
        simp only [deskFp, List.mem_cons, List.mem_append] at hx ⊢
        rcases hx with rfl | hx | hx | hx | hx
        · exact .inl (.inl rfl)
        · rcases hx5 x hx with hx | hx
          · exact .inl (.inr (.inl hx))
          · exact .inr (by omega)
        · exact .inl (.inr (.inr (.inl hx)))
        · exact .inl (.inr (.inr (.inr (.inl hx))))
        · exact .inl (.inr (.inr (.inr (.inr hx))))⟩, hT.kept.mono (fun x hx _ => by have hx : x ∈ fx := hx; show x ∈ deskFp b fx fd ft ff; simp [hx])⟩
      clear hM5 hcV
      go_wp2
      go_ret
      exact ⟨by simp, hmv _ _ hTo (g.mono (by omega)) rfl⟩
    · have hr : D.doc.sync = (0, D.doc.beginSync) := by
        unfold DocS.sync
        rw [if_neg (by omega), if_neg (fun hh => he hh.1)]
      rw [hr] at hs
      clear hr
      have htl : D.mt.length ≤ 8000000000000 := by have := g.ok.mtN; omega
      go_wp2_with fail
      refine hs.mono ?_
      rintro e w5 ⟨rfl, hT⟩
      obtain ⟨fx5, hM5, hx5⟩ := hM3.doc_to hT
      have hn5 := hT.kept.get hn3 (fun hx => by have hx : V ∈ fx := hx; have := hM2.doc.lt V hx; omega)
      have hdok := hM5.doc.ok
      have hV5 : ∀ x ∈ deskFp b fx5 fd ft ff, x ∈ deskFp b fx fd ft ff ∨ w3.heap.size ≤ x := fun x hx => by
        simp only [deskFp, List.mem_cons, List.mem_append] at hx ⊢
        rcases hx with rfl | hx | hx | hx | hx
        · exact .inl (.inl rfl)
        · rcases hx5 x hx with hx | hx
          · exact .inl (.inr (.inl hx))
          · exact .inr hx
        · exact .inl (.inr (.inr (.inl hx)))
        · exact .inl (.inr (.inr (.inr (.inl hx))))
        · exact .inl (.inr (.inr (.inr (.inr hx))))
      go_wp2_with fail
      refine (begun_yes hM5 rfl htl).mono ?_
      rintro e w6 ⟨rfl, vt', ft', hM6, hx6, hk6⟩
      have hs35 := hT.kept.size
      have hVlt : V < w3.heap.size := lt_of_heap hn3
      have hVn : ¬ V ∈ deskFp b fx5 fd ft ff := fun hx => by
        rcases hV5 V hx with hx | hx
        · have := hM2.lt V hx; omega
        · omega
      have hcV6 : ∀ k, w6.cell? ⟨V, k, none⟩ = #[Value.int .i64 (D.doc.lines.length : Int), .int .i64 (D.doc.edits : Int), .int .i64 (D.doc.kind : Int)][k]? := (cells_of (hk6.get hn5 hVn)).1
      have hTo : DeskTo w3 w6 b bx bd (deskFp b fx fd ft ff) (DeskS.begun { D with doc := D.doc.beginSync }) := by
        unfold DeskS.begun
        rw [if_pos (show D.doc.beginSync.kind = 1 from rfl)]
        refine ⟨⟨deskFp b fx5 fd ft' ff, ⟨vt', vf, fx5, fd, ft', ff, ?_, rfl⟩, fun x hx => ?_⟩, (hT.kept.mono (T := fun x => x ∈ deskFp b fx fd ft ff) (fun x hx _ => by have hx : x ∈ fx := hx; show x ∈ deskFp b fx fd ft ff; simp [hx])).step' hk6 (fun x hx hlt => (hV5 x hx).resolve_right (by omega))⟩
        · show DeskM w6 b D.doc.beginSync D.disk (D.mt ++ [D.doc.beginSync.text]) D.mf _ _ _ _ _ _ _ _ _
          exact hM6
        · simp only [deskFp, List.mem_cons, List.mem_append] at hx
          rcases hx with rfl | hx | hx | hx | hx
          · exact hV5 _ (by simp)
          · exact hV5 x (by simp [hx])
          · exact hV5 x (by simp [hx])
          · rcases hx6 x hx with hx | hx
            · exact hV5 x (by simp [hx])
            · exact .inr (by omega)
          · exact hV5 x (by simp [hx])
      have hG : Going (DeskS.begun { D with doc := D.doc.beginSync }) (N + 1) L := ⟨(g.ok.synced hk0 hdok).mono (by omega), by
        unfold DeskS.begun
        rw [if_pos (show D.doc.beginSync.kind = 1 from rfl)]
        exact g.known, by
        unfold DeskS.begun
        rw [if_pos (show D.doc.beginSync.kind = 1 from rfl)]
        exact g.mf, by
        unfold DeskS.begun
        rw [if_pos (show D.doc.beginSync.kind = 1 from rfl)]
        show D.mt ++ [D.doc.beginSync.text] = (D.ch ++ [(D.doc.beginSync.text, D.doc.beginSync.file)]).map (·.1)
        rw [List.map_append, g.mt]
        rfl, fun i hi => Nat.le_trans (synced_rows g.ok i hi) (by omega)⟩
      have hE : (DeskS.begun { D with doc := D.doc.beginSync }).doc.every = D.doc.every := by
        unfold DeskS.begun
        rw [if_pos (show D.doc.beginSync.kind = 1 from rfl)]
        rfl
      clear hM5 hM6 hcV hk0
      go_wp2
      go_ret
      exact ⟨by simp, hmv _ _ hTo hG hE⟩
  · have hk0' : ¬ (D.doc.kind : Int) = 0 := by omega
    have hr : D.doc.sync = (5, D.doc) := by
      unfold DocS.sync
      rw [if_pos hk0]
    rw [hr] at hs
    clear hr
    go_wp2_with fail
    refine hs.mono ?_
    rintro e w5 ⟨rfl, hT⟩
    obtain ⟨fx5, hM5, hx5⟩ := hM3.doc_to hT
    have hcV5 : ∀ k, w5.cell? ⟨V, k, none⟩ = #[Value.int .i64 (D.doc.lines.length : Int), .int .i64 (D.doc.edits : Int), .int .i64 (D.doc.kind : Int)][k]? := (cells_of (hT.kept.get hn3 (fun hx => by have hx : V ∈ fx := hx; have := hM2.doc.lt V hx; omega))).1
    have hTo : DeskTo w3 w5 b bx bd (deskFp b fx fd ft ff) D := ⟨⟨_, ⟨_, _, _, _, _, _, hM5, rfl⟩, fun x hx => by
      simp only [deskFp, List.mem_cons, List.mem_append] at hx ⊢
      rcases hx with rfl | hx | hx | hx | hx
      · exact .inl (.inl rfl)
      · rcases hx5 x hx with hx | hx
        · exact .inl (.inr (.inl hx))
        · exact .inr (by omega)
      · exact .inl (.inr (.inr (.inl hx)))
      · exact .inl (.inr (.inr (.inr (.inl hx))))
      · exact .inl (.inr (.inr (.inr (.inr hx))))⟩, hT.kept.mono (fun x hx _ => by have hx : x ∈ fx := hx; show x ∈ deskFp b fx fd ft ff; simp [hx])⟩
    clear hM5 hcV
    go_wp2
    go_ret
    exact ⟨by simp [hk0], hmv _ _ hTo (g.mono (by omega)) rfl⟩
end Go.Proofs.YtdpfohgkikjeaaaGreat
/- move: Save. -/
namespace Go.Proofs.YtdpfohgkikjeaaaGreat
open Go.RowKit
set_option linter.unusedVariables false
set_option linter.unusedSimpArgs false

set_option maxRecDepth 100000 in
set_option maxHeartbeats 8000000 in
theorem move_save {w b bx bd D fp N L B} (h : DeskR w b bx bd D fp) (g : Going D N L) (hN : N + 600 ≤ 8000000000000) (hL : L ≤ 1000000000000) (kind n : Int) (v : Value) (raw : List Int) (hraw : IntsAt w B v raw) (hBw : ∀ x ∈ fp, B ≤ x) (hkind : RawOk kind) (hn : RawOk n) (hK : pickN kind 8 = 4) :
    Calls Tryz.prog 31 #[.pointer (some ⟨b, 0, none⟩), .agg #[.int .i64 kind, .int .i64 n, v]] w fun e w' => e = .returned (.bool true) ∧ MovedTo w w' b fp D (N + 1) L := by
  obtain ⟨vt, vf, fx, fd, ft, ff, hM, rfl⟩ := h
  have hb0 : b < w.heap.size := lt_of_heap hM.cells
  obtain ⟨hc0, _⟩ := cells_of hM.cells
  go_enter Tryz.func31, Tryz.ntmps31
  go_wp2_with fail
  obtain ⟨hn1, hsz1, hk1⟩ := new1 w (Obj.cells #[.int .i64 kind, .int .i64 n, v] 40)
  have hM1 := hM.kept hk1 (fun _ _ h => h)
  generalize hA : w.heap.size = A at hn1 hsz1 ⊢
  generalize w.alloc (Obj.cells #[.int .i64 kind, .int .i64 n, v] 40) = w1 at hn1 hsz1 hk1 hM1 ⊢
  refine (look_doc hM1.doc).mono ?_
  rintro e w2 ⟨rfl, hk2⟩
  have hM2 := hM1.kept hk2 (fun _ _ h => h)
  have hn2 := hk2.get hn1 (fun h => h)
  obtain ⟨hca2, _⟩ := cells_of hn2
  have hA2 : A < w2.heap.size := lt_of_heap hn2
  go_wp2_with fail
  obtain ⟨hn3, hsz3, hk3⟩ := new1 w2 (Obj.cells #[.int .i64 (D.doc.lines.length : Int), .int .i64 (D.doc.edits : Int), .int .i64 (D.doc.kind : Int)] viewT)
  have hM3 := hM2.kept hk3 (fun _ _ h => h)
  have ha3 := hk3.get hn2 (fun h => h)
  generalize hV : w2.heap.size = V at hn3 hsz3 hA2 ⊢
  generalize w2.alloc (Obj.cells #[.int .i64 (D.doc.lines.length : Int), .int .i64 (D.doc.edits : Int), .int .i64 (D.doc.kind : Int)] viewT) = w3 at hn3 hsz3 hk3 hM3 ha3 ⊢
  refine (pick_keep kind 8 8 rfl hkind (by decide) (by decide) w3).mono ?_
  rintro e w4 ⟨rfl, hw⟩
  rw [hw, hK]
  clear hw hc0 hca2
  have hkw : Kept no w w3 := (hk1.step hk2).step hk3
  have hraw3 := hraw.kept hkw (fun _ h => h.elim)
  have hR3 : DeskR w3 b bx bd D (deskFp b fx fd ft ff) := ⟨_, _, _, _, _, _, hM3, rfl⟩
  have hmv : ∀ w' D', DeskTo w3 w' b bx bd (deskFp b fx fd ft ff) D' → Going D' (N + 1) L → D'.doc.every = D.doc.every → MovedTo w w' b (deskFp b fx fd ft ff) D (N + 1) L := fun w' D' ⟨⟨fp', hr, hx⟩, hk⟩ g' he =>
    ⟨bx, bd, fp', D', hr, g', he, fun x hx' => by
      rcases hx x hx' with h | h
      · exact .inl h
      · have := hkw.size; exact .inr (by omega), (hkw.mono (fun _ h _ => h.elim)).step hk⟩
  obtain ⟨hcA, _⟩ := cells_of ha3
  obtain ⟨hcV, _⟩ := cells_of hn3
  obtain ⟨hcB, _⟩ := cells_of hM3.cells
  have hs := save_any hM3.doc
  by_cases hk0 : D.doc.kind = 0
  · have hk0' : (D.doc.kind : Int) = 0 := by omega
    have hsv : D.doc.save = (0, { D.doc with kind := 2, acts := saveActs D.doc.text }) := by
      unfold DocS.save
      rw [if_neg (by omega)]
    have hsv2 : D.doc.save.2 = { D.doc with kind := 2, acts := saveActs D.doc.text } := by rw [hsv]
    have HSV : Hid (D.doc.save.2 = { D.doc with kind := 2, acts := saveActs D.doc.text }) := hsv2
    have hs1 : D.doc.save.1 = 0 := by rw [hsv]
    rw [hs1] at hs
    clear hsv hsv2 hs1
    have hml := g.ok.mfN
    go_wp2_with fail
    refine hs.mono ?_
    rintro e w5 ⟨rfl, hT⟩
    obtain ⟨fx5, hM5, hx5⟩ := hM3.doc_to hT
    have hn5 := hT.kept.get hn3 (fun hx => by have hx : V ∈ fx := hx; have := hM2.doc.lt V hx; omega)
    have hdok := hM5.doc.ok
    generalize hq : D.doc.save.2 = q at *
    have HQ : Hid (D.doc.save.2 = q) := hq
    clear hq
    have hV5 : ∀ x ∈ deskFp b fx5 fd ft ff, x ∈ deskFp b fx fd ft ff ∨ w3.heap.size ≤ x := fun x hx => by
      simp only [deskFp, List.mem_cons, List.mem_append] at hx ⊢
      rcases hx with rfl | hx | hx | hx | hx
      · exact .inl (.inl rfl)
      · rcases hx5 x hx with hx | hx
        · exact .inl (.inr (.inl hx))
        · exact .inr hx
      · exact .inl (.inr (.inr (.inl hx)))
      · exact .inl (.inr (.inr (.inr (.inl hx))))
      · exact .inl (.inr (.inr (.inr (.inr hx))))
    have hkT : Kept (fun x => x ∈ deskFp b fx fd ft ff) w3 w5 := hT.kept.mono (fun x hx _ => by have hx : x ∈ fx := hx; show x ∈ deskFp b fx fd ft ff; simp [hx])
    have hs35 := hT.kept.size
    have hVlt : V < w3.heap.size := lt_of_heap hn3
    have hVn : ¬ V ∈ deskFp b fx5 fd ft ff := fun hx => by
      rcases hV5 V hx with hx | hx
      · have := hM2.lt V hx; omega
      · omega
    have hbf : b ∉ ff := hM5.ap.1.2.2.2
    have hF3 : ∀ W, Kept (fun x => x ∈ ff) w5 W → W.cell? ⟨b, 3, none⟩ = some vf := fun W hW => hW.read (by rw [(cells_of hM5.cells).1]; rfl) hbf
    have hN4 : ∀ W, Kept (fun x => x ∈ ff) w5 W → W.cell? ⟨b, 4, none⟩ = some (sv D.doc.text) := fun W hW => hW.read (by rw [(cells_of hM5.cells).1]; rfl) hbf
    go_wp2_with fail
    refine wp_region3 (fun W => Kept (fun x => x ∈ ff) w5 W) [(0, true), (1, true), (2, true), (3, true), (4, false), (5, true), (6, true), (7, true), (8, false)] [9, 10, 11, 12, 13] (by kernel_rfl) (by kernel_rfl) (fun _ _ d _ _ h => by cases d <;> exact h) ((Kept.refl _ _).drew) ?_
    repeat ((first | refine wpPre3_pure rfl rfl (fun W => (by go_simp; rfl)) ?_ | refine wpPre3_read rfl rfl (fun W hW => (by have h1 := hF3 W hW; have h2 := hN4 W hW; go_simp; rfl)) ?_); simp only [Act.put, List.setIfInBounds_toArray, List.set])
    refine wpPre3_nil ?_
    have hk6 : Kept no w5 w5.drew := (Kept.refl _ _).drew
    have hM6 := hM5.kept hk6 (fun _ _ h => h)
    generalize w5.drew = w6 at hk6 hM6 ⊢
    refine wpTail3_cons rfl rfl (fun K hK => ?_)
    go_wp2_with fail
    refine ⟨fun hh => hh.alloc _, ?_⟩
    obtain ⟨hn7, hsz7, hk7⟩ := new1 w6 (Obj.cells #[sv D.doc.text] strT)
    have hM7 := hM6.kept hk7 (fun _ _ h => h)
    generalize hG : w6.heap.size = G at hn7 hsz7 ⊢
    generalize w6.alloc (Obj.cells #[sv D.doc.text] strT) = w7 at hn7 hsz7 hk7 hM7 ⊢
    refine wpTail3_cons rfl rfl (fun K hK => ?_)
    refine wp_push_text _ _ rfl vf D.mf ff rfl hM7.files G 1 D.doc.text rfl (by rw [(cells_of hn7).1]; rfl) (by omega) ?_
    intro vf' w8 ff' hf8 hk8 hx8 hvf
    refine hK _ _ ⟨fun hh => hh.step hk8, ?_⟩
    clear hK
    obtain ⟨pv, cv, rfl⟩ := hvf
    obtain ⟨hb8, hd8, hkk8, ht8, hap8⟩ := hM7.grewF hk8 hx8
    have hn8 := hk8.get ((hk6.step hk7).get hn5 (fun h => h)) (fun hx => hVn (by have hx : V ∈ ff := hx; simp [hx]))
    have hVb : V ≠ b := fun e => hVn (by rw [e]; simp)
    obtain ⟨hc8, hfz8⟩ := cells_of hb8
    obtain ⟨hcV8, _⟩ := cells_of hn8
    clear hcV
    refine wpTail3_last (by kernel_rfl) rfl rfl (fun K hK => ?_)
    go_wp2_with fail
    refine wpTail3_last (by kernel_rfl) rfl rfl (fun K hK => ?_)
    go_wp2_with fail
    refine wpTail3_last (by kernel_rfl) rfl rfl (fun K hK => ?_)
    go_wp2_with fail
    refine wpTail3_nil ?_
    have hks : Kept (fun x => x = b) w8 (w8.setCell ⟨b, 3, none⟩ (.slice pv (D.mf.length + 1) cv)) := Kept.cell1
    have hcs : (w8.setCell ⟨b, 3, none⟩ (.slice pv (D.mf.length + 1) cv)).heap[b]? = some (.cells (deskCells bx bd vt (.slice pv (D.mf.length + 1) cv) ⟨D.doc.text, D.doc.every, D.doc.counted, D.most⟩) deskT (0, 0)) := by
      rw [heap_set_same hb8]; simp
    have ha : b ∉ fx5 ∧ b ∉ fd ∧ b ∉ ft ∧ b ∉ ff' := by
      have := hap8
      simp [Apart, List.pairwise_cons] at this
      exact this.1
    have hTo : DeskTo w3 (w8.setCell ⟨b, 3, none⟩ (.slice pv (D.mf.length + 1) cv)) b bx bd (deskFp b fx fd ft ff) { D with doc := q, files := D.files ++ [D.doc.text], mf := D.mf ++ [D.doc.text] } := by
      have hqe := HSV.out
      have hs57 := (hk6.step hk7).size
      refine ⟨⟨deskFp b fx5 fd ft ff', ⟨vt, .slice pv (D.mf.length + 1) cv, fx5, fd, ft, ff', ?_, rfl⟩, fun x hx => ?_⟩, (((hkT.step ((hk6.step hk7).mono (fun _ h _ => h.elim))).step' hk8 (fun x hx hlt => by have hx : x ∈ ff := hx; show x ∈ deskFp b fx fd ft ff; simp [hx]))).step' hks (fun x e _ => by have e : x = b := e; show x ∈ deskFp b fx fd ft ff; simp [e])⟩
      · show DeskM _ b q D.disk D.mt (D.mf ++ [D.doc.text]) ⟨q.text, q.every, q.counted, D.most⟩ _ _ _ _ _ _ _ _
        have hnum : (⟨q.text, q.every, q.counted, D.most⟩ : Nums) = ⟨D.doc.text, D.doc.every, D.doc.counted, D.most⟩ := by rw [hqe]; rfl
        rw [hnum]
        exact ⟨hcs, hd8.kept hks (fun x hx e => ha.1 (e ▸ hx)), hkk8.kept hks (fun x hx e => ha.2.1 (e ▸ hx)), ht8.kept hks (fun x hx e => ha.2.2.1 (e ▸ hx)), hf8.kept hks (fun x hx e => ha.2.2.2 (e ▸ hx)), hap8⟩
      · simp only [deskFp, List.mem_cons, List.mem_append] at hx
        rcases hx with rfl | hx | hx | hx | hx
        · exact hV5 _ (by simp)
        · exact hV5 x (by simp [hx])
        · exact hV5 x (by simp [hx])
        · exact hV5 x (by simp [hx])
        · rcases hx8 x hx with hx | hx
          · exact hV5 x (by simp [hx])
          · exact .inr (by omega)
    have hG' : Going { D with doc := q, files := D.files ++ [D.doc.text], mf := D.mf ++ [D.doc.text] } (N + 1) L := by
      refine ⟨?_, ?_, ?_, g.mt, fun i hi => ?_⟩
      · have hdok' : D.doc.save.2.Ok := by rw [HQ.out]; exact hdok
        have := g.ok.saved hk0 (mf := D.mf ++ [D.doc.text]) (by simp) (by simp; omega) hdok'
        rw [HQ.out] at this
        exact this.mono (by omega)
      · show q.wr.known = true
        rw [HSV.out]; exact g.known
      · show D.mf ++ [D.doc.text] = D.files ++ [D.doc.text]
        rw [g.mf]
      · show topRow i q.acts (D.disk.sw.getD i []).length ≤ N + 1
        rw [HSV.out, topRow_save]
        have := (row_bounds g.ok hi).2
        omega
    have hE : q.every = D.doc.every := by rw [HSV.out]
    have HMV : Hid (MovedTo w (w8.setCell ⟨b, 3, none⟩ (.slice pv (D.mf.length + 1) cv)) b (deskFp b fx fd ft ff) D (N + 1) L) := hmv _ _ hTo hG' hE
    clear hTo hG' hE hM5 hM6 hM7 hdok hk0 hks hcs
    go_wp2
    go_ret
    exact ⟨by simp, HMV.out⟩
  · have hk0' : ¬ (D.doc.kind : Int) = 0 := by omega
    have hr : D.doc.save = (5, D.doc) := by
      unfold DocS.save
      rw [if_pos hk0]
    rw [hr] at hs
    clear hr
    go_wp2_with fail
    refine hs.mono ?_
    rintro e w5 ⟨rfl, hT⟩
    obtain ⟨fx5, hM5, hx5⟩ := hM3.doc_to hT
    have hcV5 : ∀ k, w5.cell? ⟨V, k, none⟩ = #[Value.int .i64 (D.doc.lines.length : Int), .int .i64 (D.doc.edits : Int), .int .i64 (D.doc.kind : Int)][k]? := (cells_of (hT.kept.get hn3 (fun hx => by have hx : V ∈ fx := hx; have := hM2.doc.lt V hx; omega))).1
    have hTo : DeskTo w3 w5 b bx bd (deskFp b fx fd ft ff) D := ⟨⟨_, ⟨_, _, _, _, _, _, hM5, rfl⟩, fun x hx => by
      simp only [deskFp, List.mem_cons, List.mem_append] at hx ⊢
      rcases hx with rfl | hx | hx | hx | hx
      · exact .inl (.inl rfl)
      · rcases hx5 x hx with hx | hx
        · exact .inl (.inr (.inl hx))
        · exact .inr (by omega)
      · exact .inl (.inr (.inr (.inl hx)))
      · exact .inl (.inr (.inr (.inr (.inl hx))))
      · exact .inl (.inr (.inr (.inr (.inr hx))))⟩, hT.kept.mono (fun x hx _ => by have hx : x ∈ fx := hx; show x ∈ deskFp b fx fd ft ff; simp [hx])⟩
    clear hM5 hcV
    go_wp2
    go_ret
    exact ⟨by simp [hk0], hmv _ _ hTo (g.mono (by omega)) rfl⟩
end Go.Proofs.YtdpfohgkikjeaaaGreat
/- move: some acts. -/
namespace Go.Proofs.YtdpfohgkikjeaaaGreat
open Go.RowKit
set_option linter.unusedVariables false
set_option linter.unusedSimpArgs false

set_option maxRecDepth 100000 in
set_option maxHeartbeats 8000000 in
theorem move_acts {w b bx bd D fp N L B} (h : DeskR w b bx bd D fp) (g : Going D N L) (hN : N + 600 ≤ 8000000000000) (hL : L ≤ 1000000000000) (kind n : Int) (v : Value) (raw : List Int) (hraw : IntsAt w B v raw) (hBw : ∀ x ∈ fp, B ≤ x) (hkind : RawOk kind) (hn : RawOk n) (hK : pickN kind 8 = 5) :
    Calls Tryz.prog 31 #[.pointer (some ⟨b, 0, none⟩), .agg #[.int .i64 kind, .int .i64 n, v]] w fun e w' => e = .returned (.bool true) ∧ MovedTo w w' b fp D (N + 1) L := by
  obtain ⟨vt, vf, fx, fd, ft, ff, hM, rfl⟩ := h
  have hb0 : b < w.heap.size := lt_of_heap hM.cells
  obtain ⟨hc0, _⟩ := cells_of hM.cells
  go_enter Tryz.func31, Tryz.ntmps31
  go_wp2_with fail
  obtain ⟨hn1, hsz1, hk1⟩ := new1 w (Obj.cells #[.int .i64 kind, .int .i64 n, v] 40)
  have hM1 := hM.kept hk1 (fun _ _ h => h)
  generalize hA : w.heap.size = A at hn1 hsz1 ⊢
  generalize w.alloc (Obj.cells #[.int .i64 kind, .int .i64 n, v] 40) = w1 at hn1 hsz1 hk1 hM1 ⊢
  refine (look_doc hM1.doc).mono ?_
  rintro e w2 ⟨rfl, hk2⟩
  have hM2 := hM1.kept hk2 (fun _ _ h => h)
  have hn2 := hk2.get hn1 (fun h => h)
  obtain ⟨hca2, _⟩ := cells_of hn2
  have hA2 : A < w2.heap.size := lt_of_heap hn2
  go_wp2_with fail
  obtain ⟨hn3, hsz3, hk3⟩ := new1 w2 (Obj.cells #[.int .i64 (D.doc.lines.length : Int), .int .i64 (D.doc.edits : Int), .int .i64 (D.doc.kind : Int)] viewT)
  have hM3 := hM2.kept hk3 (fun _ _ h => h)
  have ha3 := hk3.get hn2 (fun h => h)
  generalize hV : w2.heap.size = V at hn3 hsz3 hA2 ⊢
  generalize w2.alloc (Obj.cells #[.int .i64 (D.doc.lines.length : Int), .int .i64 (D.doc.edits : Int), .int .i64 (D.doc.kind : Int)] viewT) = w3 at hn3 hsz3 hk3 hM3 ha3 ⊢
  refine (pick_keep kind 8 8 rfl hkind (by decide) (by decide) w3).mono ?_
  rintro e w4 ⟨rfl, hw⟩
  rw [hw, hK]
  clear hw hc0 hca2
  have hkw : Kept no w w3 := (hk1.step hk2).step hk3
  have hraw3 := hraw.kept hkw (fun _ h => h.elim)
  have hR3 : DeskR w3 b bx bd D (deskFp b fx fd ft ff) := ⟨_, _, _, _, _, _, hM3, rfl⟩
  have hmv : ∀ w' D', DeskTo w3 w' b bx bd (deskFp b fx fd ft ff) D' → Going D' (N + 1) L → D'.doc.every = D.doc.every → MovedTo w w' b (deskFp b fx fd ft ff) D (N + 1) L := fun w' D' ⟨⟨fp', hr, hx⟩, hk⟩ g' he =>
    ⟨bx, bd, fp', D', hr, g', he, fun x hx' => by
      rcases hx x hx' with h | h
      · exact .inl h
      · have := hkw.size; exact .inr (by omega), (hkw.mono (fun _ h _ => h.elim)).step hk⟩
  obtain ⟨hcA, _⟩ := cells_of ha3
  obtain ⟨hcV, _⟩ := cells_of hn3
  obtain ⟨hcB, _⟩ := cells_of hM3.cells
  have hf := hraw.fits
  have hgo : ∀ i, RawOk (raw.getD i 0) := fun i => by
    rw [List.getD_eq_getElem?_getD]
    cases hx : raw[i]? with
    | none => exact ⟨by decide, by decide⟩
    | some x => exact hf x (List.mem_of_getElem? hx)
  have hvn : ∀ W, Kept no w3 W → W.cell? ⟨A, 1, none⟩ = some (.int .i64 n) := fun W hW => hW.read (by rw [hcA]; rfl) (fun h => h)
  have hv : ∀ W, Kept no w3 W → W.cell? ⟨A, 2, none⟩ = some v := fun W hW => hW.read (by rw [hcA]; rfl) (fun h => h)
  have h40 := pickN_lt n (n := 40) (by decide)
  have h2 := pickN_lt (raw.getD 1 0) (n := 2) (by decide)
  have hcase : (∃ pv cv, v = .slice pv 0 cv) ∨ ∃ rb ro m rc x0, v = .slice (some ⟨rb, ro, none⟩) (m + 1) rc ∧ RawOk x0 ∧ w3.cell? ⟨rb, ro, none⟩ = some (.int .i64 x0) ∧ m + 1 ≤ 9223372036854775807 := by
    rcases hraw3.at_ with ⟨a, c, e, _⟩ | ⟨rb, ro, c, e, _, hc⟩
    · exact .inl ⟨a, c, e⟩
    · match raw, e, hc, hraw.fits, hraw.few with
      | [], e, _, _, _ => exact .inl ⟨_, _, e⟩
      | x0 :: l, e, hc, hx, hfw => exact .inr ⟨rb, ro, l.length, c, x0, e, hx x0 (by simp), hc 0 x0 rfl, by have h := hfw; simp only [List.length_cons] at h; omega⟩
  rcases hcase with ⟨pv, cv, rfl⟩ | ⟨rb, ro, m, rc, x0, rfl, hx0, hc0, hm⟩
  · go_wp2_with fail
    refine wp_region3 (fun W => Kept no w3 W) [(0, true), (1, true), (2, false), (4, true), (5, true), (6, false)] [3, 7, 8, 9, 10] (by kernel_rfl) (by kernel_rfl) (fun _ _ d _ _ h => by cases d <;> exact h) ((Kept.refl _ _).drew) ?_
    repeat ((first | refine wpPre3_pure rfl rfl (fun W => (by go_simp; rfl)) ?_ | refine wpPre3_read rfl rfl (fun W hW => (by have h1 := hv W hW; have h2 := hvn W hW; go_simp; rfl)) ?_); simp only [Act.put, List.setIfInBounds_toArray, List.set])
    refine wpPre3_nil ?_
    have hk4 : Kept no w3 w3.drew := (Kept.refl _ _).drew
    have hraw4 := hraw3.kept hk4 (fun _ h => h.elim)
    have hR4 := hR3.kept hk4 (fun _ _ h => h)
    generalize w3.drew = w4 at hk4 hraw4 hR4 ⊢
    refine wpTail3_cons rfl rfl (fun K hK => ?_)
    go_wp2_with fail
    refine (pick_keep n 40 40 rfl hn (by decide) (by decide) w4).mono ?_
    rintro e w5 ⟨rfl, hw⟩
    rw [hw]
    clear hw
    refine hK _ _ ⟨fun h => h, ?_⟩
    clear hK
    refine wpTail3_cons rfl rfl (fun K hK => ?_)
    go_wp2_with fail
    refine (number_any hraw4 1 1 rfl (by decide)).mono ?_
    rintro e w5 ⟨rfl, hw⟩
    rw [hw]
    clear hw
    refine hK _ _ ⟨fun h => h, ?_⟩
    clear hK
    refine wpTail3_cons rfl rfl (fun K hK => ?_)
    go_wp2_with fail
    refine (pick_keep (raw.getD 1 0) 2 2 rfl (hgo 1) (by decide) (by decide) w4).mono ?_
    rintro e w5 ⟨rfl, hw⟩
    rw [hw]
    clear hw
    refine hK _ _ ⟨fun h => h, ?_⟩
    clear hK
    refine wpTail3_last (by kernel_rfl) rfl rfl (fun K hK => ?_)
    go_wp2_with fail
    refine (work_any hR4 g.ok (pickN n 40) (pickN n 40 : Nat) (-1) (pickN (raw.getD 1 0) 2 : Nat) (pickN (raw.getD 1 0) 2) rfl rfl (by omega) (by omega) (by omega) (by omega) (by omega) (by omega)).mono ?_
    rintro e w5 ⟨rfl, hT⟩
    refine hK _ _ ?_
    clear hK
    refine wpTail3_last (by kernel_rfl) rfl rfl (fun K hK => ?_)
    go_wp2_with fail
    refine wpTail3_nil ?_
    go_wp2
    go_ret
    refine ⟨by simp, hmv _ _ (?_ : DeskTo w3 w5 b bx bd (deskFp b fx fd ft ff) (D.work (pickN n 40) 0 (-1) (decide (pickN (raw.getD 1 0) 2 % 2 ≠ 0)))) ((g.work _ _ _).mono (by omega)) (work_same _ _ _ 0 D).2.1⟩
    obtain ⟨fp', hr, hx⟩ := hT.ex
    exact ⟨⟨fp', hr, fun x hx' => (hx x hx').imp id (fun h => by have := hk4.size; omega)⟩, (hk4.mono (fun _ h _ => h.elim)).step hT.kept⟩
  · have hp := pickN_lt x0 (n := 20) (by decide)
    go_wp2_with fail
    refine (pick_keep x0 20 20 rfl hx0 (by decide) (by decide) w3).mono ?_
    rintro e w4 ⟨rfl, hw⟩
    rw [hw]
    clear hw hc0
    go_wp2_with fail
    refine wp_region3 (fun W => Kept no w3 W) [(0, true), (1, true), (2, false), (4, true), (5, true), (6, false)] [3, 7, 8, 9, 10] (by kernel_rfl) (by kernel_rfl) (fun _ _ d _ _ h => by cases d <;> exact h) ((Kept.refl _ _).drew) ?_
    repeat ((first | refine wpPre3_pure rfl rfl (fun W => (by go_simp; rfl)) ?_ | refine wpPre3_read rfl rfl (fun W hW => (by have h1 := hv W hW; have h2 := hvn W hW; go_simp; rfl)) ?_); simp only [Act.put, List.setIfInBounds_toArray, List.set])
    refine wpPre3_nil ?_
    have hk4 : Kept no w3 w3.drew := (Kept.refl _ _).drew
    have hraw4 := hraw3.kept hk4 (fun _ h => h.elim)
    have hR4 := hR3.kept hk4 (fun _ _ h => h)
    generalize w3.drew = w4 at hk4 hraw4 hR4 ⊢
    refine wpTail3_cons rfl rfl (fun K hK => ?_)
    go_wp2_with fail
    refine (pick_keep n 40 40 rfl hn (by decide) (by decide) w4).mono ?_
    rintro e w5 ⟨rfl, hw⟩
    rw [hw]
    clear hw
    refine hK _ _ ⟨fun h => h, ?_⟩
    clear hK
    refine wpTail3_cons rfl rfl (fun K hK => ?_)
    go_wp2_with fail
    refine (number_any hraw4 1 1 rfl (by decide)).mono ?_
    rintro e w5 ⟨rfl, hw⟩
    rw [hw]
    clear hw
    refine hK _ _ ⟨fun h => h, ?_⟩
    clear hK
    refine wpTail3_cons rfl rfl (fun K hK => ?_)
    go_wp2_with fail
    refine (pick_keep (raw.getD 1 0) 2 2 rfl (hgo 1) (by decide) (by decide) w4).mono ?_
    rintro e w5 ⟨rfl, hw⟩
    rw [hw]
    clear hw
    refine hK _ _ ⟨fun h => h, ?_⟩
    clear hK
    refine wpTail3_last (by kernel_rfl) rfl rfl (fun K hK => ?_)
    go_wp2_with fail
    refine (work_any hR4 g.ok (pickN n 40) (pickN n 40 : Nat) (pickN x0 20 : Nat) (pickN (raw.getD 1 0) 2 : Nat) (pickN (raw.getD 1 0) 2) rfl rfl (by omega) (by omega) (by omega) (by omega) (by omega) (by omega)).mono ?_
    rintro e w5 ⟨rfl, hT⟩
    refine hK _ _ ?_
    clear hK
    refine wpTail3_last (by kernel_rfl) rfl rfl (fun K hK => ?_)
    go_wp2_with fail
    refine wpTail3_nil ?_
    go_wp2
    go_ret
    refine ⟨by simp, hmv _ _ (?_ : DeskTo w3 w5 b bx bd (deskFp b fx fd ft ff) (D.work (pickN n 40) 0 (pickN x0 20 : Nat) (decide (pickN (raw.getD 1 0) 2 % 2 ≠ 0)))) ((g.work _ _ _).mono (by omega)) (work_same _ _ _ 0 D).2.1⟩
    obtain ⟨fp', hr, hx⟩ := hT.ex
    exact ⟨⟨fp', hr, fun x hx' => (hx x hx').imp id (fun h => by have := hk4.size; omega)⟩, (hk4.mono (fun _ h _ => h.elim)).step hT.kept⟩
end Go.Proofs.YtdpfohgkikjeaaaGreat
/- move: any. -/
namespace Go.Proofs.YtdpfohgkikjeaaaGreat
open Go.RowKit
set_option linter.unusedVariables false
set_option linter.unusedSimpArgs false

theorem move_any {w b bx bd D fp N L B} (h : DeskR w b bx bd D fp) (g : Going D N L) (hN : N + 600 ≤ 8000000000000) (hL : L ≤ 1000000000000) (kind n : Int) (v : Value) (raw : List Int) (hraw : IntsAt w B v raw) (hBw : ∀ x ∈ fp, B ≤ x) (hkind : RawOk kind) (hn : RawOk n) :
    Calls Tryz.prog 31 #[.pointer (some ⟨b, 0, none⟩), .agg #[.int .i64 kind, .int .i64 n, v]] w fun e w' => e = .returned (.bool true) ∧ MovedTo w w' b fp D (N + 1) L := by
  have h8 := pickN_lt kind (n := 8) (by decide)
  rcases (by omega : pickN kind 8 = 0 ∨ pickN kind 8 = 1 ∨ pickN kind 8 = 2 ∨ pickN kind 8 = 3 ∨ pickN kind 8 = 4 ∨ pickN kind 8 = 5 ∨ pickN kind 8 = 6 ∨ pickN kind 8 = 7) with hK | hK | hK | hK | hK | hK | hK | hK
  · exact move_edit0 h g hN hL kind n v raw hraw hBw hkind hn hK
  · exact move_edit1 h g hN hL kind n v raw hraw hBw hkind hn hK
  · exact move_edit2 h g hN hL kind n v raw hraw hBw hkind hn hK
  · exact move_sync h g hN hL kind n v raw hraw hBw hkind hn hK
  · exact move_save h g hN hL kind n v raw hraw hBw hkind hn hK
  · exact move_acts h g hN hL kind n v raw hraw hBw hkind hn hK
  · exact move_work h g hN hL kind n v raw hraw hBw hkind hn hK
  · exact move_crash h g hN hL kind n v raw hraw hBw hkind hn hK
end Go.Proofs.YtdpfohgkikjeaaaGreat
