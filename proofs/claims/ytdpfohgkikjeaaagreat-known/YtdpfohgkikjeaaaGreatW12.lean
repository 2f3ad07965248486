/- Part W 12 of the proof: see its parts. -/
import Derived.ChangeSame
import Derived.ChangeSlices
import Derived.Deep.Strs
import Derived.Deep.Slices
import Derived.Test.YtdpfohgkikjeaaaGreatW11
/- move: Sync. -/
namespace Go.Proofs.YtdpfohgkikjeaaaGreat
open Go.RowKit
set_option linter.unusedVariables false
set_option linter.unusedSimpArgs false

set_option maxRecDepth 100000 in
set_option maxHeartbeats 8000000 in
theorem move_sync {w b bx bd D fp N L B} (h : DeskR w b bx bd D fp) (g : Going D N L) (hN : N + 600 ≤ 1000000000000) (hL : L ≤ 1000000000000) (kind n : Int) (v : Value) (raw : List Int) (hraw : IntsAt w B v raw) (hBw : ∀ x ∈ fp, B ≤ x) (hkind : RawOk kind) (hn : RawOk n) (hK : pickN kind 8 = 3) :
    Calls Tryz.prog 31 #[.pointer (some ⟨b, 0, none⟩), .agg #[.int .i64 kind, .int .i64 n, v]] w fun e w' => e = .returned (.bool true) ∧ MovedTo w w' b fp D (N + 600) L := by
  obtain ⟨vt, vf, fx, fd, ft, ff, hM, rfl⟩ := h
  have hb0 : b < w.heap.size := lt_of_heap hM.cells
  obtain ⟨hc0, _⟩ := cells_of hM.cells
  go_enter Tryz.func31, Tryz.ntmps31
  go_wp2_with fail
  obtain ⟨hn1, hsz1, hk1⟩ := new1 w (Obj.cells #[.int .i64 kind, .int .i64 n, v] 40)
  have hM1 := hM.kept hk1 (fun _ _ h => h)
  generalize hA : w.heap.size = A at hn1 hsz1 ⊢
  generalize w.alloc (Obj.cells #[.int .i64 kind, .int .i64 n, v] 40) = w1 at hn1 hsz1 hk1 hM1 ⊢
  refine (look_doc hM1.doc).mono ?_
  rintro e w2 ⟨rfl, hk2⟩
  have hM2 := hM1.kept hk2 (fun _ _ h => h)
  have hn2 := hk2.get hn1 (fun h => h)
  obtain ⟨hca2, _⟩ := cells_of hn2
  have hA2 : A < w2.heap.size := lt_of_heap hn2
  go_wp2_with fail
  obtain ⟨hn3, hsz3, hk3⟩ := new1 w2 (Obj.cells #[.int .i64 (D.doc.lines.length : Int), .int .i64 (D.doc.edits : Int), .int .i64 (D.doc.kind : Int)] viewT)
  have hM3 := hM2.kept hk3 (fun _ _ h => h)
  have ha3 := hk3.get hn2 (fun h => h)
  generalize hV : w2.heap.size = V at hn3 hsz3 hA2 ⊢
  generalize w2.alloc (Obj.cells #[.int .i64 (D.doc.lines.length : Int), .int .i64 (D.doc.edits : Int), .int .i64 (D.doc.kind : Int)] viewT) = w3 at hn3 hsz3 hk3 hM3 ha3 ⊢
  refine (pick_keep kind 8 8 rfl hkind (by decide) (by decide) w3).mono ?_
  rintro e w4 ⟨rfl, hw⟩
  rw [hw, hK]
  clear hw hc0 hca2
  have hkw : Kept no w w3 := (hk1.step hk2).step hk3
  have hraw3 := hraw.kept hkw (fun _ h => h.elim)
  have hR3 : DeskR w3 b bx bd D (deskFp b fx fd ft ff) := ⟨_, _, _, _, _, _, hM3, rfl⟩
  have hmv : ∀ w' D', DeskTo w3 w' b bx bd (deskFp b fx fd ft ff) D' → Going D' (N + 600) L → D'.doc.every = D.doc.every → MovedTo w w' b (deskFp b fx fd ft ff) D (N + 600) L := fun w' D' ⟨⟨fp', hr, hx⟩, hk⟩ g' he =>
    ⟨bx, bd, fp', D', hr, g', he, fun x hx' => by
      rcases hx x hx' with h | h
      · exact .inl h
      · have := hkw.size; exact .inr (by omega), (hkw.mono (fun _ h _ => h.elim)).step hk⟩
  obtain ⟨hcA, _⟩ := cells_of ha3
  obtain ⟨hcV, _⟩ := cells_of hn3
  obtain ⟨hcB, _⟩ := cells_of hM3.cells
  have hs := sync_d hM3.doc
  by_cases hk0 : D.doc.kind = 0
  · have hk0' : (D.doc.kind : Int) = 0 := by omega
    by_cases he : D.doc.edits = 0
    · have he' : (D.doc.edits : Int) = 0 := by omega
      have hr : D.doc.sync = (6, D.doc) := by
        unfold DocS.sync
        rw [if_neg (by omega), if_pos ⟨he, g.known⟩]
      rw [hr] at hs
      clear hr he hk0
      go_wp2_with fail
      refine hs.mono ?_
      rintro e w5 ⟨rfl, hT⟩
      obtain ⟨fx5, hM5, hx5⟩ := hM3.doc_to hT
      have hcV5 : ∀ k, w5.cell? ⟨V, k, none⟩ = #[Value.int .i64 (D.doc.lines.length : Int), .int .i64 (D.doc.edits : Int), .int .i64 (D.doc.kind : Int)][k]? := (cells_of (hT.kept.get hn3 (fun hx => by have hx : V ∈ fx := hx; have := hM2.doc.lt V hx; omega))).1
      have hTo : DeskTo w3 w5 b bx bd (deskFp b fx fd ft ff) D := ⟨⟨_, ⟨_, _, _, _, _, _, hM5, rfl⟩, fun x hx => by
        simp only [deskFp, List.mem_cons, List.mem_append] at hx ⊢
        rcases hx with rfl | hx | hx | hx | hx
        · exact .inl (.inl rfl)
        · rcases hx5 x hx with hx | hx
          · exact .inl (.inr (.inl hx))
          · exact .inr (by omega)
        · exact .inl (.inr (.inr (.inl hx)))
        · exact .inl (.inr (.inr (.inr (.inl hx))))
        · exact .inl (.inr (.inr (.inr (.inr hx))))⟩, hT.kept.mono (fun x hx _ => by have hx : x ∈ fx := hx; show x ∈ deskFp b fx fd ft ff; simp [hx])⟩
      clear hM5 hcV
      go_wp2
      go_ret
      exact ⟨by simp, hmv _ _ hTo (g.mono (by omega)) rfl⟩
    · have hr : D.doc.sync = (0, D.doc.beginSync) := by
        unfold DocS.sync
        rw [if_neg (by omega), if_neg (fun hh => he hh.1)]
      rw [hr] at hs
      clear hr
      have htl : D.mt.length ≤ 1000000000000 := by have := g.ok.mtN; omega
      go_wp2_with fail
      refine hs.mono ?_
      rintro e w5 ⟨rfl, hT⟩
      obtain ⟨fx5, hM5, hx5⟩ := hM3.doc_to hT
      have hn5 := hT.kept.get hn3 (fun hx => by have hx : V ∈ fx := hx; have := hM2.doc.lt V hx; omega)
      have hdok := hM5.doc.ok
      have hV5 : ∀ x ∈ deskFp b fx5 fd ft ff, x ∈ deskFp b fx fd ft ff ∨ w3.heap.size ≤ x := fun x hx => by
        simp only [deskFp, List.mem_cons, List.mem_append] at hx ⊢
        rcases hx with rfl | hx | hx | hx | hx
        · exact .inl (.inl rfl)
        · rcases hx5 x hx with hx | hx
          · exact .inl (.inr (.inl hx))
          · exact .inr hx
        · exact .inl (.inr (.inr (.inl hx)))
        · exact .inl (.inr (.inr (.inr (.inl hx))))
        · exact .inl (.inr (.inr (.inr (.inr hx))))
      go_wp2_with fail
      refine (begun_yes hM5 rfl htl).mono ?_
      rintro e w6 ⟨rfl, vt', ft', hM6, hx6, hk6⟩
      have hs35 := hT.kept.size
      have hVlt : V < w3.heap.size := lt_of_heap hn3
      have hVn : ¬ V ∈ deskFp b fx5 fd ft ff := fun hx => by
        rcases hV5 V hx with hx | hx
        · have := hM2.lt V hx; omega
        · omega
      have hcV6 : ∀ k, w6.cell? ⟨V, k, none⟩ = #[Value.int .i64 (D.doc.lines.length : Int), .int .i64 (D.doc.edits : Int), .int .i64 (D.doc.kind : Int)][k]? := (cells_of (hk6.get hn5 hVn)).1
      have hTo : DeskTo w3 w6 b bx bd (deskFp b fx fd ft ff) (DeskS.begun { D with doc := D.doc.beginSync }) := by
        unfold DeskS.begun
        rw [if_pos (show D.doc.beginSync.kind = 1 from rfl)]
        refine ⟨⟨deskFp b fx5 fd ft' ff, ⟨vt', vf, fx5, fd, ft', ff, ?_, rfl⟩, fun x hx => ?_⟩, (hT.kept.mono (T := fun x => x ∈ deskFp b fx fd ft ff) (fun x hx _ => by have hx : x ∈ fx := hx; show x ∈ deskFp b fx fd ft ff; simp [hx])).step' hk6 (fun x hx hlt => (hV5 x hx).resolve_right (by omega))⟩
        · show DeskM w6 b D.doc.beginSync D.disk (D.mt ++ [D.doc.beginSync.text]) D.mf _ _ _ _ _ _ _ _ _
          exact hM6
        · simp only [deskFp, List.mem_cons, List.mem_append] at hx
          rcases hx with rfl | hx | hx | hx | hx
          · exact hV5 _ (by simp)
          · exact hV5 x (by simp [hx])
          · exact hV5 x (by simp [hx])
          · rcases hx6 x hx with hx | hx
            · exact hV5 x (by simp [hx])
            · exact .inr (by omega)
          · exact hV5 x (by simp [hx])
      have hG : Going (DeskS.begun { D with doc := D.doc.beginSync }) (N + 600) L := ⟨(g.ok.synced hk0 hdok).mono (by omega), by
        unfold DeskS.begun
        rw [if_pos (show D.doc.beginSync.kind = 1 from rfl)]
        exact g.known, by
        unfold DeskS.begun
        rw [if_pos (show D.doc.beginSync.kind = 1 from rfl)]
        exact g.mf, by
        unfold DeskS.begun
        rw [if_pos (show D.doc.beginSync.kind = 1 from rfl)]
        show D.mt ++ [D.doc.beginSync.text] = (D.ch ++ [(D.doc.beginSync.text, D.doc.beginSync.file)]).map (·.1)
        rw [List.map_append, g.mt]
        rfl⟩
      have hE : (DeskS.begun { D with doc := D.doc.beginSync }).doc.every = D.doc.every := by
        unfold DeskS.begun
        rw [if_pos (show D.doc.beginSync.kind = 1 from rfl)]
        rfl
      clear hM5 hM6 hcV hk0
      go_wp2
      go_ret
      exact ⟨by simp, hmv _ _ hTo hG hE⟩
  · have hk0' : ¬ (D.doc.kind : Int) = 0 := by omega
    have hr : D.doc.sync = (5, D.doc) := by
      unfold DocS.sync
      rw [if_pos hk0]
    rw [hr] at hs
    clear hr
    go_wp2_with fail
    refine hs.mono ?_
    rintro e w5 ⟨rfl, hT⟩
    obtain ⟨fx5, hM5, hx5⟩ := hM3.doc_to hT
    have hcV5 : ∀ k, w5.cell? ⟨V, k, none⟩ = #[Value.int .i64 (D.doc.lines.length : Int), .int .i64 (D.doc.edits : Int), .int .i64 (D.doc.kind : Int)][k]? := (cells_of (hT.kept.get hn3 (fun hx => by have hx : V ∈ fx := hx; have := hM2.doc.lt V hx; omega))).1
    have hTo : DeskTo w3 w5 b bx bd (deskFp b fx fd ft ff) D := ⟨⟨_, ⟨_, _, _, _, _, _, hM5, rfl⟩, fun x hx => by
      simp only [deskFp, List.mem_cons, List.mem_append] at hx ⊢
      rcases hx with rfl | hx | hx | hx | hx
      · exact .inl (.inl rfl)
      · rcases hx5 x hx with hx | hx
        · exact .inl (.inr (.inl hx))
        · exact .inr (by omega)
      · exact .inl (.inr (.inr (.inl hx)))
      · exact .inl (.inr (.inr (.inr (.inl hx))))
      · exact .inl (.inr (.inr (.inr (.inr hx))))⟩, hT.kept.mono (fun x hx _ => by have hx : x ∈ fx := hx; show x ∈ deskFp b fx fd ft ff; simp [hx])⟩
    clear hM5 hcV
    go_wp2
    go_ret
    exact ⟨by simp [hk0], hmv _ _ hTo (g.mono (by omega)) rfl⟩
end Go.Proofs.YtdpfohgkikjeaaaGreat
/- move: Save. -/
namespace Go.Proofs.YtdpfohgkikjeaaaGreat
open Go.RowKit
set_option linter.unusedVariables false
set_option linter.unusedSimpArgs false

set_option maxRecDepth 100000 in
set_option maxHeartbeats 8000000 in
theorem move_save {w b bx bd D fp N L B} (h : DeskR w b bx bd D fp) (g : Going D N L) (hN : N + 600 ≤ 1000000000000) (hL : L ≤ 1000000000000) (kind n : Int) (v : Value) (raw : List Int) (hraw : IntsAt w B v raw) (hBw : ∀ x ∈ fp, B ≤ x) (hkind : RawOk kind) (hn : RawOk n) (hK : pickN kind 8 = 4) :
    Calls Tryz.prog 31 #[.pointer (some ⟨b, 0, none⟩), .agg #[.int .i64 kind, .int .i64 n, v]] w fun e w' => e = .returned (.bool true) ∧ MovedTo w w' b fp D (N + 600) L := by
  obtain ⟨vt, vf, fx, fd, ft, ff, hM, rfl⟩ := h
  have hb0 : b < w.heap.size := lt_of_heap hM.cells
  obtain ⟨hc0, _⟩ := cells_of hM.cells
  go_enter Tryz.func31, Tryz.ntmps31
  go_wp2_with fail
  obtain ⟨hn1, hsz1, hk1⟩ := new1 w (Obj.cells #[.int .i64 kind, .int .i64 n, v] 40)
  have hM1 := hM.kept hk1 (fun _ _ h => h)
  generalize hA : w.heap.size = A at hn1 hsz1 ⊢
  generalize w.alloc (Obj.cells #[.int .i64 kind, .int .i64 n, v] 40) = w1 at hn1 hsz1 hk1 hM1 ⊢
  refine (look_doc hM1.doc).mono ?_
  rintro e w2 ⟨rfl, hk2⟩
  have hM2 := hM1.kept hk2 (fun _ _ h => h)
  have hn2 := hk2.get hn1 (fun h => h)
  obtain ⟨hca2, _⟩ := cells_of hn2
  have hA2 : A < w2.heap.size := lt_of_heap hn2
  go_wp2_with fail
  obtain ⟨hn3, hsz3, hk3⟩ := new1 w2 (Obj.cells #[.int .i64 (D.doc.lines.length : Int), .int .i64 (D.doc.edits : Int), .int .i64 (D.doc.kind : Int)] viewT)
  have hM3 := hM2.kept hk3 (fun _ _ h => h)
  have ha3 := hk3.get hn2 (fun h => h)
  generalize hV : w2.heap.size = V at hn3 hsz3 hA2 ⊢
  generalize w2.alloc (Obj.cells #[.int .i64 (D.doc.lines.length : Int), .int .i64 (D.doc.edits : Int), .int .i64 (D.doc.kind : Int)] viewT) = w3 at hn3 hsz3 hk3 hM3 ha3 ⊢
  refine (pick_keep kind 8 8 rfl hkind (by decide) (by decide) w3).mono ?_
  rintro e w4 ⟨rfl, hw⟩
  rw [hw, hK]
  clear hw hc0 hca2
  have hkw : Kept no w w3 := (hk1.step hk2).step hk3
  have hraw3 := hraw.kept hkw (fun _ h => h.elim)
  have hR3 : DeskR w3 b bx bd D (deskFp b fx fd ft ff) := ⟨_, _, _, _, _, _, hM3, rfl⟩
  have hmv : ∀ w' D', DeskTo w3 w' b bx bd (deskFp b fx fd ft ff) D' → Going D' (N + 600) L → D'.doc.every = D.doc.every → MovedTo w w' b (deskFp b fx fd ft ff) D (N + 600) L := fun w' D' ⟨⟨fp', hr, hx⟩, hk⟩ g' he =>
    ⟨bx, bd, fp', D', hr, g', he, fun x hx' => by
      rcases hx x hx' with h | h
      · exact .inl h
      · have := hkw.size; exact .inr (by omega), (hkw.mono (fun _ h _ => h.elim)).step hk⟩
  obtain ⟨hcA, _⟩ := cells_of ha3
  obtain ⟨hcV, _⟩ := cells_of hn3
  obtain ⟨hcB, _⟩ := cells_of hM3.cells
  have hs := save_any hM3.doc
  by_cases hk0 : D.doc.kind = 0
  · have hk0' : (D.doc.kind : Int) = 0 := by omega
    have hsv : D.doc.save = (0, { D.doc with kind := 2, acts := saveActs D.doc.text }) := by
      unfold DocS.save
      rw [if_neg (by omega)]
    have hsv2 : D.doc.save.2 = { D.doc with kind := 2, acts := saveActs D.doc.text } := by rw [hsv]
    have HSV : Hid (D.doc.save.2 = { D.doc with kind := 2, acts := saveActs D.doc.text }) := hsv2
    have hs1 : D.doc.save.1 = 0 := by rw [hsv]
    rw [hs1] at hs
    clear hsv hsv2 hs1
    have hml := g.ok.mfN
    go_wp2_with fail
    refine hs.mono ?_
    rintro e w5 ⟨rfl, hT⟩
    obtain ⟨fx5, hM5, hx5⟩ := hM3.doc_to hT
    have hn5 := hT.kept.get hn3 (fun hx => by have hx : V ∈ fx := hx; have := hM2.doc.lt V hx; omega)
    have hdok := hM5.doc.ok
    generalize hq : D.doc.save.2 = q at *
    have HQ : Hid (D.doc.save.2 = q) := hq
    clear hq
    have hV5 : ∀ x ∈ deskFp b fx5 fd ft ff, x ∈ deskFp b fx fd ft ff ∨ w3.heap.size ≤ x := fun x hx => by
      simp only [deskFp, List.mem_cons, List.mem_append] at hx ⊢
      rcases hx with rfl | hx | hx | hx | hx
      · exact .inl (.inl rfl)
      · rcases hx5 x hx with hx | hx
        · exact .inl (.inr (.inl hx))
        · exact .inr hx
      · exact .inl (.inr (.inr (.inl hx)))
      · exact .inl (.inr (.inr (.inr (.inl hx))))
      · exact .inl (.inr (.inr (.inr (.inr hx))))
    have hkT : Kept (fun x => x ∈ deskFp b fx fd ft ff) w3 w5 := hT.kept.mono (fun x hx _ => by have hx : x ∈ fx := hx; show x ∈ deskFp b fx fd ft ff; simp [hx])
    have hs35 := hT.kept.size
    have hVlt : V < w3.heap.size := lt_of_heap hn3
    have hVn : ¬ V ∈ deskFp b fx5 fd ft ff := fun hx => by
      rcases hV5 V hx with hx | hx
      · have := hM2.lt V hx; omega
      · omega
    have hbf : b ∉ ff := hM5.ap.1.2.2.2
    have hF3 : ∀ W, Kept (fun x => x ∈ ff) w5 W → W.cell? ⟨b, 3, none⟩ = some vf := fun W hW => hW.read (by rw [(cells_of hM5.cells).1]; rfl) hbf
    have hN4 : ∀ W, Kept (fun x => x ∈ ff) w5 W → W.cell? ⟨b, 4, none⟩ = some (sv D.doc.text) := fun W hW => hW.read (by rw [(cells_of hM5.cells).1]; rfl) hbf
    go_wp2_with fail
    refine wp_region3 (fun W => Kept (fun x => x ∈ ff) w5 W) [(0, true), (1, true), (2, true), (3, true), (4, false), (5, true), (6, true), (7, true), (8, false)] [9, 10, 11, 12, 13] (by kernel_rfl) (by kernel_rfl) (fun _ _ d _ _ h => by cases d <;> exact h) ((Kept.refl _ _).drew) ?_
    repeat ((first | refine wpPre3_pure rfl rfl (fun W => (by go_simp; rfl)) ?_ | refine wpPre3_read rfl rfl (fun W hW => (by have h1 := hF3 W hW; have h2 := hN4 W hW; go_simp; rfl)) ?_); simp only [Act.put, List.setIfInBounds_toArray, List.set])
    refine wpPre3_nil ?_
    have hk6 : Kept no w5 w5.drew := (Kept.refl _ _).drew
    have hM6 := hM5.kept hk6 (fun _ _ h => h)
    generalize w5.drew = w6 at hk6 hM6 ⊢
    refine wpTail3_cons rfl rfl (fun K hK => ?_)
    go_wp2_with fail
    refine ⟨fun hh => hh.alloc _, ?_⟩
    obtain ⟨hn7, hsz7, hk7⟩ := new1 w6 (Obj.cells #[sv D.doc.text] strT)
    have hM7 := hM6.kept hk7 (fun _ _ h => h)
    generalize hG : w6.heap.size = G at hn7 hsz7 ⊢
    generalize w6.alloc (Obj.cells #[sv D.doc.text] strT) = w7 at hn7 hsz7 hk7 hM7 ⊢
    refine wpTail3_cons rfl rfl (fun K hK => ?_)
    refine wp_push_text _ _ rfl vf D.mf ff rfl hM7.files G 1 D.doc.text rfl (by rw [(cells_of hn7).1]; rfl) (by omega) ?_
    intro vf' w8 ff' hf8 hk8 hx8 hvf
    refine hK _ _ ⟨fun hh => hh.step hk8, ?_⟩
    clear hK
    obtain ⟨pv, cv, rfl⟩ := hvf
    obtain ⟨hb8, hd8, hkk8, ht8, hap8⟩ := hM7.grewF hk8 hx8
    have hn8 := hk8.get ((hk6.step hk7).get hn5 (fun h => h)) (fun hx => hVn (by have hx : V ∈ ff := hx; simp [hx]))
    have hVb : V ≠ b := fun e => hVn (by rw [e]; simp)
    obtain ⟨hc8, hfz8⟩ := cells_of hb8
    obtain ⟨hcV8, _⟩ := cells_of hn8
    clear hcV
    refine wpTail3_last (by kernel_rfl) rfl rfl (fun K hK => ?_)
    go_wp2_with fail
    refine wpTail3_last (by kernel_rfl) rfl rfl (fun K hK => ?_)
    go_wp2_with fail
    refine wpTail3_last (by kernel_rfl) rfl rfl (fun K hK => ?_)
    go_wp2_with fail
    refine wpTail3_nil ?_
    have hks : Kept (fun x => x = b) w8 (w8.setCell ⟨b, 3, none⟩ (.slice pv (D.mf.length + 1) cv)) := Kept.cell1
    have hcs : (w8.setCell ⟨b, 3, none⟩ (.slice pv (D.mf.length + 1) cv)).heap[b]? = some (.cells (deskCells bx bd vt (.slice pv (D.mf.length + 1) cv) ⟨D.doc.text, D.doc.every, D.doc.counted, D.most⟩) deskT (0, 0)) := by
      rw [heap_set_same hb8]; simp
    have ha : b ∉ fx5 ∧ b ∉ fd ∧ b ∉ ft ∧ b ∉ ff' := by
      have := hap8
      simp [Apart, List.pairwise_cons] at this
      exact this.1
    have hTo : DeskTo w3 (w8.setCell ⟨b, 3, none⟩ (.slice pv (D.mf.length + 1) cv)) b bx bd (deskFp b fx fd ft ff) { D with doc := q, files := D.files ++ [D.doc.text], mf := D.mf ++ [D.doc.text] } := by
      have hqe := HSV.out
      have hs57 := (hk6.step hk7).size
      refine ⟨⟨deskFp b fx5 fd ft ff', ⟨vt, .slice pv (D.mf.length + 1) cv, fx5, fd, ft, ff', ?_, rfl⟩, fun x hx => ?_⟩, (((hkT.step ((hk6.step hk7).mono (fun _ h _ => h.elim))).step' hk8 (fun x hx hlt => by have hx : x ∈ ff := hx; show x ∈ deskFp b fx fd ft ff; simp [hx]))).step' hks (fun x e _ => by have e : x = b := e; show x ∈ deskFp b fx fd ft ff; simp [e])⟩
      · show DeskM _ b q D.disk D.mt (D.mf ++ [D.doc.text]) ⟨q.text, q.every, q.counted, D.most⟩ _ _ _ _ _ _ _ _
        have hnum : (⟨q.text, q.every, q.counted, D.most⟩ : Nums) = ⟨D.doc.text, D.doc.every, D.doc.counted, D.most⟩ := by rw [hqe]; rfl
        rw [hnum]
        exact ⟨hcs, hd8.kept hks (fun x hx e => ha.1 (e ▸ hx)), hkk8.kept hks (fun x hx e => ha.2.1 (e ▸ hx)), ht8.kept hks (fun x hx e => ha.2.2.1 (e ▸ hx)), hf8.kept hks (fun x hx e => ha.2.2.2 (e ▸ hx)), hap8⟩
      · simp only [deskFp, List.mem_cons, List.mem_append] at hx
        rcases hx with rfl | hx | hx | hx | hx
        · exact hV5 _ (by simp)
        · exact hV5 x (by simp [hx])
        · exact hV5 x (by simp [hx])
        · exact hV5 x (by simp [hx])
        · rcases hx8 x hx with hx | hx
          · exact hV5 x (by simp [hx])
          · exact .inr (by omega)
    have hG' : Going { D with doc := q, files := D.files ++ [D.doc.text], mf := D.mf ++ [D.doc.text] } (N + 600) L := by
      refine ⟨?_, ?_, ?_, g.mt⟩
      · have hdok' : D.doc.save.2.Ok := by rw [HQ.out]; exact hdok
        have := g.ok.saved hk0 (mf := D.mf ++ [D.doc.text]) (by simp) (by simp; omega) hdok'
        rw [HQ.out] at this
        exact this.mono (by omega)
      · show q.wr.known = true
        rw [HSV.out]; exact g.known
      · show D.mf ++ [D.doc.text] = D.files ++ [D.doc.text]
        rw [g.mf]
    have hE : q.every = D.doc.every := by rw [HSV.out]
    have HMV : Hid (MovedTo w (w8.setCell ⟨b, 3, none⟩ (.slice pv (D.mf.length + 1) cv)) b (deskFp b fx fd ft ff) D (N + 600) L) := hmv _ _ hTo hG' hE
    clear hTo hG' hE hM5 hM6 hM7 hdok hk0 hks hcs
    go_wp2
    go_ret
    exact ⟨by simp, HMV.out⟩
  · have hk0' : ¬ (D.doc.kind : Int) = 0 := by omega
    have hr : D.doc.save = (5, D.doc) := by
      unfold DocS.save
      rw [if_pos hk0]
    rw [hr] at hs
    clear hr
    go_wp2_with fail
    refine hs.mono ?_
    rintro e w5 ⟨rfl, hT⟩
    obtain ⟨fx5, hM5, hx5⟩ := hM3.doc_to hT
    have hcV5 : ∀ k, w5.cell? ⟨V, k, none⟩ = #[Value.int .i64 (D.doc.lines.length : Int), .int .i64 (D.doc.edits : Int), .int .i64 (D.doc.kind : Int)][k]? := (cells_of (hT.kept.get hn3 (fun hx => by have hx : V ∈ fx := hx; have := hM2.doc.lt V hx; omega))).1
    have hTo : DeskTo w3 w5 b bx bd (deskFp b fx fd ft ff) D := ⟨⟨_, ⟨_, _, _, _, _, _, hM5, rfl⟩, fun x hx => by
      simp only [deskFp, List.mem_cons, List.mem_append] at hx ⊢
      rcases hx with rfl | hx | hx | hx | hx
      · exact .inl (.inl rfl)
      · rcases hx5 x hx with hx | hx
        · exact .inl (.inr (.inl hx))
        · exact .inr (by omega)
      · exact .inl (.inr (.inr (.inl hx)))
      · exact .inl (.inr (.inr (.inr (.inl hx))))
      · exact .inl (.inr (.inr (.inr (.inr hx))))⟩, hT.kept.mono (fun x hx _ => by have hx : x ∈ fx := hx; show x ∈ deskFp b fx fd ft ff; simp [hx])⟩
    clear hM5 hcV
    go_wp2
    go_ret
    exact ⟨by simp [hk0], hmv _ _ hTo (g.mono (by omega)) rfl⟩
end Go.Proofs.YtdpfohgkikjeaaaGreat
/- move: some acts. -/
namespace Go.Proofs.YtdpfohgkikjeaaaGreat
open Go.RowKit
set_option linter.unusedVariables false
set_option linter.unusedSimpArgs false

set_option maxRecDepth 100000 in
set_option maxHeartbeats 8000000 in
theorem move_acts {w b bx bd D fp N L B} (h : DeskR w b bx bd D fp) (g : Going D N L) (hN : N + 600 ≤ 1000000000000) (hL : L ≤ 1000000000000) (kind n : Int) (v : Value) (raw : List Int) (hraw : IntsAt w B v raw) (hBw : ∀ x ∈ fp, B ≤ x) (hkind : RawOk kind) (hn : RawOk n) (hK : pickN kind 8 = 5) :
    Calls Tryz.prog 31 #[.pointer (some ⟨b, 0, none⟩), .agg #[.int .i64 kind, .int .i64 n, v]] w fun e w' => e = .returned (.bool true) ∧ MovedTo w w' b fp D (N + 600) L := by
  obtain ⟨vt, vf, fx, fd, ft, ff, hM, rfl⟩ := h
  have hb0 : b < w.heap.size := lt_of_heap hM.cells
  obtain ⟨hc0, _⟩ := cells_of hM.cells
  go_enter Tryz.func31, Tryz.ntmps31
  go_wp2_with fail
  obtain ⟨hn1, hsz1, hk1⟩ := new1 w (Obj.cells #[.int .i64 kind, .int .i64 n, v] 40)
  have hM1 := hM.kept hk1 (fun _ _ h => h)
  generalize hA : w.heap.size = A at hn1 hsz1 ⊢
  generalize w.alloc (Obj.cells #[.int .i64 kind, .int .i64 n, v] 40) = w1 at hn1 hsz1 hk1 hM1 ⊢
  refine (look_doc hM1.doc).mono ?_
  rintro e w2 ⟨rfl, hk2⟩
  have hM2 := hM1.kept hk2 (fun _ _ h => h)
  have hn2 := hk2.get hn1 (fun h => h)
  obtain ⟨hca2, _⟩ := cells_of hn2
  have hA2 : A < w2.heap.size := lt_of_heap hn2
  go_wp2_with fail
  obtain ⟨hn3, hsz3, hk3⟩ := new1 w2 (Obj.cells #[.int .i64 (D.doc.lines.length : Int), .int .i64 (D.doc.edits : Int), .int .i64 (D.doc.kind : Int)] viewT)
  have hM3 := hM2.kept hk3 (fun _ _ h => h)
  have ha3 := hk3.get hn2 (fun h => h)
  generalize hV : w2.heap.size = V at hn3 hsz3 hA2 ⊢
  generalize w2.alloc (Obj.cells #[.int .i64 (D.doc.lines.length : Int), .int .i64 (D.doc.edits : Int), .int .i64 (D.doc.kind : Int)] viewT) = w3 at hn3 hsz3 hk3 hM3 ha3 ⊢
  refine (pick_keep kind 8 8 rfl hkind (by decide) (by decide) w3).mono ?_
  rintro e w4 ⟨rfl, hw⟩
  rw [hw, hK]
  clear hw hc0 hca2
  have hkw : Kept no w w3 := (hk1.step hk2).step hk3
  have hraw3 := hraw.kept hkw (fun _ h => h.elim)
  have hR3 : DeskR w3 b bx bd D (deskFp b fx fd ft ff) := ⟨_, _, _, _, _, _, hM3, rfl⟩
  have hmv : ∀ w' D', DeskTo w3 w' b bx bd (deskFp b fx fd ft ff) D' → Going D' (N + 600) L → D'.doc.every = D.doc.every → MovedTo w w' b (deskFp b fx fd ft ff) D (N + 600) L := fun w' D' ⟨⟨fp', hr, hx⟩, hk⟩ g' he =>
    ⟨bx, bd, fp', D', hr, g', he, fun x hx' => by
      rcases hx x hx' with h | h
      · exact .inl h
      · have := hkw.size; exact .inr (by omega), (hkw.mono (fun _ h _ => h.elim)).step hk⟩
  obtain ⟨hcA, _⟩ := cells_of ha3
  obtain ⟨hcV, _⟩ := cells_of hn3
  obtain ⟨hcB, _⟩ := cells_of hM3.cells
  have hf := hraw.fits
  have hgo : ∀ i, RawOk (raw.getD i 0) := fun i => by
    rw [List.getD_eq_getElem?_getD]
    cases hx : raw[i]? with
    | none => exact ⟨by decide, by decide⟩
    | some x => exact hf x (List.mem_of_getElem? hx)
  have hvn : ∀ W, Kept no w3 W → W.cell? ⟨A, 1, none⟩ = some (.int .i64 n) := fun W hW => hW.read (by rw [hcA]; rfl) (fun h => h)
  have hv : ∀ W, Kept no w3 W → W.cell? ⟨A, 2, none⟩ = some v := fun W hW => hW.read (by rw [hcA]; rfl) (fun h => h)
  have h40 := pickN_lt n (n := 40) (by decide)
  have h2 := pickN_lt (raw.getD 1 0) (n := 2) (by decide)
  have hcase : (∃ pv cv, v = .slice pv 0 cv) ∨ ∃ rb ro m rc x0, v = .slice (some ⟨rb, ro, none⟩) (m + 1) rc ∧ RawOk x0 ∧ w3.cell? ⟨rb, ro, none⟩ = some (.int .i64 x0) ∧ m + 1 ≤ 9223372036854775807 := by
    rcases hraw3.at_ with ⟨a, c, e, _⟩ | ⟨rb, ro, c, e, _, hc⟩
    · exact .inl ⟨a, c, e⟩
    · match raw, e, hc, hraw.fits, hraw.few with
      | [], e, _, _, _ => exact .inl ⟨_, _, e⟩
      | x0 :: l, e, hc, hx, hfw => exact .inr ⟨rb, ro, l.length, c, x0, e, hx x0 (by simp), hc 0 x0 rfl, by have h := hfw; simp only [List.length_cons] at h; omega⟩
  rcases hcase with ⟨pv, cv, rfl⟩ | ⟨rb, ro, m, rc, x0, rfl, hx0, hc0, hm⟩
  · go_wp2_with fail
    refine wp_region3 (fun W => Kept no w3 W) [(0, true), (1, true), (2, false), (4, true), (5, true), (6, false)] [3, 7, 8, 9, 10] (by kernel_rfl) (by kernel_rfl) (fun _ _ d _ _ h => by cases d <;> exact h) ((Kept.refl _ _).drew) ?_
    repeat ((first | refine wpPre3_pure rfl rfl (fun W => (by go_simp; rfl)) ?_ | refine wpPre3_read rfl rfl (fun W hW => (by have h1 := hv W hW; have h2 := hvn W hW; go_simp; rfl)) ?_); simp only [Act.put, List.setIfInBounds_toArray, List.set])
    refine wpPre3_nil ?_
    have hk4 : Kept no w3 w3.drew := (Kept.refl _ _).drew
    have hraw4 := hraw3.kept hk4 (fun _ h => h.elim)
    have hR4 := hR3.kept hk4 (fun _ _ h => h)
    generalize w3.drew = w4 at hk4 hraw4 hR4 ⊢
    refine wpTail3_cons rfl rfl (fun K hK => ?_)
    go_wp2_with fail
    refine (pick_keep n 40 40 rfl hn (by decide) (by decide) w4).mono ?_
    rintro e w5 ⟨rfl, hw⟩
    rw [hw]
    clear hw
    refine hK _ _ ⟨fun h => h, ?_⟩
    clear hK
    refine wpTail3_cons rfl rfl (fun K hK => ?_)
    go_wp2_with fail
    refine (number_any hraw4 1 1 rfl (by decide)).mono ?_
    rintro e w5 ⟨rfl, hw⟩
    rw [hw]
    clear hw
    refine hK _ _ ⟨fun h => h, ?_⟩
    clear hK
    refine wpTail3_cons rfl rfl (fun K hK => ?_)
    go_wp2_with fail
    refine (pick_keep (raw.getD 1 0) 2 2 rfl (hgo 1) (by decide) (by decide) w4).mono ?_
    rintro e w5 ⟨rfl, hw⟩
    rw [hw]
    clear hw
    refine hK _ _ ⟨fun h => h, ?_⟩
    clear hK
    refine wpTail3_last (by kernel_rfl) rfl rfl (fun K hK => ?_)
    go_wp2_with fail
    refine (work_any hR4 g.ok (pickN n 40) (pickN n 40 : Nat) (-1) (pickN (raw.getD 1 0) 2 : Nat) (pickN (raw.getD 1 0) 2) rfl rfl (by omega) (by omega) (by omega) (by omega) (by omega) hL).mono ?_
    rintro e w5 ⟨rfl, hT⟩
    refine hK _ _ ?_
    clear hK
    refine wpTail3_last (by kernel_rfl) rfl rfl (fun K hK => ?_)
    go_wp2_with fail
    refine wpTail3_nil ?_
    go_wp2
    go_ret
    refine ⟨by simp, hmv _ _ (?_ : DeskTo w3 w5 b bx bd (deskFp b fx fd ft ff) (D.work (pickN n 40) 0 (-1) (decide (pickN (raw.getD 1 0) 2 % 2 ≠ 0)))) ((g.work _ _ _).mono (by omega)) (work_same _ _ _ 0 D).2.1⟩
    obtain ⟨fp', hr, hx⟩ := hT.ex
    exact ⟨⟨fp', hr, fun x hx' => (hx x hx').imp id (fun h => by have := hk4.size; omega)⟩, (hk4.mono (fun _ h _ => h.elim)).step hT.kept⟩
  · have hp := pickN_lt x0 (n := 20) (by decide)
    go_wp2_with fail
    refine (pick_keep x0 20 20 rfl hx0 (by decide) (by decide) w3).mono ?_
    rintro e w4 ⟨rfl, hw⟩
    rw [hw]
    clear hw hc0
    go_wp2_with fail
    refine wp_region3 (fun W => Kept no w3 W) [(0, true), (1, true), (2, false), (4, true), (5, true), (6, false)] [3, 7, 8, 9, 10] (by kernel_rfl) (by kernel_rfl) (fun _ _ d _ _ h => by cases d <;> exact h) ((Kept.refl _ _).drew) ?_
    repeat ((first | refine wpPre3_pure rfl rfl (fun W => (by go_simp; rfl)) ?_ | refine wpPre3_read rfl rfl (fun W hW => (by have h1 := hv W hW; have h2 := hvn W hW; go_simp; rfl)) ?_); simp only [Act.put, List.setIfInBounds_toArray, List.set])
    refine wpPre3_nil ?_
    have hk4 : Kept no w3 w3.drew := (Kept.refl _ _).drew
    have hraw4 := hraw3.kept hk4 (fun _ h => h.elim)
    have hR4 := hR3.kept hk4 (fun _ _ h => h)
    generalize w3.drew = w4 at hk4 hraw4 hR4 ⊢
    refine wpTail3_cons rfl rfl (fun K hK => ?_)
    go_wp2_with fail
    refine (pick_keep n 40 40 rfl hn (by decide) (by decide) w4).mono ?_
    rintro e w5 ⟨rfl, hw⟩
    rw [hw]
    clear hw
    refine hK _ _ ⟨fun h => h, ?_⟩
    clear hK
    refine wpTail3_cons rfl rfl (fun K hK => ?_)
    go_wp2_with fail
    refine (number_any hraw4 1 1 rfl (by decide)).mono ?_
    rintro e w5 ⟨rfl, hw⟩
    rw [hw]
    clear hw
    refine hK _ _ ⟨fun h => h, ?_⟩
    clear hK
    refine wpTail3_cons rfl rfl (fun K hK => ?_)
    go_wp2_with fail
    refine (pick_keep (raw.getD 1 0) 2 2 rfl (hgo 1) (by decide) (by decide) w4).mono ?_
    rintro e w5 ⟨rfl, hw⟩
    rw [hw]
    clear hw
    refine hK _ _ ⟨fun h => h, ?_⟩
    clear hK
    refine wpTail3_last (by kernel_rfl) rfl rfl (fun K hK => ?_)
    go_wp2_with fail
    refine (work_any hR4 g.ok (pickN n 40) (pickN n 40 : Nat) (pickN x0 20 : Nat) (pickN (raw.getD 1 0) 2 : Nat) (pickN (raw.getD 1 0) 2) rfl rfl (by omega) (by omega) (by omega) (by omega) (by omega) hL).mono ?_
    rintro e w5 ⟨rfl, hT⟩
    refine hK _ _ ?_
    clear hK
    refine wpTail3_last (by kernel_rfl) rfl rfl (fun K hK => ?_)
    go_wp2_with fail
    refine wpTail3_nil ?_
    go_wp2
    go_ret
    refine ⟨by simp, hmv _ _ (?_ : DeskTo w3 w5 b bx bd (deskFp b fx fd ft ff) (D.work (pickN n 40) 0 (pickN x0 20 : Nat) (decide (pickN (raw.getD 1 0) 2 % 2 ≠ 0)))) ((g.work _ _ _).mono (by omega)) (work_same _ _ _ 0 D).2.1⟩
    obtain ⟨fp', hr, hx⟩ := hT.ex
    exact ⟨⟨fp', hr, fun x hx' => (hx x hx').imp id (fun h => by have := hk4.size; omega)⟩, (hk4.mono (fun _ h _ => h.elim)).step hT.kept⟩
end Go.Proofs.YtdpfohgkikjeaaaGreat
/- move: any. -/
namespace Go.Proofs.YtdpfohgkikjeaaaGreat
open Go.RowKit
set_option linter.unusedVariables false
set_option linter.unusedSimpArgs false

theorem move_any {w b bx bd D fp N L B} (h : DeskR w b bx bd D fp) (g : Going D N L) (hN : N + 600 ≤ 1000000000000) (hL : L ≤ 1000000000000) (kind n : Int) (v : Value) (raw : List Int) (hraw : IntsAt w B v raw) (hBw : ∀ x ∈ fp, B ≤ x) (hkind : RawOk kind) (hn : RawOk n) :
    Calls Tryz.prog 31 #[.pointer (some ⟨b, 0, none⟩), .agg #[.int .i64 kind, .int .i64 n, v]] w fun e w' => e = .returned (.bool true) ∧ MovedTo w w' b fp D (N + 600) L := by
  have h8 := pickN_lt kind (n := 8) (by decide)
  rcases (by omega : pickN kind 8 = 0 ∨ pickN kind 8 = 1 ∨ pickN kind 8 = 2 ∨ pickN kind 8 = 3 ∨ pickN kind 8 = 4 ∨ pickN kind 8 = 5 ∨ pickN kind 8 = 6 ∨ pickN kind 8 = 7) with hK | hK | hK | hK | hK | hK | hK | hK
  · exact move_edit0 h g hN hL kind n v raw hraw hBw hkind hn hK
  · exact move_edit1 h g hN hL kind n v raw hraw hBw hkind hn hK
  · exact move_edit2 h g hN hL kind n v raw hraw hBw hkind hn hK
  · exact move_sync h g hN hL kind n v raw hraw hBw hkind hn hK
  · exact move_save h g hN hL kind n v raw hraw hBw hkind hn hK
  · exact move_acts h g hN hL kind n v raw hraw hBw hkind hn hK
  · exact move_work h g hN hL kind n v raw hraw hBw hkind hn hK
  · exact move_crash h g hN hL kind n v raw hraw hBw hkind hn hK
end Go.Proofs.YtdpfohgkikjeaaaGreat
/- plays: a script. -/
namespace Go.Proofs.YtdpfohgkikjeaaaGreat
open Go.RowKit
set_option linter.unusedVariables false
set_option linter.unusedSimpArgs false

/-- A script as it is read: its moves, in blocks below B. -/
structure MovesAt (w : World) (B : Nat) (v : Value) (l : List (Int × Int × List Int)) : Prop where
  fits : ∀ m ∈ l, RawOk m.1 ∧ RawOk m.2.1
  few : l.length < 9223372036854775808
  low : B ≤ w.heap.size
  at_ : (∃ a c, v = .slice a 0 c ∧ l = []) ∨ ∃ b o c, v = .slice (some ⟨b, o, none⟩) l.length c ∧ b < B ∧ ∀ j m, l[j]? = some m → ∃ r, w.cell? ⟨b, o + j * 3, none⟩ = some (.int .i64 m.1) ∧ w.cell? ⟨b, o + j * 3 + 1, none⟩ = some (.int .i64 m.2.1) ∧ w.cell? ⟨b, o + j * 3 + 2, none⟩ = some r ∧ IntsAt w B r m.2.2

theorem MovesAt.kept {S : Blocks} {w w' : World} {B v l} (h : MovesAt w B v l) (k : Kept S w w') (hn : ∀ x, S x → B ≤ x) : MovesAt w' B v l := by
  refine ⟨h.fits, h.few, Nat.le_trans h.low k.size, ?_⟩
  rcases h.at_ with h1 | ⟨b, o, c, hv, hb, hc⟩
  · exact .inl h1
  · refine .inr ⟨b, o, c, hv, hb, fun j m hj => ?_⟩
    have hnb : ¬ S b := fun hs => by have := hn b hs; omega
    obtain ⟨r, h0, h1, h2, hr⟩ := hc j m hj
    exact ⟨r, k.read h0 hnb, k.read h1 hnb, k.read h2 hnb, hr.kept k hn⟩

set_option maxRecDepth 100000 in
set_option maxHeartbeats 8000000 in
theorem plays_any {w b bx bd D fp N L B} (h : DeskR w b bx bd D fp) (g : Going D N L) (v : Value) (l : List (Int × Int × List Int)) (hl : MovesAt w B v l) (hN : N + 600 * l.length ≤ 1000000000000) (hL : L ≤ 1000000000000) (hBw : ∀ x ∈ fp, B ≤ x) :
    Calls Tryz.prog 13 #[.pointer (some ⟨b, 0, none⟩), v] w fun e w' => e = .returned (.bool true) ∧ MovedTo w w' b fp D (N + 600 * l.length) L := by
  obtain ⟨pv, cv, hv⟩ : ∃ pv cv, v = .slice pv l.length cv := by
    rcases hl.at_ with ⟨a, c, h1, h2⟩ | ⟨b, o, c, h1, _⟩
    · subst h2; exact ⟨_, _, h1⟩
    · exact ⟨_, _, h1⟩
  subst hv
  have hfew := hl.few
  generalize hn : l.length = n at *
  go_enter Tryz.func13, Tryz.ntmps13
  go_wp2_with fail
  go_loopw [5] (fun s5 wr => ∃ i : Nat, i ≤ n ∧ s5 = .int .i64 ((i : Nat) : Int) ∧ MovedTo w wr b fp D (N + 600 * i) L) (fun s5 _ => n - (intOf s5).toNat)
  case atStart => exact ⟨0, Nat.zero_le _, rfl, bx, bd, fp, D, h, g, rfl, fun x hx => .inl hx, Kept.refl _ _⟩
  case round =>
    obtain ⟨i, hi, rfl, bx1, bd1, fp1, D1, hr1, g1, he1, hx1, hk1⟩ := hrel
    have hl1 := hl.kept hk1 hBw
    by_cases hlt : i < n
    · obtain ⟨m, hm⟩ : ∃ m, l[i]? = some m := ⟨l[i]'(by omega), by simp [hn, hlt]⟩
      obtain ⟨hf1, hf2⟩ := hl.fits m (List.mem_of_getElem? hm)
      obtain ⟨k, q, raw⟩ := m
      rcases hl1.at_ with ⟨a, c, h1, h2⟩ | ⟨b2, o, c, h1, hb2, hc⟩
      · subst h2; simp at hm
      · simp only [Value.slice.injEq] at h1
        obtain ⟨rfl, h1', rfl⟩ := h1
        clear h1'
        obtain ⟨r, c0, c1, c2, hraw⟩ := hc i _ hm
        have hB1 : ∀ x ∈ fp1, B ≤ x := fun x hx => (hx1 x hx).elim (hBw x) (fun h => Nat.le_trans hl.low h)
        have hmov := move_any hr1 g1 (by omega) hL k q r raw hraw hB1 hf1 hf2
        clear hc hl1 hl hn hm
        simp only at c0 c1
        go_wp2_with fail
        refine hmov.mono ?_
        rintro e w2 ⟨rfl, bx2, bd2, fp2, D2, hr2, g2, he2, hx2, hk2⟩
        go_wp2
        refine ⟨⟨i + 1, by omega, by go_num, bx2, bd2, fp2, D2, hr2, g2.mono (by omega), he2.trans he1, fun x hx => (hx2 x hx).elim (hx1 x) (fun h => .inr (Nat.le_trans hk1.size h)), hk1.step' hk2 (fun x hx hlt => (hx1 x hx).resolve_right (by omega))⟩, by simp [intOf]; omega⟩
    · have hin : i = n := by omega
      subst hin
      go_wp2
      go_ret
      exact ⟨rfl, bx1, bd1, fp1, D1, hr1, g1, he1, hx1, hk1⟩
end Go.Proofs.YtdpfohgkikjeaaaGreat
/- Outlives: the walk. -/
namespace Go.Proofs.YtdpfohgkikjeaaaGreat
open Go.RowKit
set_option linter.unusedVariables false
set_option linter.unusedSimpArgs false

/-- What stands at the beginning goes on. -/
theorem Begun.going {D : DeskS} {ls : List Str} {n : Nat} (h : Begun D ls n) : Going D 501 2460 := ⟨h.ok, h.known, h.mf.trans h.files.symm, by rw [h.mt, h.ch]; rfl⟩

/-- An empty row of numbers. -/
theorem ints_nil {w : World} : IntsAt w 0 (.slice none 0 0) [] := ⟨by simp, by decide, Nat.zero_le _, .inl ⟨_, _, rfl, rfl⟩⟩

set_option maxRecDepth 100000 in
set_option maxHeartbeats 8000000 in
theorem outlives_walk {w : World} {B : Nat} {v vs : Value} {raw : List Int} (hr : IntsAt w B v raw) (every : Int) (he : RawOk every) (l : List (Int × Int × List Int)) (hl : MovesAt w B vs l) (hfew : l.length ≤ 1000000000) :
    Calls Tryz.prog 6 #[v, .int .i64 every, vs] w fun e w' => e = .returned (.bool true) ∧ Kept no w w' := by
  go_enter Tryz.func6, Tryz.ntmps6
  go_wp2_with fail
  refine (begin_any hr every he).mono ?_
  rintro e w1 ⟨b, bx, bd, fp, D, rfl, hR, hB, hge, hk1⟩
  have hl1 := hl.kept hk1 (fun _ h => h.elim)
  have g := hB.going
  clear hB
  have hBl := hl.low
  go_wp2_with fail
  refine (plays_any hR g vs l hl1 (by omega) (by decide) (fun x hx => Nat.le_trans hBl (hge x hx))).mono ?_
  rintro e w2 ⟨rfl, bx2, bd2, fp2, D2, hR2, g2, -, hx2, hk2⟩
  obtain ⟨vt, vf, fx, fd, ft, ff, hM, rfl⟩ := hR2
  have hbd := (cells_of hM.cells).1
  go_wp2_with fail
  refine (crash_any hM.disk g2.ok.lens (by omega) (by decide) (ints_nil (w := w2))).mono ?_
  rintro e w5 ⟨⟨BK, fk, secs, f, rfl, hKD, hsl, hlv, hlf, hkn, hk5⟩⟩
  have hM5 := hM.kept hk5 (fun _ _ h => h)
  have hR5 : DeskR w5 b bx2 bd2 D2 (deskFp b fx fd ft ff) := ⟨_, _, _, _, _, _, hM5, rfl⟩
  go_wp2_with fail
  refine (back_any hR5 g2.ok g2.known (by omega) (by decide) hKD hsl hlv (g2.ok.file.leaves hlf) g2.mf g2.mt (leavesFile_len g2.ok.lens hlf) (fun x hx hx2' => by have := hkn x hx; have := hM.lt x hx2'; omega)).mono ?_
  rintro e w6 ⟨rfl, ls, hh, hd, bx', fp', hls, hch, hF, hR6, hok6, hx6, hk6⟩
  go_wp2
  go_ret
  refine ⟨rfl, ((hk1.step' hk2 (fun x hx hlt => by have := hge x hx; omega)).step hk5).step' hk6 (fun x hx hlt => ?_)⟩
  have h1 := hk1.size
  rcases hx2 x hx with h | h
  · have := hge x h; omega
  · omega
end Go.Proofs.YtdpfohgkikjeaaaGreat
/- Arguments that are rows of numbers: how they are read, and that they read so again. -/
namespace Go.Proofs.YtdpfohgkikjeaaaGreat
open Go.RowKit Go.ChangeShapes Go.WideShapes Go.ChangeAt
set_option linter.unusedVariables false
set_option linter.unusedSimpArgs false

theorem cellsInt : Tryz.prog.cellsOf 3 = 1 := by kernel_rfl

theorem wf_raw {x : Int} (h : (Lit.int .i64 x).wf = true) : RawOk x := by
  have hx : -9223372036854775808 ≤ x ∧ x ≤ 9223372036854775807 := by simpa [Lit.wf, IntKind.min, IntKind.max, IntKind.signed, IntKind.bits] using h
  exact ⟨hx.1, by omega⟩

theorem plain_addr {w : World} {a : Addr} {v : Value} (h : w.cell? (a.add 0) = some v) : a = ⟨a.block, a.off, none⟩ := by
  obtain ⟨b, o, s⟩ := a
  cases s with
  | none => rfl
  | some s =>
    exfalso
    unfold World.cell? at h
    cases hh : w.heap[(Addr.add ⟨b, o, some s⟩ 0).block]? with
    | none => rw [hh] at h; cases h
    | some x =>
      rw [hh] at h
      cases x <;> simp [Addr.add] at h

/-- A row of numbers that came in. -/
theorem ints_arg {H : Type} {enc : TypeId × Value → H} {W : World} {v : Value} {d : DataW H} {p : List MemPlace}
    (hv : ∃ a len cap, v = .slice a len cap) (h0 : DataW.Trod enc Tryz.prog W 0 (fun _ => true) true 25 v d p) (hlt : ∀ q ∈ p, q.block < W.heap.size) :
    ∃ raw, IntsAt W W.heap.size v raw ∧ ∀ W', Kept no W W' → ∀ sp : Nat → Bool, (∀ q ∈ p, sp q.block = true) → DataW.Trod enc Tryz.prog W' 0 sp true 25 v d p := by
  obtain ⟨a0, len, cap, rfl⟩ := hv
  obtain ⟨fuel, hf⟩ := h0
  rcases open_ints Tryz.underlying25 Tryz.underlying3 cellsInt hf with ⟨hcs, hx⟩ | ⟨a, len', cap', zs, hcs, _, hl, hm, hz, hx, hcell, hwz⟩
  · simp [Value.cells] at hcs
    obtain ⟨rfl, rfl, rfl⟩ := hcs
    simp only [Prod.mk.injEq] at hx
    obtain ⟨rfl, rfl⟩ := hx
    refine ⟨[], ⟨by simp, by simp, Nat.le_refl _, .inl ⟨_, _, rfl, rfl⟩⟩, fun W' hk sp _ => ?_⟩
    exact ⟨1, by simp [DataW.trod, Tryz.underlying25, Value.cells]⟩
  · simp [Value.cells] at hcs
    obtain ⟨rfl, rfl, rfl⟩ := hcs
    simp only [Prod.mk.injEq] at hx
    obtain ⟨rfl, rfl⟩ := hx
    simp only [if_true] at hz
    have hblk : 0 < zs.length → a.block < W.heap.size := fun h => hlt (.cell a.block a.off) (MemPlace.mem_row.2 ⟨0, h, by simp⟩)
    have hcell' : ∀ W', Kept no W W' → ∀ i, i < zs.length → W'.cell? (a.add i) = some (.int .i64 (zs.getD i 0)) := fun W' hk i hi => by
      have hb := hblk (by omega)
      rw [World.cell?_of_block (w := W) (hk.block _ (by rw [block_add]; exact hb) (fun h => h))]
      exact hcell i hi
    refine ⟨zs.take len, ⟨fun x hx => wf_raw (hwz x (List.mem_of_mem_take hx)), by rw [List.length_take]; unfold maxLen at hm; omega, Nat.le_refl _, ?_⟩, fun W' hk sp hsp => ?_⟩
    · by_cases h0 : len = 0
      · subst h0
        exact .inl ⟨_, _, rfl, rfl⟩
      · have hpl := plain_addr (hcell 0 (by omega))
        have e : (zs.take len).length = len := by rw [List.length_take]; omega
        refine .inr ⟨a.block, a.off, cap, by rw [e, ← hpl], hblk (by omega), fun j x hx => ?_⟩
        have hj : j < len := by have := (List.getElem?_eq_some_iff.1 hx).1; omega
        have hc := hcell j (by omega)
        rw [hpl, add_at] at hc
        rw [hc]
        rw [List.getElem?_take, if_pos hj] at hx
        simp [List.getD_eq_getElem?_getD, hx, iv]
    · by_cases hz0 : zs.length = 0
      · have hc0 : cap = 0 := by omega
        have hl0 : len = 0 := by omega
        subst hc0; subst hl0
        have t0 := shut_ints (enc := enc) (w := W') (base := 0) (spare := sp) (held := true) (a := a) (len := 0) (cap := 0) (zs := zs) 0 Tryz.underlying25 Tryz.underlying3 cellsInt (Nat.zero_le _) (Nat.le_refl _) hm (by simp [hz0]) (hcell' W' hk) hwz
        exact ⟨2, by simpa [Value.cells] using t0⟩
      · have hspb : sp a.block = true := hsp (.cell a.block a.off) (MemPlace.mem_row.2 ⟨0, by omega, by simp⟩)
        have t0 := shut_ints (enc := enc) (w := W') (base := 0) (spare := sp) (held := true) (a := a) (len := len) (cap := cap) (zs := zs) 0 Tryz.underlying25 Tryz.underlying3 cellsInt (Nat.zero_le _) hl hm (by simp [hspb, hz]) (hcell' W' hk) hwz
        exact ⟨2, by simpa [Value.cells] using t0⟩

/-- The call's answer, where nothing that was there has turned. -/
theorem post_of_below {H : Type} {enc : TypeId × Value → H} {P : Program} {f : Func} {s : ChangeSpec} {apart fresh handsOn again : Bool} {W W' : World} {args : Array Value} {v : Value} {ds gs : List (DataW H)} {before pa pv : List MemPlace}
    (hW : DataW.Whole enc P f.params.toList s.vars apart W args.toList ds gs before)
    (hres : ∀ (b : Nat) (sp : Nat → Bool) (hd : Bool), DataW.TrodAll enc P W' b sp hd f.resultTypes.toList (v.resultList f.resultTypes.size) (s.fn H (ds ++ gs)).results [])
    (hargs : ∀ sp : Nat → Bool, (∀ p ∈ before, sp p.block = true) → DataW.TrodAll enc P W' 0 sp true f.params.toList args.toList (s.fn H (ds ++ gs)).args pa)
    (hvars : ∀ sp : Nat → Bool, (∀ p ∈ before, sp p.block = true) → DataW.TrodVars enc P W' sp s.vars (s.fn H (ds ++ gs)).vars pv)
    (hps : before = pa ++ pv) (hb : Below W.heap.size W W')
    (hok : ∀ (j : Nat) (t : TypeId) (r : Value), f.resultTypes[j]? = some t → (v.resultList f.resultTypes.size)[j]? = some r → Value.okWide P W' .any 0 t r) :
    s.post enc P f apart fresh handsOn again W args v W' := by
  have hlt := fun p hp => hW.lt p hp
  have hold : ∀ p ∈ before, (fun b => decide (b < W.heap.size)) p.block = true := fun p hp => by simpa using hlt p hp
  refine ⟨ds, gs, before, [], pa, pv, hW, hres _ _ _, hargs _ hold, hvars _ hold, World.keptBut_mono (fun p hp => ⟨hp, ?_⟩) (hb.frame (· ∈ before)), fun _ => ?_⟩
  · rw [hps, List.mem_append] at hp
    exact Or.inr hp
  · obtain ⟨_, _, _, _, _, hz, hn⟩ := hW
    refine ⟨hok, _, _, ([] ++ pa) ++ pv, ⟨[] ++ pa, pv, trodAll_append (hargs _ (fun _ _ => rfl)) (hres _ _ _), hvars _ (fun _ _ => rfl), rfl, ?_, ?_⟩, ?_⟩
    · intro b off hp
      have hp' : MemPlace.cell b off ∈ before := by rw [hps]; simpa using hp
      rw [hb.frozen (p := ⟨b, off, none⟩) (hlt _ hp')]
      exact hz b off hp'
    · intro ha
      have := hn ha
      rw [hps] at this
      simpa using this
    · intro p hp _
      rw [hps]
      simpa using hp
end Go.Proofs.YtdpfohgkikjeaaaGreat
/- One move of a script, as an argument: how it is read, and that it reads so again. -/
namespace Go.Proofs.YtdpfohgkikjeaaaGreat
open Go.RowKit Go.ChangeShapes Go.WideShapes Go.ChangeAt Go.Deep
set_option linter.unusedVariables false
set_option linter.unusedSimpArgs false

theorem moveFields : ∃ f0 f1 f2, Tryz.prog.underlying 40 = some (.struct #[f0, f1, f2]) ∧ (f0.offset = 0 ∧ f1.offset = 1 ∧ f2.offset = 2) ∧ f0.type = 3 ∧ f1.type = 3 ∧ f2.type = 25 :=
  ⟨_, _, _, Tryz.underlying40, ⟨rfl, rfl, rfl⟩, rfl, rfl, rfl⟩
theorem cellsMove : Tryz.prog.cellsOf 40 = 3 := by kernel_rfl
theorem cellsInts : Tryz.prog.cellsOf 25 = 1 := by kernel_rfl

theorem len_three {α : Type} {l : List α} (h : l.length = 3) : ∃ a b c, l = [a, b, c] := by
  match l, h with
  | [a, b, c], _ => exact ⟨a, b, c, rfl⟩

theorem int_cell {H : Type} {enc : TypeId × Value → H} {W : World} {base n : Nat} {sp : Nat → Bool} {hd : Bool} {v : Value} {y : DataW H × List MemPlace} (h : DataW.trod enc Tryz.prog W base sp hd n 3 [v] = some y) :
    ∃ k, v = .int .i64 k ∧ y = (.lit (.int .i64 k), []) ∧ (Lit.int .i64 k).wf = true := by
  obtain ⟨k, h1, h2, h3⟩ := DataW.trod_int Tryz.underlying3 h
  simp only [List.cons.injEq, and_true] at h1
  exact ⟨k, h1, h2, h3⟩

theorem row_cell {H : Type} {enc : TypeId × Value → H} {W : World} {base n : Nat} {sp : Nat → Bool} {hd : Bool} {v : Value} {y : DataW H × List MemPlace} (h : DataW.trod enc Tryz.prog W base sp hd n 25 [v] = some y) : ∃ a len cap, v = .slice a len cap := by
  rcases open_slice Tryz.underlying25 h with ⟨h1, _⟩ | ⟨a, len, cap, m, n, D, Pl, h1, _⟩
  · simp only [List.cons.injEq, and_true] at h1; exact ⟨_, _, _, h1⟩
  · simp only [List.cons.injEq, and_true] at h1; exact ⟨_, _, _, h1⟩

set_option maxRecDepth 100000 in
theorem move_elem {H : Type} {enc : TypeId × Value → H} {W : World} {a : Addr} {cs : List Value} {x : DataW H × List MemPlace} {fuel : Nat}
    (hc : W.cells? 0 a 3 = some cs) (ht : DataW.trod enc Tryz.prog W 0 (fun _ => true) true fuel 40 cs = some x) (hlt : ∀ q ∈ x.2, q.block < W.heap.size) :
    ∃ k q r raw, cs = [.int .i64 k, .int .i64 q, r] ∧ W.cell? (a.add 0) = some (.int .i64 k) ∧ W.cell? (a.add 1) = some (.int .i64 q) ∧ W.cell? (a.add 2) = some r ∧ RawOk k ∧ RawOk q ∧ IntsAt W W.heap.size r raw ∧
      ∀ W', Kept no W W' → ∀ sp : Nat → Bool, (∀ q ∈ x.2, sp q.block = true) → ∃ n, DataW.trod enc Tryz.prog W' 0 sp true n 40 cs = some x := by
  obtain ⟨f0, f1, f2, he, ⟨o0, o1, o2⟩, t0, t1, t2⟩ := moveFields
  obtain ⟨_, hlen, hcell⟩ := World.cells?_some hc
  obtain ⟨xs, n, hk, hxy, _, hxl, hf⟩ := DataW.trod_struct he ht
  obtain ⟨y0, y1, y2, rfl⟩ := len_three (show xs.length = 3 from hxl)
  obtain ⟨v0, v1, v2, rfl⟩ := len_three hlen
  have g0 := hf 0 f0 rfl
  have g1 := hf 1 f1 rfl
  have g2 := hf 2 f2 rfl
  simp [o0, o1, o2, t0, t1, t2, cellsInt, cellsInts] at g0 g1 g2
  have e0 := hcell 0 (by omega)
  have e1 := hcell 1 (by omega)
  have e2 := hcell 2 (by omega)
  obtain ⟨k, rfl, rfl, w0⟩ := int_cell g0
  obtain ⟨q, rfl, rfl, w1⟩ := int_cell g1
  have hv2 := row_cell g2
  subst hxy
  have hr := ints_arg (enc := enc) (W := W) (v := v2) (d := y2.1) (p := y2.2) hv2 (by obtain ⟨_, _, _, rfl⟩ := hv2; exact ⟨_, by simpa [Value.cells] using g2⟩) (fun q hq => hlt q (by simpa using hq))
  obtain ⟨raw, hraw, hag⟩ := hr
  refine ⟨k, q, v2, raw, rfl, by simpa using e0, by simpa using e1, by simpa using e2, wf_raw w0, wf_raw w1, hraw, fun W' hk' sp hsp => ?_⟩
  obtain ⟨m, hm⟩ := hag W' hk' sp (fun q hq => hsp q (by simpa using hq))
  have hm' : DataW.trod enc Tryz.prog W' 0 sp true m 25 [v2] = some y2 := by obtain ⟨_, _, _, rfl⟩ := hv2; simpa [Value.cells] using hm
  have := trod_struct3_mk (enc := enc) (P := Tryz.prog) (w := W') (base := 0) (spare := sp) (held := true) (n := m + 1) (cs := [.int .i64 k, .int .i64 q, v2]) he (by rw [cellsMove]; rfl)
    (by simpa [o0, t0, cellsInt] using trod_int_mk m Tryz.underlying3 w0) (by simpa [o1, t1, cellsInt] using trod_int_mk m Tryz.underlying3 w1) (by simpa [o2, t2, cellsInts] using DataW.trod_le (Nat.le_succ m) hm')
  exact ⟨_, by simpa using this⟩
end Go.Proofs.YtdpfohgkikjeaaaGreat
/- A script as an argument: how it is read, and that it reads so again. -/
namespace Go.Proofs.YtdpfohgkikjeaaaGreat
open Go.RowKit Go.ChangeShapes Go.WideShapes Go.ChangeAt Go.Deep
set_option linter.unusedVariables false
set_option linter.unusedSimpArgs false

set_option maxRecDepth 100000 in
theorem moves_arg {H : Type} {enc : TypeId × Value → H} {W : World} {v : Value} {d : DataW H} {p : List MemPlace}
    (hv : ∃ a len cap, v = .slice a len cap) (h0 : DataW.Trod enc Tryz.prog W 0 (fun _ => true) true 26 v d p) (hlt : ∀ q ∈ p, q.block < W.heap.size) :
    ∃ l : List (Int × Int × List Int), MovesAt W W.heap.size v l ∧ ((d = .nil ∧ l.length = 0) ∨ ∃ items rest, d = .slice items rest ∧ items.length = l.length) ∧
      ∀ W', Kept no W W' → ∀ sp : Nat → Bool, (∀ q ∈ p, sp q.block = true) → DataW.Trod enc Tryz.prog W' 0 sp true 26 v d p := by
  obtain ⟨a0, len, cap, rfl⟩ := hv
  obtain ⟨fuel, hf⟩ := h0
  rcases open_slice Tryz.underlying26 hf with ⟨hcs, hx⟩ | ⟨a, len', cap', m, n, D, Pl, hcs, _, hl, hm, hmm, hx, hel⟩
  · simp [Value.cells] at hcs
    obtain ⟨rfl, rfl, rfl⟩ := hcs
    simp only [Prod.mk.injEq] at hx
    obtain ⟨rfl, rfl⟩ := hx
    exact ⟨[], ⟨by simp, by simp, Nat.le_refl _, .inl ⟨_, _, rfl, rfl⟩⟩, .inl ⟨rfl, rfl⟩, fun W' hk sp _ => ⟨1, by simp [DataW.trod, Tryz.underlying26, Value.cells]⟩⟩
  · simp [Value.cells] at hcs
    obtain ⟨rfl, rfl, rfl⟩ := hcs
    simp only [Prod.mk.injEq] at hx
    obtain ⟨rfl, rfl⟩ := hx
    simp only [if_true] at hmm
    subst hmm
    have hE : ∀ i, i < m → ∃ e : Int × Int × List Int, ∃ r cs, W.cells? 0 (a.add (i * 3)) 3 = some cs ∧ cs = [.int .i64 e.1, .int .i64 e.2.1, r] ∧ W.cell? ((a.add (i * 3)).add 0) = some (.int .i64 e.1) ∧ W.cell? ((a.add (i * 3)).add 1) = some (.int .i64 e.2.1) ∧ W.cell? ((a.add (i * 3)).add 2) = some r ∧ RawOk e.1 ∧ RawOk e.2.1 ∧ IntsAt W W.heap.size r e.2.2 ∧
        ∀ W', Kept no W W' → ∀ sp : Nat → Bool, (∀ q ∈ Pl i, sp q.block = true) → ∃ n, DataW.trod enc Tryz.prog W' 0 sp true n 40 cs = some (D i, Pl i) := fun i hi => by
      obtain ⟨cs', h1, h2⟩ := hel i hi
      rw [cellsMove] at h1
      obtain ⟨k, q, r, raw, e1, c0, c1, c2, o1, o2, hr, hag⟩ := move_elem h1 h2 (fun q hq => hlt q (List.mem_append_right _ (List.mem_flatMap.2 ⟨i, List.mem_range.2 hi, hq⟩)))
      exact ⟨(k, q, raw), r, cs', h1, e1, c0, c1, c2, o1, o2, hr, hag⟩
    obtain ⟨E, hE⟩ := choose_lt hE
    refine ⟨(List.range len).map E, ?_, .inr ⟨_, _, rfl, by simp⟩, fun W' hk sp hsp => ?_⟩
    · refine ⟨fun x hx => ?_, by rw [List.length_map, List.length_range]; unfold maxLen at hm; omega, Nat.le_refl _, ?_⟩
      · obtain ⟨i, hi, rfl⟩ := List.mem_map.1 hx
        have := List.mem_range.1 hi
        obtain ⟨r, cs, _, _, _, _, _, o1, o2, _⟩ := hE i (by omega)
        exact ⟨o1, o2⟩
      · by_cases hl0 : len = 0
        · subst hl0
          exact .inl ⟨_, _, rfl, rfl⟩
        · obtain ⟨r, cs, _, _, c0, _⟩ := hE 0 (by omega)
          have hpl := plain_addr (by simpa [add_add] using c0 : W.cell? (a.add 0) = some _)
          refine .inr ⟨a.block, a.off, m, by rw [List.length_map, List.length_range, ← hpl], hlt (.cell a.block a.off) (List.mem_append_left _ (MemPlace.mem_row.2 ⟨0, by rw [cellsMove]; omega, by simp⟩)), fun j m' hj => ?_⟩
          have hjl : j < len := by have := (List.getElem?_eq_some_iff.1 hj).1; simpa using this
          have hE' : E j = m' := by simpa [hjl] using hj
          subst hE'
          obtain ⟨r, cs, _, _, c0, c1, c2, _, _, hr, _⟩ := hE j (by omega)
          rw [add_add, hpl, add_at] at c0 c1 c2
          exact ⟨r, by simpa [Nat.add_assoc] using c0, by simpa [Nat.add_assoc] using c1, by simpa [Nat.add_assoc] using c2, hr⟩
    · have hx : ∀ i, i < m → ∃ cs n, W'.cells? 0 (a.add (i * Tryz.prog.cellsOf 40)) (Tryz.prog.cellsOf 40) = some cs ∧ DataW.trod enc Tryz.prog W' 0 sp true n 40 cs = some (D i, Pl i) := fun i hi => by
        obtain ⟨r, cs, hc, he, c0, c1, c2, _, _, _, hag⟩ := hE i hi
        obtain ⟨n, hn⟩ := hag W' hk sp (fun q hq => hsp q (List.mem_append_right _ (List.mem_flatMap.2 ⟨i, List.mem_range.2 hi, hq⟩)))
        have hpl := plain_addr c0
        have hblk : (a.add (i * 3)).block < W.heap.size := by
          have := hlt (.cell a.block a.off) (List.mem_append_left _ (MemPlace.mem_row.2 ⟨0, by rw [cellsMove]; omega, by simp⟩))
          rw [block_add]; exact this
        refine ⟨cs, n, ?_, hn⟩
        rw [cellsMove, hpl, he]
        rw [hpl, add_at] at c0 c1 c2
        refine cells?_of (Nat.zero_le _) rfl fun j hj => ?_
        have hB : ∀ o, W'.cell? ⟨(a.add (i * 3)).block, o, none⟩ = W.cell? ⟨(a.add (i * 3)).block, o, none⟩ := fun o => World.cell?_of_block (hk.block _ hblk (fun h => h))
        match j, hj with
        | 0, _ => exact (hB _).trans c0
        | 1, _ => exact (hB _).trans c1
        | 2, _ => exact (hB _).trans c2
      cases hb : sp a.block with
      | true =>
        obtain ⟨n, hn⟩ := shut_slice_whole_cells (enc := enc) (w := W') (base := 0) (spare := sp) (held := true) (a := a) Tryz.underlying26 (Nat.zero_le _) hl hm hb D Pl hx
        exact ⟨n, by simpa [Value.cells] using hn⟩
      | false =>
        have hm0 : m = 0 := by
          rcases Nat.eq_zero_or_pos m with h | h
          · exact h
          · have := hsp (.cell a.block a.off) (List.mem_append_left _ (MemPlace.mem_row.2 ⟨0, by rw [cellsMove]; omega, by simp⟩))
            have this : sp a.block = true := this
            rw [hb] at this; cases this
        subst hm0
        obtain rfl : len = 0 := by omega
        obtain ⟨n, hn⟩ := shut_slice_cells (enc := enc) (w := W') (base := 0) (spare := sp) (held := true) (a := a) Tryz.underlying26 (Nat.zero_le _) hl hm hb D Pl hx
        exact ⟨n, by simpa [Value.cells] using hn⟩
end Go.Proofs.YtdpfohgkikjeaaaGreat
/- What the bound of the second form gives: a script is short. -/
namespace Go.Proofs.YtdpfohgkikjeaaaGreat
set_option linter.unusedVariables false
set_option linter.unusedSimpArgs false

theorem bulk_one {H : Type} (d : DataW H) : 1 ≤ Rows.uptoBulk d := by
  cases d with
  | lit l => cases l <;> simp [Rows.uptoBulk]
  | nil => simp [Rows.uptoBulk]
  | ptr d => simp [Rows.uptoBulk]
  | slice a b => simp [Rows.uptoBulk]
  | agg a => simp [Rows.uptoBulk]
  | iface t d => simp [Rows.uptoBulk]
  | map a => simp [Rows.uptoBulk]
  | held h => simp [Rows.uptoBulk]

theorem bulk_len {H : Type} : ∀ l : List (DataW H), l.length ≤ Rows.uptoBulkAll l
  | [] => Nat.zero_le _
  | d :: r => by
    have h1 := bulk_one d
    have h2 := bulk_len r
    rw [Rows.uptoBulkAll, List.length_cons]
    omega

theorem bulk_part {H : Type} {d : DataW H} : ∀ {l : List (DataW H)}, d ∈ l → Rows.uptoBulk d ≤ Rows.uptoBulkAll l
  | x :: r, h => by
    rw [Rows.uptoBulkAll]
    rcases List.mem_cons.1 h with rfl | h
    · omega
    · have := bulk_part h; omega

/-- The number of the moves of a script that is an argument. -/
theorem bulk_script {H : Type} {l : List (DataW H)} {d : DataW H} {m : Nat} (hk : Rows.uptoSmall H l = true) (hd : d ∈ l) (h : (d = .nil ∧ m = 0) ∨ ∃ items rest, d = .slice items rest ∧ items.length = m) : m ≤ 1048576 := by
  have hb : Rows.uptoBulkAll l ≤ 1048576 := of_decide_eq_true hk
  rcases h with ⟨_, rfl⟩ | ⟨items, rest, rfl, rfl⟩
  · exact Nat.zero_le _
  · have h1 := bulk_part hd
    have h2 := bulk_len items
    rw [Rows.uptoBulk] at h1
    omega
end Go.Proofs.YtdpfohgkikjeaaaGreat
