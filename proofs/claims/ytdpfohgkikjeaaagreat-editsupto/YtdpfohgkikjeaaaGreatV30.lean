/- Part 30 of the proof: see its parts. -/
import Derived.Test.YtdpfohgkikjeaaaGreatV29
/- The statements' own: again, of an every that may not be, and where no sync was done. -/
namespace Go.Proofs.YtdpfohgkikjeaaaGreat
open Go.RowKit
set_option linter.unusedVariables false
set_option linter.unusedSimpArgs false

theorem WorldR.get {w : World} {b : Nat} {l : TwL} {M : Nat} {fp : List Nat} (h : WorldR w b l M fp) {i : Nat} {t : Nat × TwinS × List Nat} (hi : l[i]? = some t) : TwinR w t.1 t.2.1 t.2.2 ∧ ∀ x ∈ t.2.2, x ∈ fp := by
  obtain ⟨ss, va, vs, lab, h, hm, rfl⟩ := h
  exact ⟨h.twins i t hi, fun x hx => mem_worldFp.2 (.inr (.inr (.inr (.inl ⟨i, t, hi, hx⟩))))⟩

theorem WorldR.twin2 {w w' : World} {b : Nat} {l : TwL} {M : Nat} {fp : List Nat} (h : WorldR w b l M fp) {i : Nat} {t : Nat × TwinS × List Nat} (hi : l[i]? = some t) {T' : TwinS} {fpT : List Nat} (hT : TwinR w' t.1 T' fpT) (hx : ∀ x ∈ fpT, x ∈ t.2.2 ∨ x ∉ fp) (hk : Kept (fun x => x ∈ t.2.2) w w') : ∃ fp', WorldR w' b (l.set i (t.1, T', fpT)) M fp' ∧ ∀ x ∈ fp', x ∈ fp ∨ x ∈ fpT := by
  obtain ⟨ss, va, vs, lab, h, hm, rfl⟩ := h
  obtain ⟨lab', h'⟩ := h.twin hi hT hx hk
  refine ⟨_, ⟨ss, va, vs, lab', h', hm, rfl⟩, fun x hx' => ?_⟩
  rcases mem_worldFp.1 hx' with h1 | h1 | h1 | ⟨j, t', hj, h1⟩ | h1
  · exact .inl (mem_worldFp.2 (.inl h1))
  · exact .inl (mem_worldFp.2 (.inr (.inl h1)))
  · exact .inl (mem_worldFp.2 (.inr (.inr (.inl h1))))
  · by_cases e : i = j
    · subst e
      rw [List.getElem?_set_self (List.getElem?_eq_some_iff.1 hi).1] at hj
      obtain rfl := Option.some.inj hj
      exact .inr h1
    · rw [List.getElem?_set_ne e] at hj
      exact .inl (mem_worldFp.2 (.inr (.inr (.inr (.inl ⟨j, t', hj, h1⟩)))))
  · exact .inl (mem_worldFp.2 (.inr (.inr (.inr (.inr h1)))))

theorem now_length {k : DiskS} {N L : Nat} (h : k.Lens N L) : k.now.length = 400 ∧ ∀ s ∈ k.now, s.length = 64 := by
  refine ⟨by unfold DiskS.now; rw [List.length_map]; exact h.sw, fun s hs => ?_⟩
  obtain ⟨r, hr, rfl⟩ := List.mem_map.1 hs
  exact h.size r hr _ (lastOf_mem (h.some r hr))

/-- Now and recover, together. -/
theorem recover_now {w : World} {b : Nat} {l : TwL} {M : Nat} {fp : List Nat} (h : WorldR w b l M fp) (hM : M ≤ 1000000000000) {k : DiskS} {N L : Nat} (hlen : k.now.length = 400) {v : Value} (hr : Row w 9 1 v 400 (k.now.map sv)) (hv : ∀ x ∈ fpv v, x ∉ fp) (file : Str) (nI : Int) (P : RecP)
    (hP : ∀ px same er fx w1 w2 S, P px same er fx w1 → Kept S w1 w2 → (∀ x ∈ fx, ¬ S x) → P px same er fx w2)
    (hrec : ∀ w1 v1, Kept no w w1 → Row w1 9 1 v1 400 (k.now.map sv) → Calls Tryz.prog 20 #[v1, sv file, .int .i64 nI] w1 fun e w2 => ∃ px same er fx, e = .returned (.tuple #[px, .bool same, .int .i64 er]) ∧ P px same er fx w2 ∧ (∀ x ∈ fx, w1.heap.size ≤ x ∧ x < w2.heap.size) ∧ Kept no w1 w2) :
    Calls Tryz.prog 88 #[ptrV b, v, sv file, .int .i64 nI] w fun e w' => ∃ px same er fx fp', e = .returned (.tuple #[px, .bool same, .int .i64 er, .bool true]) ∧ P px same er fx w' ∧ (∀ x ∈ fx, w.heap.size ≤ x ∧ x ∉ fp') ∧ WorldR w' b l (M + 1) fp' ∧ (∀ x ∈ fp', x ∈ fp ∨ w.heap.size ≤ x) ∧ Kept (fun x => x ∈ fp) w w' := by
  rcases hr.shape with ⟨_, h0, _⟩ | ⟨g, c, rfl, hc1, hc2⟩
  · cases h0
  · have := recover_w h hM g c k.now (by rw [hlen]; exact hr) (hv g (by simp [fpv_some])) (by omega) file nI P hP (by rw [hlen]; exact hrec)
    rw [hlen] at this
    exact this

theorem same_ex (file : Str) (m : Mark) : ∃ same : Bool, same = true ↔ markOf file = m := by
  by_cases e : markOf file = m
  · exact ⟨true, by simp [e]⟩
  · exact ⟨false, by simp [e]⟩

abbrev PArg : RecP := fun px same er fx _ => px = .pointer none ∧ same = false ∧ er = 1 ∧ fx = []
abbrev PFree : RecP := fun px same er fx _ => ((px = .pointer none ∧ er = 7) ∨ ((∃ B, px = ptrV B) ∧ er = 0)) ∧ fx = []

set_option maxRecDepth 100000 in
set_option maxHeartbeats 8000000 in
theorem again_arg {w : World} {b : Nat} {l : TwL} {M : Nat} {fp : List Nat} (h : WorldR w b l M fp) (hM : M ≤ 1000000000000) (bt : Nat) {bk : Nat} {k : DiskS} {fk : List Nat} (hd : DiskR w bk k fk) {N L : Nat} (hL : k.Lens N L) (hN : N ≤ 1000000000000) (file : Str) (every : Int) (he : every < 1 ∨ 20 < every) :
    Calls Tryz.prog 72 #[ptrV b, ptrV bt, ptrV bk, sv file, .int .i64 every] w fun e w' => e = .returned (.bool true) ∧ WorldTo w w' b fp l (M + 1) := by
  obtain ⟨hlen, h64⟩ := now_length hL
  have hnow := now_any hd hL hN
  have hlt := h.lt
  go_enter Tryz.func72, Tryz.ntmps72
  go_wp2_with fail
  refine hnow.mono ?_
  rintro e w1 ⟨v, rfl, hrow, hvn, hk1⟩
  have h1 := h.kept hk1 (fun _ _ h => h)
  have hrec := recover_now (N := N) (L := L) h1 hM hlen hrow (fun x hx hx2 => by have := hvn x hx; have := hlt x hx2; omega) file every PArg (fun _ _ _ _ _ _ _ h _ _ => h) (fun w2 v2 hk2 hr2 => (recover_arg v2 k.now file every w2 (by rw [hlen]; exact hr2) (he.imp id .inl)).mono (fun e w3 ⟨he, hw⟩ => by subst he; subst hw; exact ⟨_, _, _, [], rfl, ⟨rfl, rfl, rfl, rfl⟩, by simp, Kept.refl _ _⟩))
  clear hnow
  go_wp2_with fail
  refine hrec.mono ?_
  rintro e w3 ⟨px, same, er, fx, fp', rfl, ⟨rfl, rfl, rfl, rfl⟩, _, hW3, hx3, hk3⟩
  clear hrec
  have hfin : WorldTo w w3 b fp l (M + 1) := WorldTo.after ⟨⟨_, hW3, hx3⟩, hk3⟩ hk1
  rcases he with he | he
  · go_wp2_with fail
    refine (num_any 1 w3).mono ?_
    rintro e w4 ⟨rfl, hw⟩
    rw [hw]
    clear hw
    go_wp2
    go_ret
    exact ⟨rfl, hfin⟩
  · have he' : ¬ every < 1 := by omega
    have he2 : every > 20 := he
    clear he
    go_wp2_with fail
    refine (num_any 1 w3).mono ?_
    rintro e w4 ⟨rfl, hw⟩
    rw [hw]
    clear hw
    go_wp2
    go_ret
    exact ⟨rfl, hfin⟩

set_option maxRecDepth 100000 in
set_option maxHeartbeats 8000000 in
theorem again_free {w : World} {b : Nat} {l : TwL} {M : Nat} {fp : List Nat} (h : WorldR w b l M fp) (hM : M ≤ 1000000000000) {i : Nat} {bt : Nat} {T : TwinS} {ft : List Nat} (hi : l[i]? = some (bt, T, ft)) (hlast : T.R.last = []) {bk : Nat} {k : DiskS} {fk : List Nat} (hd : DiskR w bk k fk) {N L : Nat} (hL : k.Lens N L) (hN : N ≤ 1000000000000) (file : Str) (hfl : file.length ≤ 1099511627776) (n : Nat) (h1 : 1 ≤ n) (h2 : n ≤ 20) :
    Calls Tryz.prog 72 #[ptrV b, ptrV bt, ptrV bk, sv file, .int .i64 (n : Int)] w fun e w' => e = .returned (.bool true) ∧ WorldTo w w' b fp l (M + 1) := by
  obtain ⟨hlen, h64⟩ := now_length hL
  have hnow := now_any hd hL hN
  have hlt := h.lt
  go_enter Tryz.func72, Tryz.ntmps72
  go_wp2_with fail
  refine hnow.mono ?_
  rintro e w1 ⟨v, rfl, hrow, hvn, hk1⟩
  have hw1 := h.kept hk1 (fun _ _ h => h)
  have hrec := recover_now (N := N) (L := L) hw1 hM hlen hrow (fun x hx hx2 => by have := hvn x hx; have := hlt x hx2; omega) file (n : Int) PFree (fun _ _ _ _ _ _ _ h _ _ => h) (fun w2 v2 hk2 hr2 => by
    by_cases hF : ∃ hh hd t, Finds (imgOf k.now) hh hd t
    · obtain ⟨hh, hd', t, hF⟩ := hF
      obtain ⟨ls, hls, rfl⟩ := hF.reads.fits
      obtain ⟨same, hsame⟩ := same_ex file hd'.file
      refine (recover_yes hr2 hlen h64 hls hF file hfl n _ rfl h1 h2 same hsame).mono ?_
      rintro e w3 ⟨B, fB, rfl, _, _, hk3⟩
      exact ⟨_, _, _, [], rfl, ⟨.inr ⟨⟨B, rfl⟩, rfl⟩, rfl⟩, by simp, hk3⟩
    · refine (recover_no hr2 hlen h64 (fun hh hd' t hf => hF ⟨hh, hd', t, hf⟩) file (n : Int) (by omega) (by omega)).mono ?_
      rintro e w3 ⟨rfl, hk3⟩
      exact ⟨_, _, _, [], rfl, ⟨.inl ⟨rfl, rfl⟩, rfl⟩, by simp, hk3⟩)
  clear hnow
  go_wp2_with fail
  refine hrec.mono ?_
  rintro e w3 ⟨px, same, er, fx, fp', rfl, ⟨hpx, rfl⟩, _, hW3, hx3, hk3⟩
  clear hrec
  have hfin : WorldTo w w3 b fp l (M + 1) := WorldTo.after ⟨⟨_, hW3, hx3⟩, hk3⟩ hk1
  obtain ⟨bx, br, bd, fx, fr, fd, hM3, _⟩ := (hW3.get hi).1
  obtain ⟨hc, hf, hbl, hrl, hcj⟩ := hM3.reads
  obtain ⟨vl, va, vq, vs, fa, fq, hr, _⟩ := hM3.ref
  have hq := hr.last
  rw [hlast] at hq
  obtain ⟨pq, cq, hvq⟩ := hq.slice
  have hcq : w3.cell? ⟨br, 9, none⟩ = some vq := by rw [(cells_of hr.cells).1]; rfl
  rw [hvq] at hcq
  have hn1 : ¬ (n : Int) < 1 := by omega
  have hn2 : ¬ (n : Int) > 20 := by omega
  clear hW3 hM3 hr hq hvq
  rcases hpx with ⟨rfl, rfl⟩ | ⟨⟨B, rfl⟩, rfl⟩
  · go_wp2
    go_ret
    exact ⟨rfl, hfin⟩
  · go_wp2
    go_ret
    exact ⟨by simp, hfin⟩
end Go.Proofs.YtdpfohgkikjeaaaGreat
/- The statements' own: again, where a sync was done. -/
namespace Go.Proofs.YtdpfohgkikjeaaaGreat
open Go.RowKit
set_option linter.unusedVariables false
set_option linter.unusedSimpArgs false

abbrev PYes (q : DocS) (same : Bool) : RecP := fun px s er fx W => ∃ B, px = ptrV B ∧ s = same ∧ er = 0 ∧ DocR W B q fx

set_option maxRecDepth 100000 in
set_option maxHeartbeats 16000000 in
theorem again_yes {w : World} {b : Nat} {l : TwL} {M : Nat} {fp : List Nat} (h : WorldR w b l M fp) (hM : M ≤ 1000000000000) {i : Nat} {bt : Nat} {T : TwinS} {ft : List Nat} (hi : l[i]? = some (bt, T, ft)) {N L : Nat} (ok : T.Ok N L) (hN : N ≤ 1000000000000) (hLL : L ≤ 1000000000000) (hlast : T.R.last ≠ []) {bk : Nat} {k : DiskS} {fk : List Nat} (hd : DiskR w bk k fk) {N' L' : Nat} (hL : k.Lens N' L') (hN' : N' ≤ 1000000000000) (hlv : T.D.disk.Leaves k.now) (file : Str) (hfl : file.length ≤ L) (n : Nat) (h1 : 1 ≤ n) (h2 : n ≤ 20) :
    Calls Tryz.prog 72 #[ptrV b, ptrV bt, ptrV bk, sv file, .int .i64 (n : Int)] w fun e w' => e = .returned (.bool true) ∧ ∃ T' fpT, T'.Ok N L ∧ WorldTo w w' b fp (l.set i (bt, T', fpT)) (M + 1) := by
  obtain ⟨hlen, h64⟩ := now_length hL
  have hnow := now_any hd hL hN'
  have hlt := h.lt
  have hkn : T.D.doc.wr.known = true := ok.beside.known.1 hlast
  obtain ⟨hh, hdr, ls, hls, hF, hch⟩ := back_finds ok.ok hkn hlv
  obtain ⟨same, hsame⟩ := same_ex file hdr.file
  have hll := hls.length
  have hft := (h.get hi).2
  go_enter Tryz.func72, Tryz.ntmps72
  go_wp2_with fail
  refine hnow.mono ?_
  rintro e w1 ⟨v, rfl, hrow, hvn, hk1⟩
  have hw1 := h.kept hk1 (fun _ _ h => h)
  have hrec := recover_now (N := N') (L := L') hw1 hM hlen hrow (fun x hx hx2 => by have := hvn x hx; have := hlt x hx2; omega) file (n : Int) (PYes (DocS.readBack ls file n hh hdr.number) same) (fun px s er fx w1 w2 S ⟨B, e1, e2, e3, hD⟩ hk hn => ⟨B, e1, e2, e3, hD.kept hk hn⟩) (fun w2 v2 hk2 hr2 => by
    refine (recover_yes hr2 hlen h64 hls hF file (by omega) n _ rfl h1 h2 same hsame).mono ?_
    rintro e w3 ⟨B, fB, rfl, hD, hx, hk3⟩
    exact ⟨_, _, _, fB, rfl, ⟨B, rfl, rfl, rfl, hD⟩, fun x hx' => ⟨hx x hx', hD.lt x hx'⟩, hk3⟩)
  clear hnow
  go_wp2_with fail
  refine hrec.mono ?_
  rintro e w3 ⟨px, s, er, fx, fp', rfl, ⟨B, rfl, rfl, rfl, hD3⟩, hfx, hW3, hx3, hk3⟩
  clear hrec
  obtain ⟨hmem, D', hDd, hDk, hok'⟩ := ok.back s hsame hD3.ok hlen h64 hF hch hfl
  have hne : T.R.keeps (textOf ls) file s ≠ [] := fun e => by rw [e] at hmem; cases hmem
  clear hmem
  obtain ⟨hT3, hft3⟩ := hW3.get hi
  obtain ⟨bx, br, bd, fx0, fr0, fd0, hM3, hfe⟩ := hT3
  have hM3 : TwinM w3 bt T.D.doc T.R T.D.disk T.acts bx br bd fx0 fr0 fd0 := hM3
  have hfe : ft = twinFp bt fx0 fr0 fd0 := hfe
  have hbt : bt ∈ ft := by rw [hfe]; simp
  have hbl3 : bt < w3.heap.size := lt_of_heap hM3.cells
  have hrow3 := hrow.kept hk3 (fun x hx hx2 => by have := hvn x hx; have := hlt x hx2; omega)
  obtain ⟨hc, hf, hbl, hrl, hcj⟩ := hM3.reads
  have hcq : ∃ pq cq, w3.cell? ⟨br, 9, none⟩ = some (.slice pq T.R.last.length cq) := by
    obtain ⟨vl, va, vq, vs, fa, fq, hr, _⟩ := hM3.ref
    obtain ⟨pq, cq, hvq⟩ := hr.last.slice
    exact ⟨pq, cq, by rw [(cells_of hr.cells).1, ← hvq]; rfl⟩
  obtain ⟨pq, cq, hcq⟩ := hcq
  have hlp := List.length_pos_iff.2 hlast
  have hl0 : ¬ (T.R.last.length : Int) = 0 := by omega
  have hn1 : ¬ (n : Int) < 1 := by omega
  have hn2 : ¬ (n : Int) > 20 := by omega
  have htext := text_doc hD3
  have hqt : (DocS.readBack ls file n hh hdr.number).text = textOf ls := rfl
  rw [hqt] at htext
  generalize hq : DocS.readBack ls file n hh hdr.number = q at *
  have hrecd := fun w' fr' (hr : RefR w' br T.R fr') => recovered_ref hr ok.ref hN hLL ls hls file hfl s n _ rfl hne
  clear hlast hlp
  generalize textOf ls = tx at htext hrecd hll
  go_wp2_with fail
  refine htext.mono ?_
  rintro e w4 ⟨rfl, hk4⟩
  have hM4 := hM3.kept hk4 (fun _ _ h => h)
  clear htext hc hf hcj hcq
  obtain ⟨hc, hf, hbl, hrl, hcj⟩ := hM4.reads
  go_wp2_with fail
  refine (hrecd _ _ hM4.ref).mono ?_
  rintro e w5 ⟨B', fr', rfl, hR5, hfr5, hk5⟩
  have hM5 := hM4.kept hk5 (fun _ _ h => h)
  clear hc hf hcj hrecd
  obtain ⟨hc, hf, hbl, hrl, hcj⟩ := hM5.reads
  go_wp2_with fail
  have hk6 : Kept (fun x => x = bt) w5 ((w5.setCell ⟨bt, 0, none⟩ (ptrV B)).setCell ⟨bt, 1, none⟩ (ptrV B')) := Kept.cell1.step Kept.cell1
  have hb6 : ((w5.setCell ⟨bt, 0, none⟩ (ptrV B)).setCell ⟨bt, 1, none⟩ (ptrV B')).heap[bt]? = some (.cells (twinCells B B' bd T.acts) twinT (0, 0)) := by rw [heap_set_same (heap_set_same hM5.cells)]; simp
  generalize (w5.setCell ⟨bt, 0, none⟩ (ptrV B)).setCell ⟨bt, 1, none⟩ (ptrV B') = w6 at hk6 hb6 ⊢
  clear hc hf hcj
  have hs3 := hk1.size
  have hs4 := hk4.size
  have hs5 := hk5.size
  have hs6 := hk6.size
  have hrow6 := ((hrow3.kept hk4 (fun _ _ h => h)).kept hk5 (fun _ _ h => h)).kept hk6 (fun x hx e => by have := hvn x hx; have e : x = bt := e; have := hlt bt (hft bt hbt); omega)
  refine (of_any (by rw [hlen]; exact hrow6) hlen file).mono ?_
  rintro e w7 ⟨bd', fd', rfl, hK7, hfd7, hk7⟩
  have hb7 := hk7.get hb6 (fun h => h)
  obtain ⟨hc, hf⟩ := cells_of hb7
  have hbl7 := lt_of_heap hb7
  go_wp2
  go_ret
  have hk8 : Kept (fun x => x = bt) w7 ((w7.setCell ⟨bt, 2, none⟩ (ptrV bd')).setCell ⟨bt, 3, none⟩ (.int .i64 0)) := Kept.cell1.step Kept.cell1
  have hb8 : ((w7.setCell ⟨bt, 2, none⟩ (ptrV bd')).setCell ⟨bt, 3, none⟩ (.int .i64 0)).heap[bt]? = some (.cells (twinCells B B' bd' 0) twinT (0, 0)) := by rw [heap_set_same (heap_set_same hb7)]; simp
  generalize (w7.setCell ⟨bt, 2, none⟩ (ptrV bd')).setCell ⟨bt, 3, none⟩ (.int .i64 0) = w8 at hk8 hb8 ⊢
  have hkb : Kept (fun x => x = bt) w3 w8 := ((((hk4.step hk5).mono (T := fun x => x = bt) (fun _ h _ => h.elim)).step hk6).step (hk7.mono (fun _ h _ => h.elim))).step hk8
  have hk58 : Kept (fun x => x = bt) w5 w8 := (hk6.step (hk7.mono (fun _ h _ => h.elim))).step hk8
  have hfxb : bt ∉ fx := fun hx => (hfx bt hx).2 (hft3 bt hbt)
  have hlt3 := hW3.lt
  have hTM : TwinM w8 bt q (T.R.recovered ls file s n) (DiskS.of k.now file) 0 B B' bd' fx fr' fd' := by
    refine ⟨hb8, hD3.kept hkb (fun x hx e => hfxb (e ▸ hx)), hR5.kept hk58 (fun x hx e => by have := hfr5 x hx; have e : x = bt := e; omega), hK7.kept hk8 (fun x hx e => by have := hfd7 x hx; have e : x = bt := e; omega), ⟨hfxb, fun hx => by have := hfr5 _ hx; omega, fun hx => by have := hfd7 _ hx; omega⟩, fun x hx hx2 => ?_, fun x hx hx2 => ?_, fun x hx hx2 => ?_⟩
    · have := hD3.lt x hx; have := hfr5 x hx2; omega
    · have := hD3.lt x hx; have := hfd7 x hx2; omega
    · have := hR5.lt x hx; have := hfd7 x hx2; omega
  have hTR : TwinR w8 bt ⟨D', T.R.recovered ls file s n, 0⟩ (twinFp bt fx fr' fd') := ⟨B, B', bd', fx, fr', fd', by show TwinM w8 bt D'.doc _ D'.disk 0 _ _ _ _ _ _; rw [hDd, hDk]; exact hTM, rfl⟩
  obtain ⟨fp8, hW8, hx8⟩ := hW3.twin2 hi hTR (fun x hx => by
    simp only [twinFp, List.mem_cons, List.mem_append] at hx
    rcases hx with rfl | hx | hx | hx
    · exact .inl hbt
    · exact .inr (hfx x hx).2
    · exact .inr (fun hx2 => by have := hlt3 x hx2; have := hfr5 x hx; omega)
    · exact .inr (fun hx2 => by have := hlt3 x hx2; have := hfd7 x hx; omega)) (hkb.mono (fun x e _ => by have e : x = bt := e; show x ∈ ft; rw [e]; exact hbt))
  have hs13 := hk3.size
  refine ⟨rfl, _, _, hok', ⟨⟨fp8, hW8, fun x hx => ?_⟩, ((hk1.mono (T := fun x => x ∈ fp) (fun _ h _ => h.elim)).step hk3).step (hkb.mono (fun x e _ => by have e : x = bt := e; show x ∈ fp; rw [e]; exact hft bt hbt))⟩⟩
  rcases hx8 x hx with h3 | h3
  · rcases hx3 x h3 with h4 | h4
    · exact .inl h4
    · exact .inr (by omega)
  · simp only [twinFp, List.mem_cons, List.mem_append] at h3
    rcases h3 with rfl | h3 | h3 | h3
    · exact .inl (hft _ hbt)
    · have := (hfx x h3).1; exact .inr (by omega)
    · have := hfr5 x h3; exact .inr (by omega)
    · have := hfd7 x h3; exact .inr (by omega)
end Go.Proofs.YtdpfohgkikjeaaaGreat
