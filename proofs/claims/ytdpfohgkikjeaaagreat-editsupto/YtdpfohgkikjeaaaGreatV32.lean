/- Part 32 of the proof: see its parts. -/
import Derived.Test.YtdpfohgkikjeaaaGreatV16
import Derived.Test.YtdpfohgkikjeaaaGreatV29
import Derived.Test.YtdpfohgkikjeaaaGreatV30
import Derived.Test.YtdpfohgkikjeaaaGreatV31
/- The statements' own: begin. -/
namespace Go.Proofs.YtdpfohgkikjeaaaGreat
open Go.RowKit
set_option linter.unusedVariables false
set_option linter.unusedSimpArgs false

set_option maxRecDepth 100000 in
set_option maxHeartbeats 8000000 in
theorem begin_no {w : World} {b : Nat} {l : TwL} {M : Nat} {fp : List Nat} (h : WorldR w b l M fp) (kd on a : Int) (s : Str) (hs : s.length ≤ 1099511627776) (r : Value) (er : Nat) (her : er ≠ 0)
    (ho : ∀ w1, Calls Tryz.prog 36 #[sv s, .int .i64 a] w1 fun e w' => e = .returned (.tuple #[.pointer none, .int .i64 (er : Int)]) ∧ Kept no w1 w') (hr : ∀ w1, Calls Tryz.prog 87 #[sv s, .int .i64 a] w1 fun e w' => e = .returned (.tuple #[.pointer none, .int .i64 (er : Int)]) ∧ Kept no w1 w') :
    Calls Tryz.prog 61 #[ptrV b, .agg (opCells kd on a s r)] w fun e w' => e = .returned (.bool true) ∧ WorldTo w w' b fp l M := by
  have hsame := fun w' (k : Kept no w w') => WorldTo.same h k
  clear h
  go_enter Tryz.func61, Tryz.ntmps61
  go_upto_region 1 with fail
  obtain ⟨hn1, hsz1, hk1⟩ := new1 w (Obj.cells (opCells kd on a s r) opT)
  generalize hB3 : w.heap.size = B3 at hn1 ⊢
  generalize w.alloc (Obj.cells (opCells kd on a s r) opT) = w1 at hn1 hsz1 hk1 ⊢
  clear hsz1
  obtain ⟨hc, hf⟩ := cells_of hn1
  go_wp2_with fail
  refine (ho w1).mono ?_
  rintro e w2 ⟨rfl, hk2⟩
  have hn2 := hk2.get hn1 (fun h => h)
  clear hc hf
  obtain ⟨hc, hf⟩ := cells_of hn2
  go_wp2_with fail
  refine (hr w2).mono ?_
  rintro e w3 ⟨rfl, hk3⟩
  clear hc hf ho hr
  go_wp2_with fail
  refine (num_any _ w3).mono ?_
  rintro e w4 ⟨rfl, hw⟩
  rw [hw]
  clear hw
  go_wp2
  go_ret
  exact ⟨by simp, hsame _ ((hk1.step hk2).step hk3)⟩

set_option maxRecDepth 100000 in
set_option maxHeartbeats 8000000 in
theorem begin_yes {w : World} {b : Nat} {l : TwL} {M : Nat} {fp : List Nat} (h : WorldR w b l M fp) (hlen : l.length ≤ 1000000000) (kd on : Int) (ls : List Str) (hok : TextOk ls) (r : Value) (n : Nat) (h1 : 1 ≤ n) (h2 : n ≤ 20) {L : Nat} (hL : 2460 ≤ L) :
    Calls Tryz.prog 61 #[ptrV b, .agg (opCells kd on (n : Int) (textOf ls) r)] w fun e w' => e = .returned (.bool true) ∧ ∃ bT fpT, TwinS.Ok ⟨DeskS.first ls n, RefS.opened ls n, 0⟩ 1 L ∧ WorldTo w w' b fp (l ++ [(bT, ⟨DeskS.first ls n, RefS.opened ls n, 0⟩, fpT)]) M := by
  have hlt := h.lt
  have hopen := fun w1 => open_yes ls hok n _ rfl w1 h1 h2
  have hropen := fun w1 => open_ref_yes ls hok n _ rfl w1 h1 h2
  have hfresh := fun w1 => fresh_disk w1 (textOf ls)
  have hFirst := fun hd => TwinS.first (n := n) (L := L) hok hd hL
  have hdoc : (DeskS.first ls n).doc = (DocS.fresh ls (textOf ls) n).beginSync := rfl
  have hdisk : (DeskS.first ls n).disk = DiskS.of (List.replicate 400 blank) (textOf ls) := rfl
  generalize textOf ls = s at *
  go_enter Tryz.func61, Tryz.ntmps61
  go_upto_region 1 with fail
  obtain ⟨hn1, hsz1, hk1⟩ := new1 w (Obj.cells (opCells kd on (n : Int) s r) opT)
  generalize hB3 : w.heap.size = B3 at hn1 ⊢
  generalize w.alloc (Obj.cells (opCells kd on (n : Int) s r) opT) = w1 at hn1 hsz1 hk1 ⊢
  obtain ⟨hc, hf⟩ := cells_of hn1
  go_wp2_with fail
  refine (hopen w1).mono ?_
  rintro e w2 ⟨bx, fx, rfl, hD2, hfx, hk2⟩
  have hn2 := hk2.get hn1 (fun h => h)
  clear hc hf
  obtain ⟨hc, hf⟩ := cells_of hn2
  go_wp2_with fail
  refine (hropen w2).mono ?_
  rintro e w3 ⟨br, fr, rfl, hR3, hfr, hk3⟩
  have hn3 := hk3.get hn2 (fun h => h)
  clear hc hf hopen hropen
  obtain ⟨hc, hf⟩ := cells_of hn3
  go_wp2_with fail
  refine (num_any _ w3).mono ?_
  rintro e w4 ⟨rfl, hw⟩
  rw [hw]
  clear hw
  go_wp2_with fail
  refine (hfresh w3).mono ?_
  rintro e w4 ⟨bd, fd, rfl, hK4, hfd, hk4⟩
  clear hc hf hfresh hn1 hn2 hn3
  have hk04 : Kept no w w4 := ((hk1.step hk2).step hk3).step hk4
  have hs2 := hk2.size
  have hs3 := hk3.size
  have hs4 := hk4.size
  have hs1 := hk1.size
  have hW4 := h.kept hk04 (fun _ _ h => h)
  obtain ⟨ss, va, vs, lab, hM4, hm, rfl⟩ := hW4
  have hbl := lt_of_heap hM4.cells
  obtain ⟨hc, hf⟩ := cells_of hM4.cells
  go_wp2_with (at_builtin; apply hold)
  delta Hid
  obtain ⟨hn5, hsz5, hk5⟩ := new1 w4 (Obj.cells (twinCells bx br bd 0) twinT)
  have hw5 : w4.alloc (Obj.cells (twinCells bx br bd 0) twinT) = w4.alloc (Obj.cells #[ptrV bx, ptrV br, ptrV bd, .int .i64 0, .int .i64 0, .int .i64 0, .string ⟨#[]⟩] twinT) := rfl
  rw [← hw5]
  clear hw5
  generalize hBT : w4.heap.size = bT at hn5 hsz5 ⊢
  generalize w4.alloc (Obj.cells (twinCells bx br bd 0) twinT) = w5 at hn5 hsz5 hk5 ⊢
  obtain ⟨hn6, hsz6, hk6⟩ := new1 w5 (Obj.cells #[ptrV bT] 117)
  rw [hsz5] at hn6
  have hrow6 := hM4.all.kept (hk5.step hk6) (fun _ _ h => h)
  have hM6 := hM4.kept (hk5.step hk6) (fun _ _ h => h)
  clear hc hf
  have hk46 := hk5.step hk6
  have hT : TwinR (w5.alloc (Obj.cells #[ptrV bT] 117)) bT ⟨DeskS.first ls n, RefS.opened ls n, 0⟩ (twinFp bT fx fr fd) := by
    have hD6 := hD2.kept (((hk3.step hk4).step hk46)) (fun _ _ h => h)
    have hR6 := hR3.kept (hk4.step hk46) (fun _ _ h => h)
    have hK6 := hK4.kept hk46 (fun _ _ h => h)
    refine ⟨bx, br, bd, fx, fr, fd, ⟨hk6.get hn5 (fun h => h), by rw [hdoc]; exact hD6, hR6, by rw [hdisk]; exact hK6, ⟨fun hx => ?_, fun hx => ?_, fun hx => ?_⟩, fun x hx hx2 => ?_, fun x hx hx2 => ?_, fun x hx hx2 => ?_⟩, rfl⟩
    · have := hD2.lt _ hx; omega
    · have := hR3.lt _ hx; omega
    · have := hK4.lt _ hx; omega
    · have := hD2.lt x hx; have := hfr x hx2; omega
    · have := hD2.lt x hx; have := hfd x hx2; omega
    · have := hR3.lt x hx; have := hfd x hx2; omega
  refine wpList_push rfl _ _ 67 rfl tyTw va l.length (l.map fun t => ptrV t.1) rfl hrow6 _ 1 (ptrV bT) rfl (by rw [(cells_of hn6).1]; rfl) rfl (by decide) (by omega) (fun va' w7 hr7 hg7 => ?_)
  generalize w5.alloc (Obj.cells #[ptrV bT] 117) = w6 at *
  obtain ⟨hb7, ⟨lab', hM8⟩, hk8⟩ := hM6.pushT hT (fun x hx hx2 => by
    have := hlt x hx2
    simp only [twinFp, List.mem_cons, List.mem_append] at hx
    rcases hx with rfl | hx | hx | hx
    · omega
    · have := hfx x hx; omega
    · have := hfr x hx; omega
    · have := hfd x hx; omega) hr7 hg7
  obtain ⟨hc, hf⟩ := cells_of hb7
  have hbl7 := lt_of_heap hb7
  obtain ⟨p7, c7, hv7⟩ := hr7.slice
  have hsub : ∀ x ∈ fpv va', x ∈ fpv va ∨ w.heap.size ≤ x := fun x hx => by
    rcases hg7.2 x hx with h3 | h3
    · exact .inl h3
    · have := (hk04.step hk46).size; exact .inr (by omega)
  have hfin := hFirst hD2.ok
  have hkF : Kept (fun x => x ∈ worldFp b l ss va vs) w (w7.setCell ⟨b, 0, none⟩ va') := ((hk04.step hk46).mono (fun _ h _ => h.elim)).step hk8
  clear hg7 hr7 hM6 hrow6 hM4 hT hK4 hD2 hR3 hk8
  generalize l.length + 1 = m7 at hv7
  subst hv7
  go_wp2_with fail
  go_ret
  refine ⟨rfl, bT, _, hfin, ⟨⟨_, ⟨_, _, _, _, hM8, hm, rfl⟩, fun x hx => ?_⟩, hkF⟩⟩
  rcases mem_worldFp.1 hx with h3 | h3 | h3 | ⟨j, t, hj, h3⟩ | h3
  · exact .inl (mem_worldFp.2 (.inl h3))
  · rcases hsub x h3 with h4 | h4
    · exact .inl (mem_worldFp.2 (.inr (.inl h4)))
    · exact .inr h4
  · exact .inl (mem_worldFp.2 (.inr (.inr (.inl h3))))
  · rcases getElem?_snoc hj with hj | ⟨_, rfl⟩
    · exact .inl (mem_worldFp.2 (.inr (.inr (.inr (.inl ⟨j, t, hj, h3⟩)))))
    · simp only [twinFp, List.mem_cons, List.mem_append] at h3
      rcases h3 with rfl | h3 | h3 | h3
      · exact .inr (by omega)
      · have := hfx x h3; exact .inr (by omega)
      · have := hfr x h3; exact .inr (by omega)
      · have := hfd x h3; exact .inr (by omega)
  · exact .inl (mem_worldFp.2 (.inr (.inr (.inr (.inr h3)))))
end Go.Proofs.YtdpfohgkikjeaaaGreat
/- The statements' own: holds; bad. -/
namespace Go.Proofs.YtdpfohgkikjeaaaGreat
open Go.RowKit
set_option linter.unusedVariables false
set_option linter.unusedSimpArgs false

set_option maxRecDepth 100000 in
set_option maxHeartbeats 4000000 in
theorem holds_w {w : World} {b : Nat} {l : TwL} {M : Nat} {fp : List Nat} (h : WorldR w b l M fp) (hM : M ≤ 1000000000000) : Calls Tryz.prog 34 #[ptrV b] w fun e w' => e = .returned (.bool true) ∧ w' = w := by
  obtain ⟨ss, va, vs, lab, hW, hm, rfl⟩ := h
  obtain ⟨hc, hf⟩ := cells_of hW.cells
  obtain ⟨ps, cs, rfl⟩ := hW.swaps.slice
  have hat : ∀ j (hj : j < ss.length), ∃ g gi n c, ps = some ⟨g, 0, none⟩ ∧ ss.length ≤ cs ∧ w.cell? ⟨g, j, none⟩ = some (.slice (some ⟨gi, 0, none⟩) n c) ∧ n ≤ c ∧ c ≤ 9223372036854775807 ∧ n ≤ 1000 ∧ ∀ k, k < n → w.cell? ⟨gi, k, none⟩ = some (.string ⟨#[105, 110, 107]⟩) := fun j hj => by
    have hI := hW.inks j ss[j] (by simp [hj])
    obtain ⟨⟨c, hv, hc1, hc2⟩, hfew, _, hink⟩ := hI
    rcases hW.swaps.shape with ⟨_, h0, _⟩ | ⟨g, c', hv', hc', _⟩
    · omega
    · simp only [Value.slice.injEq] at hv'
      obtain ⟨rfl, _, rfl⟩ := hv'
      exact ⟨g, _, _, c, rfl, hc', by rw [hW.swaps.cell.2.2.2 j _ (by simp [hj]; rfl), hv], hc1, hc2, hfew, hink⟩
  clear hW
  have hmm : ss.length ≤ 1000000000000 := by omega
  generalize ss.length = m at *
  go_enter Tryz.func34, Tryz.ntmps34
  go_wp2_with fail
  go_loopw [3] (fun s3 wr => ∃ i : Nat, i ≤ m ∧ s3 = .int .i64 ((i : Nat) : Int) ∧ wr = w) (fun s3 _ => m - (intOf s3).toNat)
  case atStart => exact ⟨0, Nat.zero_le _, rfl, rfl⟩
  case round =>
    obtain ⟨i, hi, rfl, rfl⟩ := hrel
    by_cases hlt : i < m
    · obtain ⟨g, gi, n, c, rfl, hmc, hci, hnc, hcm, hn, hink⟩ := hat i hlt
      clear hat
      go_wp2_with fail
      go_loopw [4] (fun s4 wx => ∃ k : Nat, k ≤ n ∧ s4 = .int .i64 ((k : Nat) : Int) ∧ wx = wr) (fun s4 _ => n - (intOf s4).toNat)
      case atStart => exact ⟨0, Nat.zero_le _, rfl, rfl⟩
      case round =>
        obtain ⟨k, hk, rfl, rfl⟩ := hrel
        by_cases hlt2 : k < n
        · have hck := hink k hlt2
          clear hink
          go_wp2
          exact ⟨⟨k + 1, by omega, by go_num, trivial⟩, by simp [intOf]; omega⟩
        · obtain rfl : k = n := by omega
          clear hink
          go_wp2
          exact ⟨⟨i + 1, by omega, by go_num, trivial⟩, by simp [intOf]; omega⟩
    · obtain rfl : i = m := by omega
      go_wp2
      go_ret
      exact ⟨rfl, rfl⟩
end Go.Proofs.YtdpfohgkikjeaaaGreat
/- The statements' own: bad. -/
namespace Go.Proofs.YtdpfohgkikjeaaaGreat
open Go.RowKit
set_option linter.unusedVariables false
set_option linter.unusedSimpArgs false

set_option maxRecDepth 100000 in
set_option maxHeartbeats 8000000 in
theorem bad_w {w : World} {b : Nat} {l : TwL} {M : Nat} {fp : List Nat} (h : WorldR w b l M fp) (hM : M ≤ 1000000000000) (kd on a : Int) (hon : RawOk on) (ha : RawOk a) (s : Str) (hs : s.length ≤ 1099511627776) (r : Value) :
    Calls Tryz.prog 62 #[ptrV b, .agg (opCells kd on a s r)] w fun e w' => e = .returned (.bool true) ∧ WorldTo w w' b fp l (M + 1) := by
  have hpn := pickN_lt a (n := 402) (by decide)
  have hpk := pick_law a 402 402 rfl ha (by decide) (by decide)
  have hpo := pick_law on 400 400 rfl hon (by decide) (by decide)
  have hpon := pickN_lt on (n := 400) (by decide)
  have hlt := h.lt
  obtain ⟨bk, hbk⟩ : ∃ b, b = blank := ⟨_, rfl⟩
  have hbl : bk = zs 64 := by rw [hbk]; rfl
  obtain ⟨C, hC⟩ : ∃ C, C = (bcells (zs 64)).toArray := ⟨_, rfl⟩
  have hmk : ∀ u : World, (Instr.makeSlice 56 (.int .i64 64) (.int .i64 64)).run Tryz.prog u = .ok (.slice (some ⟨u.heap.size, 0, none⟩) 64 64) (u.alloc (.cells C 5)) := fun u => by
    rw [hC]; exact make_bytes 64 (by decide) u
  have hcv : ∀ w : World, (convert 56 9 (.slice (some ⟨w.heap.size, 0, none⟩) 64 64)).run Tryz.prog (w.alloc (.cells C 5)) = .ok (sv bk) (w.alloc (.cells C 5)) := fun w => by
    have hB : BytesAt (w.alloc (.cells C 5)) w.heap.size 0 bk := by
      rw [hbl, hC]; exact BytesAt.of_row heap_alloc_same (fun j v h => by simpa using h)
    have := run_bytes_str (P := Tryz.prog) _ _ 9 _ _ _ 64 _ Tryz.underlying56 Tryz.underlying5 Tryz.underlying9 hB
    have hl : bk.length = 64 := by rw [hbl]; exact zs_length 64
    rw [hl] at this
    exact this
  have hb64 : Hid (bk.length = 64) := by show _ = _; rw [hbl]; exact zs_length 64
  clear hbk hbl hC
  generalize hNN : pickN a 402 = n at *
  have hms := fun u => make_strs n (by omega) u
  clear hNN ha
  go_enter Tryz.func62, Tryz.ntmps62
  go_upto_region 1 with fail
  obtain ⟨hn1, hsz1, hk1⟩ := new1 w (Obj.cells (opCells kd on a s r) opT)
  generalize hB3 : w.heap.size = B3 at hn1 ⊢
  generalize w.alloc (Obj.cells (opCells kd on a s r) opT) = w1 at hn1 hsz1 hk1 ⊢
  clear hsz1
  have hs01 := hk1.size
  obtain ⟨hc, hf⟩ := cells_of hn1
  go_wp2_with fail
  refine (hpk w1).mono ?_
  rintro e w2 ⟨rfl, hw⟩
  rw [hw]
  clear hw hpk
  obtain ⟨hn2, hsz2, hk2⟩ := new1 w1 (Obj.cells (Array.replicate n (sv [])) 9)
  have hmsw := hms w1
  clear hms
  go_upto_region 3 with (simp only [hmsw])
  generalize hG : w1.heap.size = G at *
  generalize w1.alloc (Obj.cells (Array.replicate n (sv [])) 9) = w2 at hn2 hsz2 hk2 ⊢
  clear hmsw hc hf
  have hn2' : w2.heap[G]? = some (.cells (List.replicate n (sv [])).toArray 9 (0, 0)) := by rw [hn2]; simp
  have hB32 := hk2.get hn1 (fun h => h)
  have hGB : B3 ≠ G := by have := lt_of_heap hn1; omega
  have hk02 := hk1.step hk2
  clear hsz2
  go_wp2_with fail
  go_loopw [7] (fun s7 wr => ∃ (i : Nat) (cur : List Value), i ≤ n ∧ s7 = .int .i64 ((i : Nat) : Int) ∧ wr.heap[G]? = some (.cells cur.toArray 9 (0, 0)) ∧ cur.length = n ∧ (∀ j, j < i → cur[j]? = some (sv bk)) ∧ Kept (fun x => x = G) w2 wr) (fun s7 _ => n - (intOf s7).toNat)
  case atStart => exact ⟨0, _, Nat.zero_le _, rfl, hn2', by simp, fun j hj => by omega, Kept.refl _ _⟩
  case round =>
    obtain ⟨i, cur, hi, rfl, hbc, hcl, hink, hkx⟩ := hrel
    by_cases hlt2 : i < n
    · have hGx := lt_of_heap hbc
      have hmkr := hmk wr
      have hcvr := hcv wr
      obtain ⟨hcc, hff⟩ := cells_of hbc
      have hck : wr.cell? ⟨G, i, none⟩ = some cur[i] := by rw [hcc, List.getElem?_toArray]; simp [hcl, hlt2]
      generalize cur[i] = u0 at hck
      clear hmk hcv hcc
      go_wp2_with fail
      refine ⟨⟨i + 1, cur.set i (sv bk), by omega, by go_num, by rw [heap_alloc_lt (by simpa using hGx), heap_set_same hbc]; simp, by simp [hcl], fun j hj => ?_, (hkx.step Kept.cell1).alloc _⟩, by simp [intOf]; omega⟩
      by_cases e : i = j
      · subst e
        rw [List.getElem?_set_self (by omega)]
      · rw [List.getElem?_set_ne e]
        exact hink j (by omega)
    · obtain rfl : i = n := by omega
      have hcur : cur = List.replicate i (sv bk) := by
        apply List.ext_getElem?
        intro j
        by_cases hj : j < i
        · rw [hink j hj, List.getElem?_replicate, if_pos hj]
        · rw [List.getElem?_eq_none (by omega), List.getElem?_eq_none (by simp; omega)]
      subst hcur
      clear hink hcl hmk hcv
      have hB3r := hkx.get hB32 hGB
      have hkW : Kept no w wr := hk02.step' hkx (fun x e hlt' => by have e : x = G := e; have := lt_of_heap hn2; omega)
      have hWr := h.kept hkW (fun _ _ h => h)
      have hGfp : G ∉ fp := fun hx => by have := hlt G hx; omega
      obtain ⟨hcB, hfB⟩ := cells_of hB3r
      obtain ⟨hcG, hfG⟩ := cells_of hbc
      have hGl := lt_of_heap hbc
      have hfin : ∀ w9, WorldTo wr w9 b fp l (M + 1) → WorldTo w w9 b fp l (M + 1) := fun w9 hh => hh.after hkW
      by_cases h400 : i = 400
      · subst h400
        have hpw := hpo wr
        generalize pickN on 400 = kk at hpw hpon
        have hcu : wr.cell? ⟨G, kk, none⟩ = some (sv bk) := by rw [hcG, List.getElem?_toArray, List.getElem?_replicate, if_pos hpon]
        have hb1 : (wr.setCell ⟨G, kk, none⟩ (sv s)).heap[G]? = some (.cells (((List.replicate 400 bk).set kk s).map sv).toArray 9 (0, 0)) := by
          rw [heap_set_same hbc]; simp [List.map_set]
        have hkS : Kept no w (wr.setCell ⟨G, kk, none⟩ (sv s)) := hkW.setNew (p := ⟨G, kk, none⟩) (by show w.heap.size ≤ G; omega) _
        have hk1' : Kept (fun x => x = G) wr (wr.setCell ⟨G, kk, none⟩ (sv s)) := Kept.cell1
        have hBs := hk1'.get hB3r hGB
        clear hcG hpo
        go_wp2_with fail
        refine hpw.mono ?_
        rintro e w5 ⟨rfl, hw⟩
        rw [hw]
        clear hw hpw
        go_upto_region 10 with fail
        generalize wr.setCell ⟨G, kk, none⟩ (sv s) = w6 at hb1 hkS hBs ⊢
        clear hcB hfB hcu hfG
        obtain ⟨hcB, hfB⟩ := cells_of hBs
        by_cases h64 : s.length = 64
        · have h64i : (s.length : Int) = 64 := by omega
          clear h64
          go_wp2
          go_ret
          exact ⟨rfl, (WorldTo.same h hkS).mono (Nat.le_succ M)⟩
        · have h64i : ¬ (s.length : Int) = 64 := by omega
          have hl400 : ((List.replicate 400 bk).set kk s).length = 400 := by simp
          have hbad : ∃ x ∈ (List.replicate 400 bk).set kk s, ¬ x.length = 64 := ⟨s, List.mem_of_getElem? (List.getElem?_set_self (l := List.replicate 400 bk) (i := kk) (by simpa using hpon)), h64⟩
          generalize (List.replicate 400 bk).set kk s = secs at hb1 hl400 hbad
          have hrow : Row w6 9 1 (.slice (some ⟨G, 0, none⟩) secs.length 400) secs.length (secs.map sv) := ⟨by simp, .inr ⟨G, 400, _, rfl, Nat.zero_le _, hb1, by omega, by decide, by simp [hl400], by rw [List.toList_toArray, Nat.mul_one]; exact List.take_of_length_le (by simp)⟩⟩
          have hW6 := h.kept hkS (fun _ _ h => h)
          have hrec := recover_w hW6 hM G 400 secs hrow hGfp (by omega) s 1 PArg (fun _ _ _ _ _ _ _ h _ _ => h) (fun w8 v8 hk8 hr8 => (recover_arg v8 secs s 1 w8 hr8 (.inr (.inr (fun hh => by obtain ⟨x, hx, hx2⟩ := hbad; exact hx2 (hh.2 x hx))))).mono (fun e w9 ⟨he, hw⟩ => by subst he; subst hw; exact ⟨_, _, _, [], rfl, ⟨rfl, rfl, rfl, rfl⟩, by simp, Kept.refl _ _⟩))
          rw [hl400] at hrec
          clear h64 hl400 hbad
          go_wp2_with fail
          refine hrec.mono ?_
          rintro e w9 ⟨px, same, er, fx, fp', rfl, ⟨rfl, rfl, rfl, rfl⟩, _, hW9, hx9, hk9⟩
          clear hcB hfB hrec
          go_wp2_with fail
          refine (num_any 1 w9).mono ?_
          rintro e w10 ⟨rfl, hw⟩
          rw [hw]
          clear hw
          go_wp2
          go_ret
          exact ⟨rfl, WorldTo.after ⟨⟨_, hW9, hx9⟩, hk9⟩ hkS⟩
      · have h400i : ¬ (i : Int) = 400 := by omega
        have hrow : Row wr 9 1 (.slice (some ⟨G, 0, none⟩) (List.replicate i bk).length i) (List.replicate i bk).length ((List.replicate i bk).map sv) := ⟨by simp, .inr ⟨G, i, _, by simp, Nat.zero_le _, hbc, by simp, by unfold maxLen; omega, by simp, by simp⟩⟩
        have hrec := recover_w hWr hM G i (List.replicate i bk) hrow hGfp (by simp; omega) s 1 PArg (fun _ _ _ _ _ _ _ h _ _ => h) (fun w8 v8 hk8 hr8 => (recover_arg v8 (List.replicate i bk) s 1 w8 hr8 (.inr (.inr (fun hh => h400 (by simpa using hh.1))))).mono (fun e w9 ⟨he, hw⟩ => by subst he; subst hw; exact ⟨_, _, _, [], rfl, ⟨rfl, rfl, rfl, rfl⟩, by simp, Kept.refl _ _⟩))
        rw [List.length_replicate] at hrec
        clear hcG hfG
        go_wp2_with fail
        refine hrec.mono ?_
        rintro e w9 ⟨px, same, er, fx, fp', rfl, ⟨rfl, rfl, rfl, rfl⟩, _, hW9, hx9, hk9⟩
        clear hcB hfB hrec
        go_wp2_with fail
        refine (num_any 1 w9).mono ?_
        rintro e w10 ⟨rfl, hw⟩
        rw [hw]
        clear hw
        go_wp2
        go_ret
        exact ⟨rfl, hfin _ ⟨⟨_, hW9, hx9⟩, hk9⟩⟩
end Go.Proofs.YtdpfohgkikjeaaaGreat
/- The statements' own: done, where there is no job; what the other ways share. -/
namespace Go.Proofs.YtdpfohgkikjeaaaGreat
open Go.RowKit
set_option linter.unusedVariables false
set_option linter.unusedSimpArgs false

theorem done_idle_doc {w b d fp} (h : DocR w b d fp) (hk : d.kind = 0) (t : Bool) : Calls Tryz.prog 45 #[.pointer (some ⟨b, 0, none⟩), .bool t] w fun e w' => e = .returned (.int .i64 6) ∧ w' = w := by
  obtain ⟨va, tfp, afp, h, rfl⟩ := h
  exact done_idle h hk t

/-- What an act leaves of a twin, part by part. -/
theorem step_parts {T : TwinS} {a : PAct} {A : List PAct} {good all : Bool} (hk : T.D.doc.kind ≠ 0) (ha : T.D.doc.acts = a :: A) : ∃ S, T.step good all = S ∧ S.D.doc = T.D.doc.done good ∧ S.D.disk = (if good || all then T.D.disk.act a else T.D.disk) ∧
    ((T.D.doc.done good).kind ≠ 0 → S.R = T.R.tick good ∧ S.acts = T.acts + 1) ∧ ((T.D.doc.done good).kind = 0 → S.R = (T.R.tick good).over good ∧ S.acts = 0) := by
  have h1 : (T.D.step good all).doc = T.D.doc.done good := by unfold DeskS.step; rw [ha]
  have h2 : (T.D.step good all).disk = if good || all then T.D.disk.act a else T.D.disk := by unfold DeskS.step; rw [ha]
  refine ⟨_, rfl, ?_, ?_, fun h => ?_, fun h => ?_⟩
  · unfold TwinS.step; split <;> exact h1
  · unfold TwinS.step; split <;> exact h2
  · unfold TwinS.step; rw [if_neg (by rw [h1]; exact h)]; exact ⟨rfl, rfl⟩
  · unfold TwinS.step; rw [if_pos (by rw [h1]; exact h)]; exact ⟨rfl, rfl⟩

theorem tick_1 {r : RefS} (h : r.job = 1) (g : Bool) : r.tick g = r := by unfold RefS.tick; rw [if_neg (by omega)]
theorem tick_f (r : RefS) : r.tick false = r := by unfold RefS.tick; rw [if_neg (by simp)]
theorem tick_2 {r : RefS} (h : r.job = 2) {a : PAct} {A : List PAct} (ha : r.acts = a :: A) : r.tick true = { r with acts := A } := by unfold RefS.tick; rw [if_pos ⟨h, rfl⟩, ha]; rfl

/-- What act answers of a job. -/
theorem act_t {T : TwinS} {N L : Nat} (ok : T.Ok N L) {a : PAct} {A : List PAct} (ha : T.D.doc.acts = a :: A) (w : World) (b bx br bd : Nat) (fx fr fd : List Nat) {n : Nat} {d : DocS} {k : DiskS} (h : TwinM w b d T.R k n bx br bd fx fr fd) :
    Calls Tryz.prog 70 #[ptrV b, a.val, .bool true] w fun e w' => e = .returned (.bool true) ∧ Kept no w w' := by
  have hk : T.D.doc.kind ≠ 0 := ok.ok.doc.acts.2 (by rw [ha]; simp)
  have hk2 := ok.ok.doc.kind
  have hj := ok.beside.job
  have hr := (ok.ok.step ha true true).1
  have hf := ok.ok.few
  rcases (by omega : T.D.doc.kind = 1 ∨ T.D.doc.kind = 2) with e | e
  · refine act_t_sync h (by omega) a hr ?_
    rcases (ok.ok.syncAct e ha).1 with h1 | h1
    · rw [h1]; exact .inr rfl
    · exact .inl h1.1
  · have hA := ok.beside.acts e
    exact act_t_save h (by omega) a A (by rw [hA, ha]) (by rw [hA]; omega)

/-- The row of the acts of a Save loses its first. -/
theorem RefAt.ticked {w : World} {b : Nat} {r : RefS} {vl va vq vs : Value} {fa fq : List Nat} (h : RefAt w b r vl va vq vs fa fq) {a : PAct} {A : List PAct} (ha : r.acts = a :: A) :
    ∃ g o c, va = .slice (some ⟨g, o, none⟩) (A.length + 1) c ∧ A.length + 1 ≤ c ∧ c ≤ 9223372036854775807 ∧ ∀ w' : World, w'.heap = w.heap → ∀ va', (va' = .slice (some ⟨g, o + 3, none⟩) A.length (c - 1) ∨ (c = 1 ∧ va' = .slice (some ⟨g, o, none⟩) A.length 0)) →
      RefTo w' (w'.setCell ⟨b, 7, none⟩ va') b (refFp b vl fa fq vs) { r with acts := A } := by
  have hS := h.acts
  rw [ha] at hS
  rcases hS with ⟨_, h0, _⟩ | ⟨g, o, c, rfl, h1, h2, hfa, hgl, hcl⟩
  · simp at h0
  rw [List.length_cons] at h1
  refine ⟨g, o, c, by rw [List.length_cons], h1, h2, fun w' hw va' hva => ?_⟩
  obtain ⟨⟨a1, a2, a3, a4⟩, ⟨b1, b2, b3⟩, ⟨c1, c2⟩, d1⟩ := h.ap
  have hb : w'.heap[b]? = some (.cells (refCells r vl (.slice (some ⟨g, o, none⟩) (a :: A).length c) vq vs) refT (0, 0)) := by rw [hw]; exact h.cells
  have hk0 : Kept no { w' with os := w.os, tape := w.tape, output := w.output } w' → True := fun _ => trivial
  have hcell : ∀ q, w'.cell? q = w.cell? q := fun q => by unfold World.cell?; rw [hw]
  have hk : Kept (fun x => x = b) w' (w'.setCell ⟨b, 7, none⟩ va') := Kept.cell1
  have hA : Seen w' va' A.length (actsCells A) fa := by
    rcases hva with rfl | ⟨rfl, rfl⟩
    · refine .inr ⟨g, o + 3, c - 1, rfl, by omega, by omega, hfa, by rw [hw]; exact hgl, fun j u hu => ?_⟩
      rw [hcell, show o + 3 + j = o + (3 + j) by omega]
      refine hcl (3 + j) u ?_
      have e : actsCells (a :: A) = actCells a ++ actsCells A := rfl
      rw [e, List.getElem?_append_right (by show 3 ≤ 3 + j; omega), show 3 + j - (actCells a).length = j by show 3 + j - 3 = j; omega]
      exact hu
    · have : A = [] := List.eq_nil_of_length_eq_zero (by omega)
      subst this
      exact .inr ⟨g, o, 0, rfl, Nat.le_refl _, by decide, hfa, by rw [hw]; exact hgl, fun j u hu => by simp [actsCells] at hu⟩
  have hrow : ∀ {e : TypeId} {size n : Nat} {v : Value} {xs : List Value}, Row w e size v n xs → Row w' e size v n xs := fun {e size n v xs} hr => by
    refine ⟨hr.1, ?_⟩
    rcases hr.2 with h0 | ⟨g', cap, cur, hv, hg, hh, hr'⟩
    · exact .inl h0
    · exact .inr ⟨g', cap, cur, hv, hg, by rw [hw]; exact hh, hr'⟩
  have hseen : ∀ {v : Value} {n : Nat} {cs : List Value} {fp : List Nat}, Seen w v n cs fp → Seen w' v n cs fp := fun {v n cs fp} hs => by
    rcases hs with h0 | ⟨g', o', c', hv, q1, q2, q3, q4, q5⟩
    · exact .inl h0
    · exact .inr ⟨g', o', c', hv, q1, q2, q3, by rw [hw]; exact q4, fun j u hu => by rw [hcell]; exact q5 j u hu⟩
  refine .of_at (vl := vl) (va := va') (vq := vq) (vs := vs) (fa := fa) (fq := fq) ⟨?_, (hrow h.lines).kept hk (fun x hx e => a1 (e ▸ hx)), hA.kept hk (fun x hx e => a2 (e ▸ hx)), (hseen h.last).kept hk (fun x hx e => a3 (e ▸ hx)), (hrow h.since).kept hk (fun x hx e => a4 (e ▸ hx)), h.apart⟩ (fun x hx => .inl hx) (hk.mono (fun x e _ => by have e : x = b := e; show x ∈ refFp b vl fa fq vs; simp [e]))
  rw [heap_set_same hb]; simp

set_option maxRecDepth 100000 in
set_option maxHeartbeats 4000000 in
theorem done_t_no {w : World} {b : Nat} {T : TwinS} {fp : List Nat} {N L : Nat} (h : TwinR w b T fp) (ok : T.Ok N L) (hk : T.D.doc.kind = 0) (good all : Bool) :
    Calls Tryz.prog 67 #[ptrV b, .bool good, .bool all] w fun e w' => e = .returned (.bool true) ∧ TwinTo w w' b fp T := by
  have h0 := h
  obtain ⟨bx, br, bd, fx, fr, fd, hM, rfl⟩ := h
  have hj : T.R.job = 0 := by rw [ok.beside.job]; exact hk
  obtain ⟨hc0, hf0, hbl0, hrl0, hj0⟩ := hM.reads
  have hactD := act_doc_no hM.doc hk
  have hsame := fun w' (k : Kept no w w') => TwinTo.same h0 k
  clear h0
  go_enter Tryz.func67, Tryz.ntmps67
  go_wp2_with fail
  refine hactD.mono ?_
  rintro e w1 ⟨rfl, hk1⟩
  have hM1 := hM.kept hk1 (fun _ _ h => h)
  obtain ⟨hc1, hf1, hbl1, hrl1, hj1⟩ := hM1.reads
  clear hc0 hf0 hj0 hactD
  go_wp2_with fail
  obtain ⟨hn2, hsz2, hk2⟩ := new1 w1 (Obj.cells #[.int .i64 0, .int .i64 0, .string ⟨#[]⟩] actT)
  have hM2 := hM1.kept hk2 (fun _ _ h => h)
  have hk02 := hk1.step hk2
  generalize hB7 : w1.heap.size = B7 at hn2 hsz2 ⊢
  generalize w1.alloc (Obj.cells #[.int .i64 0, .int .i64 0, .string ⟨#[]⟩] actT) = w2 at hn2 hsz2 hk2 hM2 hk02 ⊢
  clear hc1 hf1 hj1
  refine (act_t_no hM2 hj).mono ?_
  rintro e w3 ⟨rfl, hk3⟩
  have hM3 := hM2.kept hk3 (fun _ _ h => h)
  obtain ⟨hc3, hf3, hbl3, hrl3, hj3⟩ := hM3.reads
  go_wp2_with fail
  refine (done_idle_doc hM3.doc hk good).mono ?_
  rintro e w4 ⟨rfl, hw⟩
  rw [hw]
  clear hw
  go_wp2_with fail
  refine (num_any 6 w3).mono ?_
  rintro e w4 ⟨rfl, hw⟩
  rw [hw]
  clear hw
  go_wp2
  go_ret
  exact ⟨rfl, hsame _ (hk02.step hk3)⟩
end Go.Proofs.YtdpfohgkikjeaaaGreat
