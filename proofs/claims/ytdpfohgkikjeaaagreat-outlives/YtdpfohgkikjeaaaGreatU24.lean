/- Part 24 of the proof: see its parts. -/
import Derived.Test.YtdpfohgkikjeaaaGreatU10
import Derived.Test.YtdpfohgkikjeaaaGreatU23
/- begin. -/
namespace Go.Proofs.YtdpfohgkikjeaaaGreat
open Go.RowKit
set_option linter.unusedVariables false
set_option linter.unusedSimpArgs false

theorem text_doc {w b d fp} (h : DocR w b d fp) : Calls Tryz.prog 22 #[.pointer (some ⟨b, 0, none⟩)] w fun e w' => e = .returned (sv d.text) ∧ Kept no w w' := by
  obtain ⟨va, tfp, afp, h, rfl⟩ := h
  exact text_any h.tree (by have := h.ok.text.few; omega) (fun l hl => by have := (h.ok.text.lines l hl).1; omega)

/-- A desk as it begins. -/
def DeskS.first (ls : List Str) (n : Nat) : DeskS := ⟨(DocS.fresh ls (textOf ls) n).beginSync, DiskS.of (List.replicate 400 blank) (textOf ls), [(textOf ls, markOf (textOf ls))], [textOf ls], 0, [textOf ls], [textOf ls]⟩

theorem first_ok {ls : List Str} {n : Nat} (h : TextOk ls) (hd : (DocS.fresh ls (textOf ls) n).beginSync.Ok) : (DeskS.first ls n).Ok 1 2460 := by
  have hl := h.length
  have hlens : (DiskS.of (List.replicate 400 blank) (textOf ls)).Lens 1 2460 := by
    refine ⟨by show (List.map _ (List.replicate 400 blank)).length = 400; rw [List.length_map, List.length_replicate], fun r hr => ?_, fun r hr => ?_, fun r hr s hs => ?_, hl, Nat.zero_le _, Nat.zero_le _, fun e => (by cases e), Nat.zero_le _⟩
    all_goals
      obtain ⟨x, hx, rfl⟩ := List.mem_map.1 hr
      have hx := List.eq_of_mem_replicate hx
      subst hx
    · simp
    · simp
    · simp only [List.mem_cons, List.not_mem_nil, or_false] at hs
      rw [hs]; exact blank_length
  have e : (DocS.fresh ls (textOf ls) n).beginSync.acts = (⟨false, false, 0, 0⟩ : Wr).acts (textOf ls) (markOf (textOf ls)) := rfl
  refine ⟨hd, hlens, ⟨[], markOf [], ⟨Sized.of_lens hlens, Nat.zero_le 1, (by decide : (0 : Nat) < 18446744073709551616), fun hk => (by cases hk)⟩⟩, Nat.le_refl _, Nat.le_refl _, ⟨List.mem_singleton.2 rfl, fun e => (by cases e)⟩, fun _ => ⟨prog_start _ _ _ _, rfl⟩, fun e => (by cases e), Nat.zero_le _, Nat.zero_le _, Nat.le_refl _, Nat.le_refl _, ?_, (by intro e; cases e), Nat.le_refl _, (by intro e; cases e), Nat.le_refl _⟩
  show (DocS.fresh ls (textOf ls) n).beginSync.acts.length ≤ 100
  rw [e]
  have := acts_length ⟨false, false, 0, 0⟩ (markOf (textOf ls)) hl
  omega

/-- What holds of a desk whose first sync was done. -/
structure Begun (D : DeskS) (ls : List Str) (n : Nat) : Prop where
  ok : D.Ok 501 2460
  kind : D.doc.kind = 0
  lines : D.doc.lines = ls
  every : D.doc.every = n
  counted : D.doc.counted = 0
  edits : D.doc.edits = 0
  known : D.doc.wr.known = true
  ch : D.ch = [(textOf ls, markOf (textOf ls))]
  files : D.files = [textOf ls]
  mf : D.mf = [textOf ls]
  mt : D.mt = [textOf ls]
  most : D.most = 0
  mark : D.doc.file = markOf (textOf ls)

theorem first_begun {ls : List Str} {n : Nat} (h : TextOk ls) (hd : (DocS.fresh ls (textOf ls) n).beginSync.Ok) : Begun ((DeskS.first ls n).work 500 0 (-1) false) ls n := by
  have ok := first_ok h hd
  have hok := DeskS.Ok.work (fail := -1) (all := false) 500 0 ok
  have hlen : (DeskS.first ls n).doc.acts.length ≤ 100 := ok.few
  have hw := work_all (fail := -1) (all := false) 500 0 (DeskS.first ls n) (show (1 : Nat) ≠ 0 by decide) (ok.doc.acts.1 (show (1 : Nat) ≠ 0 by decide)) (by omega) (.inl (by decide))
  have hs : (DeskS.first ls n).doc.succeeded = { (DeskS.first ls n).doc with kind := 0, acts := [], wr := (DeskS.first ls n).doc.wr.written, edits := 0 } := by
    unfold DocS.succeeded
    exact if_neg (by show ¬ (1 : Nat) = 2; decide)
  rw [hs] at hw
  rw [hw] at hok ⊢
  exact ⟨hok, rfl, rfl, rfl, rfl, rfl, rfl, rfl, rfl, rfl, rfl, rfl, rfl⟩

set_option maxRecDepth 100000 in
set_option maxHeartbeats 4000000 in
theorem begin_any {w : World} {B : Nat} {v : Value} {raw : List Int} (hr : IntsAt w B v raw) (c : Int) (hc : RawOk c) :
    Calls Tryz.prog 12 #[v, .int .i64 c] w fun e w' => ∃ b bx bd fp D, e = .returned (.tuple #[.pointer (some ⟨b, 0, none⟩), .bool true]) ∧ DeskR w' b bx bd D fp ∧ Begun D (linesN raw) (1 + pickN c 20) ∧ (∀ x ∈ fp, w.heap.size ≤ x) ∧ Kept no w w' := by
  have hlo := linesN_ok raw
  have hp := pickN_lt c (n := 20) (by decide)
  go_enter Tryz.func12, Tryz.ntmps12
  go_wp2_with fail
  refine (file_any hr).mono ?_
  rintro e w1 ⟨rfl, hk1⟩
  go_wp2_with fail
  refine (pick_keep c 20 20 rfl hc (by decide) (by decide) w1).mono ?_
  rintro e w2 ⟨rfl, hw⟩
  rw [hw]
  clear hw
  generalize hpe : pickN c 20 = p at hp ⊢
  have HP : Hid (pickN c 20 = p) := hpe
  clear hpe
  generalize hle : linesN raw = ls at hlo ⊢
  have HLE : Hid (linesN raw = ls) := hle
  clear hle
  go_wp2_with fail
  refine (open_yes ls hlo (1 + p) _ (by omega) w1 (by omega) (by omega)).mono ?_
  rintro e w2 ⟨bx, fx, rfl, hD, hfx, hk2⟩
  go_wp2_with fail
  refine (fresh_disk w2 (textOf ls)).mono ?_
  rintro e w3 ⟨bd, fd, rfl, hK, hfd, hk3⟩
  have hD3 := hD.kept hk3 (fun _ _ h => h)
  have htl := hlo.length
  have hdok := hD.ok
  generalize hs : textOf ls = s at *
  go_wp2_with fail
  obtain ⟨hn4, hsz4, hk4⟩ := new1 w3 (Obj.cells #[sv s] strT)
  generalize hG : w3.heap.size = G at hn4 hsz4 ⊢
  generalize w3.alloc (Obj.cells #[sv s] strT) = w4 at hn4 hsz4 hk4 ⊢
  obtain ⟨hn5, hsz5, hk5⟩ := new1 w4 (Obj.cells #[sv s] strT)
  have hn4' := hk5.get hn4 (fun h => h)
  rw [hsz4] at hn5 hsz5
  generalize w4.alloc (Obj.cells #[sv s] strT) = w5 at hn5 hsz5 hk5 hn4' ⊢
  obtain ⟨hn6, hsz6, hk6⟩ := new1 w5 (Obj.cells #[.pointer (some ⟨bx, 0, none⟩), .pointer (some ⟨bd, 0, none⟩), .slice (some ⟨G, 0, none⟩) 1 1, .slice (some ⟨G + 1, 0, none⟩) 1 1, sv s, .int .i64 (1 + (p : Int)), .int .i64 0, .int .i64 0] deskT)
  have hn46 := hk6.get hn4' (fun h => h)
  have hn56 := hk6.get hn5 (fun h => h)
  rw [hsz5] at hn6
  generalize w5.alloc (Obj.cells #[.pointer (some ⟨bx, 0, none⟩), .pointer (some ⟨bd, 0, none⟩), .slice (some ⟨G, 0, none⟩) 1 1, .slice (some ⟨G + 1, 0, none⟩) 1 1, sv s, .int .i64 (1 + (p : Int)), .int .i64 0, .int .i64 0] deskT) = w6 at hn6 hsz6 hk6 hn46 hn56 ⊢
  have hk36 := (hk4.step hk5).step hk6
  have hD6 := hD3.kept hk36 (fun _ _ h => h)
  have hK6 := hK.kept hk36 (fun _ _ h => h)
  have hkw6 : Kept no w w6 := ((hk1.step hk2).step hk3).step hk36
  have hs1 := hk1.size
  have hs2 := hk2.size
  have hs3 := hk3.size
  have hfxl := hD.lt
  have hfdl := hK.lt
  have hone : ∀ g, w6.heap[g]? = some (.cells #[sv s] strT (0, 0)) → TextsAt w6 (.slice (some ⟨g, 0, none⟩) 1 1) [s] [g] := fun g hg => .inr ⟨g, 0, 1, #[sv s], rfl, rfl, hg, Nat.le_refl _, by unfold maxLen; decide, Nat.le_refl _, fun j x hx => by
    match j, hx with
    | 0, hx => simp at hx; subst hx; rfl⟩
  have hM : DeskM w6 (G + 1 + 1) (DeskS.first ls (1 + p)).doc (DeskS.first ls (1 + p)).disk (DeskS.first ls (1 + p)).mt (DeskS.first ls (1 + p)).mf ⟨(DeskS.first ls (1 + p)).doc.text, (DeskS.first ls (1 + p)).doc.every, (DeskS.first ls (1 + p)).doc.counted, (DeskS.first ls (1 + p)).most⟩ bx bd (.slice (some ⟨G, 0, none⟩) 1 1) (.slice (some ⟨G + 1, 0, none⟩) 1 1) fx fd [G] [G + 1] := by
    refine ⟨?_, ?_, ?_, ?_, ?_, ?_⟩
    · rw [hn6]
      show some _ = some (Obj.cells #[_, _, _, _, sv (textOf ls), Value.int .i64 ((1 + p : Nat) : Int), Value.int .i64 ((0 : Nat) : Int), Value.int .i64 ((0 : Nat) : Int)] deskT (0, 0))
      rw [hs]
      have e : ((1 + p : Nat) : Int) = 1 + (p : Int) := by omega
      rw [e]
      rfl
    · show DocR w6 bx (DocS.fresh ls (textOf ls) (1 + p)).beginSync fx
      rw [hs]; exact hD6
    · show DiskR w6 bd (DiskS.of (List.replicate 400 blank) (textOf ls)) fd
      rw [hs]; exact hK6
    · show TextsAt w6 _ [textOf ls] [G]
      rw [hs]; exact hone G hn46
    · show TextsAt w6 _ [textOf ls] [G + 1]
      rw [hs]; exact hone (G + 1) hn56
    · refine apart_mk ⟨fun hx => ?_, fun hx => ?_, fun h => by have := List.mem_singleton.1 h; omega, fun h => by have := List.mem_singleton.1 h; omega⟩ ⟨fun x hx hx2 => ?_, fun x hx hx2 => ?_, fun x hx hx2 => ?_⟩ ⟨fun x hx hx2 => ?_, fun x hx hx2 => ?_⟩ (by simp)
      · have := hfxl _ hx; omega
      · have := hfdl _ hx; omega
      · have := hfxl x hx; have := hfd x hx2; omega
      · have := hfxl x hx; simp at hx2; omega
      · have := hfxl x hx; simp at hx2; omega
      · have := hfdl x hx; simp at hx2; omega
      · have := hfdl x hx; simp at hx2; omega
  have hR : DeskR w6 (G + 1 + 1) bx bd (DeskS.first ls (1 + p)) (deskFp (G + 1 + 1) fx fd [G] [G + 1]) := ⟨_, _, _, _, _, _, hM, rfl⟩
  have hdok' : (DocS.fresh ls (textOf ls) (1 + p)).beginSync.Ok := by rw [hs]; exact hdok
  have hbeg := first_begun hlo hdok'
  have hfok := first_ok hlo hdok'
  refine (work_any hR hfok 500 500 (-1) 0 0 rfl rfl (by decide) (by decide) (by decide) (by decide) (by decide) (by decide)).mono ?_
  rintro e w7 ⟨rfl, hT⟩
  rw [show decide (0 % 2 ≠ 0) = false from rfl] at hT
  generalize (DeskS.first ls (1 + p)).work 500 0 (-1) false = D at hT hbeg
  obtain ⟨⟨fp7, ⟨vt, vf, fx7, fd7, ft7, ff7, hM7, rfl⟩, hx7⟩, hk7⟩ := hT
  have hfin : ∀ w', Kept no w7 w' → ∃ b' bx' bd' fp' D', Ending.returned (.tuple #[.pointer (some ⟨G + 1 + 1, 0, none⟩), .bool true]) = .returned (.tuple #[.pointer (some ⟨b', 0, none⟩), .bool true]) ∧ DeskR w' b' bx' bd' D' fp' ∧ Begun D' ls (1 + p) ∧ (∀ x ∈ fp', w.heap.size ≤ x) ∧ Kept no w w' := fun w' hk' => by
    have hge : ∀ x ∈ deskFp (G + 1 + 1) fx fd [G] [G + 1], w.heap.size ≤ x := fun x hx => by
      simp only [deskFp, List.mem_cons, List.mem_append, List.not_mem_nil, or_false] at hx
      rcases hx with rfl | hx | hx | rfl | rfl
      · omega
      · have := hfx x hx; omega
      · have := hfd x hx; omega
      · omega
      · omega
    refine ⟨_, bx, bd, _, D, rfl, ⟨vt, vf, fx7, fd7, ft7, ff7, hM7.kept hk' (fun _ _ h => h), rfl⟩, hbeg, fun x hx => ?_, (hkw6.step' hk7 (fun x hx hlt => by have := hge x hx; omega)).step hk'⟩
    rcases hx7 x hx with h | h
    · exact hge x h
    · have := hkw6.size; omega
  have HFIN : Hid (∀ w', Kept no w7 w' → ∃ b' bx' bd' fp' D', Ending.returned (.tuple #[.pointer (some ⟨G + 1 + 1, 0, none⟩), .bool true]) = .returned (.tuple #[.pointer (some ⟨b', 0, none⟩), .bool true]) ∧ DeskR w' b' bx' bd' D' fp' ∧ Begun D' ls (1 + p) ∧ (∀ x ∈ fp', w.heap.size ≤ x) ∧ Kept no w w') := hfin
  clear hfin
  have hkd : (D.doc.kind : Int) = 0 := by rw [hbeg.kind]; rfl
  have htx : D.doc.text = s := by unfold DocS.text; rw [hbeg.lines]; exact hs
  go_wp2_with fail
  refine (look_doc hM7.doc).mono ?_
  rintro e w8 ⟨rfl, hk8⟩
  have hM8 := hM7.kept hk8 (fun _ _ h => h)
  go_wp2_with fail
  obtain ⟨hn9, hsz9, hk9⟩ := new1 w8 (Obj.cells #[.int .i64 (D.doc.lines.length : Int), .int .i64 (D.doc.edits : Int), .int .i64 0] viewT)
  have hM9 := hM8.kept hk9 (fun _ _ h => h)
  generalize hV : w8.heap.size = V at hn9 hsz9 ⊢
  generalize w8.alloc (Obj.cells #[.int .i64 (D.doc.lines.length : Int), .int .i64 (D.doc.edits : Int), .int .i64 0] viewT) = w9 at hn9 hsz9 hk9 hM9 ⊢
  refine (text_doc hM9.doc).mono ?_
  rintro e w10 ⟨rfl, hk10⟩
  have hn10 := hk10.get hn9 (fun h => h)
  obtain ⟨hc10, _⟩ := cells_of hn10
  rw [htx]
  have hfw := HFIN.out w10 ((hk8.step hk9).step hk10)
  have HFW : Hid (∃ b' bx' bd' fp' D', Ending.returned (.tuple #[.pointer (some ⟨G + 1 + 1, 0, none⟩), .bool true]) = .returned (.tuple #[.pointer (some ⟨b', 0, none⟩), .bool true]) ∧ DeskR w10 b' bx' bd' D' fp' ∧ Begun D' ls (1 + p) ∧ (∀ x ∈ fp', w.heap.size ≤ x) ∧ Kept no w w10) := hfw
  clear hfw HFIN hM7 hM8 hM9 hbeg hfok hdok' hdok hR hM hD hK hD3 hD6 hK6 hone hx7 hk7
  go_wp2
  refine bodyPost_ret (v := .tuple #[.pointer (some ⟨G + 1 + 1, 0, none⟩), .bool true]) (by simp [results, Tryz.results12, go_sem]) rfl ?_
  rw [HP.out, HLE.out]
  exact HFW.out
end Go.Proofs.YtdpfohgkikjeaaaGreat
/- A desk, on: edits, syncs, Saves. Plain mathematics. -/
namespace Go.Proofs.YtdpfohgkikjeaaaGreat
set_option linter.unusedVariables false
set_option linter.unusedSimpArgs false

theorem lastOne_sub {α : Type} {l : List α} : ∀ x ∈ lastOne l, x ∈ l := fun x hx => List.mem_of_mem_drop hx

theorem step_files_sub (D : DeskS) (good all : Bool) : ∀ x ∈ (D.step good all).files, x ∈ D.files := by
  unfold DeskS.step
  split
  · exact fun x hx => hx
  · intro x hx
    dsimp only at hx
    split at hx
    · exact lastOne_sub x hx
    · exact hx

theorem work_files_sub (fail : Int) (all : Bool) : ∀ (n i : Nat) (D : DeskS), ∀ x ∈ (D.work n i fail all).files, x ∈ D.files
  | 0, i, D => fun x hx => hx
  | n + 1, i, D => by
    unfold DeskS.work
    split
    · exact fun x hx => hx
    · intro x hx
      exact step_files_sub D _ _ x (work_files_sub fail all n (i + 1) _ x hx)

/-- An edit. -/
def DeskS.edited (D : DeskS) (ls : List Str) (m : Nat) : DeskS := DeskS.begun { D with doc := (D.doc.setLines ls).edited, most := m }

theorem DeskS.Ok.edited {D : DeskS} {N L : Nat} (h : D.Ok N L) (hk : D.doc.kind = 0) {ls : List Str} (hls : TextOk ls) {m : Nat} (hm : m ≤ D.doc.every) : (D.edited ls m).Ok (N + 1) L := by
  have hd : (D.doc.setLines ls).edited.Ok := (h.doc.setLines hls).edited_ok hk
  have hm1 := h.mono (Nat.le_succ N)
  have hch := h.ch
  have hed := h.edits
  have hacts : D.doc.acts = [] := by
    by_cases e : D.doc.acts = []
    · exact e
    · exact absurd hk (h.doc.acts.2 e)
  unfold DeskS.edited DeskS.begun
  by_cases he : D.doc.counted + 1 = D.doc.every
  · have e1 : (D.doc.setLines ls).edited = { D.doc.setLines ls with edits := D.doc.edits + 1, counted := 0, kind := 1, acts := D.doc.wr.acts (textOf ls) D.doc.file } := by
      unfold DocS.edited
      rw [if_pos (show (D.doc.setLines ls).counted + 1 = (D.doc.setLines ls).every from he)]
      rfl
    rw [e1] at hd ⊢
    rw [if_pos rfl]
    obtain ⟨t0, f0, hsw⟩ := h.swok
    refine ⟨hd, hm1.lens, ⟨t0, f0, hsw.more _⟩, by simp; omega, hm1.fl, h.file, fun _ => ⟨prog_start _ _ _ _, by simp⟩, fun e => (by cases e), by show D.doc.edits + 1 ≤ N + 1; omega, hm, hm1.one, h.big, ?_, h.mf0, hm1.mfN, by simp, by have := h.mtN; simp; omega⟩
    show (D.doc.wr.acts (textOf ls) D.doc.file).length ≤ 100
    have := acts_length D.doc.wr D.doc.file hls.length
    omega
  · have e1 : (D.doc.setLines ls).edited = { D.doc.setLines ls with edits := D.doc.edits + 1, counted := D.doc.counted + 1 } := by
      unfold DocS.edited
      rw [if_neg (show ¬ (D.doc.setLines ls).counted + 1 = (D.doc.setLines ls).every from he)]
      rfl
    rw [e1] at hd ⊢
    rw [if_neg (by show ¬ D.doc.kind = 1; omega)]
    exact ⟨hd, hm1.lens, h.swok, hm1.ch, hm1.fl, h.file, fun e => absurd e (by show ¬ D.doc.kind = 1; omega), fun e => absurd e (by show ¬ D.doc.kind = 2; omega), by show D.doc.edits + 1 ≤ N + 1; omega, hm, hm1.one, h.big, h.few, h.mf0, hm1.mfN, h.mt0, hm1.mtN⟩

/-- A sync is begun. -/
theorem DeskS.Ok.synced {D : DeskS} {N L : Nat} (h : D.Ok N L) (hk : D.doc.kind = 0) (hd : D.doc.beginSync.Ok) : (DeskS.begun { D with doc := D.doc.beginSync }).Ok (N + 1) L := by
  have hm1 := h.mono (Nat.le_succ N)
  have hch := h.ch
  have hed := h.edits
  unfold DeskS.begun
  rw [if_pos (show D.doc.beginSync.kind = 1 from rfl)]
  obtain ⟨t0, f0, hsw⟩ := h.swok
  refine ⟨hd, hm1.lens, ⟨t0, f0, hsw.more _⟩, by simp; omega, hm1.fl, h.file, fun _ => ⟨prog_start _ _ _ _, by simp⟩, fun e => (by cases e), by show D.doc.edits ≤ N + 1; omega, h.most, hm1.one, h.big, ?_, h.mf0, hm1.mfN, by simp, by have := h.mtN; simp; omega⟩
  show (D.doc.wr.acts D.doc.text D.doc.file).length ≤ 100
  have := acts_length D.doc.wr D.doc.file (t := D.doc.text) h.doc.text.length
  omega

/-- A Save is begun. -/
theorem DeskS.Ok.saved {D : DeskS} {N L : Nat} (h : D.Ok N L) (hk : D.doc.kind = 0) {mf : List Str} (hm0 : mf ≠ []) (hm1' : mf.length ≤ N + 1) (hd : D.doc.save.2.Ok) : DeskS.Ok { D with doc := D.doc.save.2, files := D.files ++ [D.doc.text], mf := mf } (N + 1) L := by
  have hm1 := h.mono (Nat.le_succ N)
  have hfl := h.fl
  have hed := h.edits
  have e1 : D.doc.save.2 = { D.doc with kind := 2, acts := saveActs D.doc.text } := by
    unfold DocS.save
    rw [if_neg (by omega)]
  rw [e1] at hd ⊢
  refine ⟨hd, hm1.lens, h.swok, hm1.ch, by simp; omega, h.file.more _, fun e => (by cases e), fun _ => ⟨.inl rfl, by simp; rfl⟩, hm1.edits, h.most, hm1.one, h.big, ?_, hm0, hm1', h.mt0, hm1.mtN⟩
  show (saveActs D.doc.text).length ≤ 100
  unfold saveActs
  split <;> simp
end Go.Proofs.YtdpfohgkikjeaaaGreat
/- Saved: the walk. -/
namespace Go.Proofs.YtdpfohgkikjeaaaGreat
open Go.RowKit
set_option linter.unusedVariables false
set_option linter.unusedSimpArgs false

theorem DiskR.fileCell {w b d fp} (h : DiskR w b d fp) : w.cell? ⟨b, 1, none⟩ = some (sv d.file) := by
  obtain ⟨vs, vals, bl, h, rfl⟩ := h
  rw [(cells_of h.cells).1]; rfl

theorem replace_d {w b d fp} (h : DocR w b d fp) (at_ : Int) (l : Str) (hl : l.length ≤ 140737488355328) (he : d.edits ≤ 8000000000000) :
    Calls Tryz.prog 40 #[.pointer (some ⟨b, 0, none⟩), .int .i64 at_, sv l] w fun e w' => e = .returned (.int .i64 ((d.replace at_ l).1 : Int)) ∧ DocTo w w' b fp (d.replace at_ l).2 := by
  obtain ⟨va, tfp, afp, h, rfl⟩ := h
  exact replace_doc h at_ l hl he
theorem insert_d {w b d fp} (h : DocR w b d fp) (at_ : Int) (l : Str) (hl : l.length ≤ 140737488355328) (he : d.edits ≤ 8000000000000) :
    Calls Tryz.prog 25 #[.pointer (some ⟨b, 0, none⟩), .int .i64 at_, sv l] w fun e w' => e = .returned (.int .i64 ((d.insert at_ l).1 : Int)) ∧ DocTo w w' b fp (d.insert at_ l).2 := by
  obtain ⟨va, tfp, afp, h, rfl⟩ := h
  exact insert_doc h at_ l hl he
theorem save_d {w b d fp} (h : DocR w b d fp) (hk : d.kind = 0) : Calls Tryz.prog 27 #[.pointer (some ⟨b, 0, none⟩)] w fun e w' => e = .returned (.int .i64 0) ∧ DocTo w w' b fp d.save.2 := by
  obtain ⟨va, tfp, afp, h, rfl⟩ := h
  exact save_yes h hk
theorem DocTo.same' {w w' : World} {b : Nat} {d : DocS} {fp : List Nat} (h : DocR w b d fp) (hk : Kept no w w') : DocTo w w' b fp d := ⟨⟨fp, h.kept hk (fun _ _ h => h), fun x hx => .inl hx⟩, hk.mono (fun _ h _ => h.elim)⟩

/-- The desk of Saved behind its edit. -/
def savedLines (raw : List Int) (c : Int) : List Str := if raw = [] then [lineN c] else lineN c :: (linesN raw).drop 1

theorem savedLines_ok (raw : List Int) (c : Int) : TextOk (savedLines raw c) := by
  have h := linesN_ok raw
  unfold savedLines
  split
  · exact ⟨by simp, fun l hl => by simp at hl; subst hl; exact lineN_ok c⟩
  · refine ⟨?_, fun l hl => ?_⟩
    · rename_i hne
      have h2 : 0 < (linesN raw).length := by
        unfold linesN
        rw [List.length_map, List.length_take]
        have := List.length_pos_iff.2 hne
        omega
      have := h.few
      simp only [List.length_cons, List.length_drop]
      omega
    · rcases List.mem_cons.1 hl with rfl | hl
      · exact lineN_ok c
      · exact h.lines l (List.mem_of_mem_drop hl)

theorem savedLines_ne (raw : List Int) (c : Int) : textOf (savedLines raw c) ≠ [] := by
  unfold savedLines
  split
  · rw [textOf_cons]; simp
  · rw [textOf_cons]; simp

theorem linesN_len (raw : List Int) : (linesN raw).length = min 60 raw.length := by simp [linesN]

theorem replace_raw {d : DocS} {raw : List Int} (hl : d.lines = linesN raw) (hk : d.kind = 0) (c : Int) : d.replace 0 (lineN c) = if raw = [] then (1, d) else (0, (d.setLines (savedLines raw c)).edited) := by
  have hlen := linesN_len raw
  unfold DocS.replace
  rw [if_neg (by omega), hl]
  by_cases hr : raw = []
  · subst hr
    rw [if_pos rfl, if_pos]
    right; simp [linesN]
  · have hpos := List.length_pos_iff.2 hr
    rw [if_neg hr, if_neg (by omega), if_neg (by simpa using lineN_ok c)]
    simp [savedLines, hr]

theorem insert_raw {d : DocS} {raw : List Int} (hl : d.lines = linesN raw) (hk : d.kind = 0) (c : Int) (hr : raw = []) : d.insert 0 (lineN c) = (0, (d.setLines (savedLines raw c)).edited) := by
  subst hr
  unfold DocS.insert
  have e : linesN [] = [] := rfl
  rw [if_neg (by omega), hl, e, if_neg (by simp), if_neg (by simpa using lineN_ok c), if_neg (by simp)]
  simp [savedLines]
end Go.Proofs.YtdpfohgkikjeaaaGreat
/- Reading back: what is left of a desk's disk; Recover of it. -/
namespace Go.Proofs.YtdpfohgkikjeaaaGreat
open Go.RowKit
set_option linter.unusedVariables false
set_option linter.unusedSimpArgs false

theorem now_leaves {d : DiskS} {N L : Nat} (h : d.Lens N L) : d.Leaves d.now := by
  refine ⟨by simp [DiskS.now], fun i hi => ?_⟩
  have hm : d.sw[i] ∈ d.sw := by simp
  simp only [DiskS.now, List.getD_eq_getElem?_getD, List.getElem?_map, List.getElem?_eq_getElem hi, Option.map_some, Option.getD_some]
  exact lastOf_mem (h.some _ hm)

theorem leaves_left {d : DiskS} {secs : List Str} (h : d.Leaves secs) (hl : d.sw.length = 400) : Left d.S (imgOf secs) := fun i hi => by
  have := h.2 i (by omega)
  unfold imgOf DiskS.S
  rwa [List.getD_eq_getElem?_getD] at this

theorem leaves_size {d : DiskS} {N L : Nat} (hL : d.Lens N L) {secs : List Str} (h : d.Leaves secs) : ∀ s ∈ secs, s.length = 64 := fun s hs => by
  obtain ⟨i, hi, rfl⟩ := List.getElem_of_mem hs
  have hi2 : i < d.sw.length := by rw [← h.1]; exact hi
  have := h.2 i hi2
  simp only [List.getD_eq_getElem?_getD, List.getElem?_eq_getElem hi, List.getElem?_eq_getElem hi2, Option.getD_some] at this
  exact hL.size _ (by simp) _ this

/-- Something is found, and it is one of the chances. -/
theorem back_finds {D : DeskS} {N L : Nat} (h : D.Ok N L) (hkn : D.doc.wr.known = true) {secs : List Str} (hlv : D.disk.Leaves secs) : ∃ hh hd ls, TextOk ls ∧ Finds (imgOf secs) hh hd (textOf ls) ∧ (textOf ls, hd.file) ∈ D.ch := by
  obtain ⟨t0, f0, hsw⟩ := h.swok
  have hs := (hsw.safe hkn).2
  have hleft := leaves_left hlv h.lens.sw
  obtain ⟨hh, hd, t, hF⟩ := hs.finds hleft
  obtain ⟨ls, hls, rfl⟩ := hF.reads.fits
  exact ⟨hh, hd, ls, hls, hF, hs.all _ hleft _ _ _ hF⟩

/-- A desk that is read back. -/
def DeskS.back (ls : List Str) (f : Str) (n hh : Nat) (hd : Head) (secs : List Str) (most : Nat) : DeskS := ⟨DocS.readBack ls f n hh hd.number, DiskS.of secs f, [(textOf ls, hd.file)], [f], most, [f], [textOf ls]⟩

theorem back_ok {ls : List Str} {f : Str} {n hh : Nat} {hd : Head} {secs : List Str} {most L : Nat} (hdoc : (DocS.readBack ls f n hh hd.number).Ok) (hl : secs.length = 400) (h64 : ∀ s ∈ secs, s.length = 64) (hF : Finds (imgOf secs) hh hd (textOf ls)) (hm : most ≤ n) (hL : 2460 ≤ L) (hf : f.length ≤ L) : (DeskS.back ls f n hh hd secs most).Ok 1 L := by
  have hlens : (DiskS.of secs f).Lens 1 L := by
    refine ⟨by show (List.map _ secs).length = 400; rw [List.length_map]; exact hl, fun r hr => ?_, fun r hr => ?_, fun r hr s hs => ?_, hf, Nat.zero_le _, Nat.zero_le _, fun e => (by cases e), Nat.zero_le _⟩
    all_goals
      obtain ⟨x, hx, rfl⟩ := List.mem_map.1 hr
    · simp
    · simp
    · simp only [List.mem_cons, List.not_mem_nil, or_false] at hs
      rw [hs]; exact h64 x hx
  have hsz : ∀ i, i < 400 → (imgOf secs i).length = 64 := fun i hi => by
    unfold imgOf
    rw [List.getElem?_eq_getElem (by omega)]
    exact h64 _ (by simp)
  have hsafe := safe_found hsz hF
  have hS : (DiskS.of secs f).S = fun i => [imgOf secs i] := DiskS.S_of secs f
  refine ⟨hdoc, hlens, ⟨textOf ls, hd.file, ?_⟩, Nat.le_refl _, Nat.le_refl _, ⟨List.mem_singleton.2 rfl, fun e => (by cases e)⟩, fun e => (by cases e), fun e => (by cases e), Nat.zero_le _, hm, Nat.le_refl _, hL, Nat.zero_le _, (by intro e; cases e), Nat.le_refl _, (by intro e; cases e), Nat.le_refl _⟩
  show SwOk (DiskS.of secs f).S ⟨true, true, hh, hd.number⟩ _ _ _
  rw [hS]
  exact ⟨hsafe.sized, hF.half, hsafe.num, fun _ => ⟨List.mem_singleton.2 rfl, hsafe.mono fun t g ⟨h1, h2⟩ => by subst h1; subst h2; exact List.mem_singleton.2 rfl⟩⟩

/-- Recover, of a swap in which something is found. -/
theorem recover_yes {w : World} {v : Value} {secs : List Str} (hr : Row w 9 1 v 400 (secs.map sv)) (hl : secs.length = 400) (h64 : ∀ s ∈ secs, s.length = 64) {hh : Nat} {hd : Head} {ls : List Str} (hok : TextOk ls) (hF : Finds (imgOf secs) hh hd (textOf ls)) (file : Str) (hfl : file.length ≤ 1099511627776) (n : Nat) (nI : Int) (hn : nI = (n : Int)) (h1 : 1 ≤ n) (h2 : n ≤ 20) (same : Bool) (hsame : same = true ↔ markOf file = hd.file) :
    Calls Tryz.prog 20 #[v, sv file, .int .i64 nI] w fun e w' => ∃ B fp, e = .returned (.tuple #[.pointer (some ⟨B, 0, none⟩), .bool same, .int .i64 0]) ∧ DocR w' B (DocS.readBack ls file n hh hd.number) fp ∧ (∀ x ∈ fp, w.heap.size ≤ x) ∧ Kept no w w' := by
  have hlt := hr.lt
  rcases hr.shape with ⟨_, h0, _⟩ | ⟨g, c, rfl, hc1, hc2⟩
  · cases h0
  · have hcell := hr.cell
    have hs : StrsAt w g 0 secs := fun j s hs => by
      rw [Nat.zero_add]
      exact hcell.2.2.2 j (sv s) (by rw [List.getElem?_map, hs]; rfl)
    have hr' : Row w 9 1 (.slice (some ⟨g, 0, none⟩) 400 c) secs.length (secs.map sv) := by rw [hl]; exact hr
    unfold maxLen at hc2
    refine recover_any g 0 c secs w hr' hl h64 file nI (by omega) (by omega) _ ?_
    refine (readBack_some g 0 c secs w hs hl h64 hc1 (by omega) (hlt g (by simp [fpv_some])) hh hd ls hok hF file hfl n nI hn h1 h2 (readHead_num hF.reads.head) same hsame).mono ?_
    rintro e w' ⟨B, fp, rfl, hrest⟩
    exact ⟨_, _, _, rfl, B, fp, rfl, hrest⟩
end Go.Proofs.YtdpfohgkikjeaaaGreat
/- Regions that draw, a fifth time: behind the reads single operations and pure ones, mixed. -/
namespace Go.Proofs.YtdpfohgkikjeaaaGreat
open Go.RowKit
set_option linter.unusedVariables false
set_option linter.unusedSimpArgs false

section
variable {P : Program} {ops : Array Oper} {Q : Exit → Act → World → Prop} {md : Region.Mode} {C : World → Prop} {N : Nat → Bool}

def mixB (md : Region.Mode) (ops : Array Oper) : List (Nat × Bool) → Array Bool → Bool
  | [], listed => Region.ready md ops listed == []
  | i :: l, listed => (if i.2 then (Region.ready md ops listed).contains i.1 && Region.free md ops listed i.1 else Region.ready md ops listed == [i.1]) && mixB md ops l (listed.setIfInBounds i.1 true)

/-- Single operations (false) and pure ones (true), in this order. -/
def wpMix (P : Program) (ops : Array Oper) (C : World → Prop) (N : Nat → Bool) (Q : Exit → Act → World → Prop) : List (Nat × Bool) → Act → World → Prop
  | [], a, w => Q .normal a w
  | (i, true) :: l, a, w => ∃ o v, ops[i]? = some o ∧ Reads P ops (fun w => true = true ∨ C w) o v a ∧ wpMix P ops C N Q l (a.put o.dst v) w
  | (i, false) :: l, a, w => wpOp P ops Q i (fun a' w' => (N i = true → C w → C w') ∧ wpMix P ops C N Q l a' w') a w

theorem wpGo3_mix (hs : Region.noSelect ops = true) (hQ : ∀ c a d v w, Q (.panic c) (Act.put a d v) w → Q (.panic c) a w) : ∀ (m : List (Nat × Bool)) (listed : Array Bool) (a : Act) (w : World), Closed md ops listed → mixB md ops m listed = true → wpMix P ops C N Q m a w → wpGo3 P md ops C N Q m.length listed a w
  | [], listed, a, w, hcl, hB, h => ⟨by simpa [mixB] using hB, h⟩
  | (i, true) :: m, listed, a, w, hcl, hB, h => by
    simp only [mixB, if_true, Bool.and_eq_true] at hB
    obtain ⟨⟨hr, hf⟩, hB'⟩ := hB
    obtain ⟨o, v, ho, hy, hK⟩ := h
    have hr' : i ∈ Region.ready md ops listed := by simpa using hr
    exact wpGo3_first true ho (Region.noSelect_spec hs) (fun e => (by cases e)) (fun c a w => hQ c a _ _ w) _ listed a w hcl (fun e => (by cases e)) (Region.free_spec ho hf) hr' hy
      (wpGo3_mix hs hQ m _ _ w (hcl.step hr') hB' hK)
  | (i, false) :: m, listed, a, w, hcl, hB, h => by
    simp only [mixB, Bool.false_eq_true, if_false, Bool.and_eq_true, beq_iff_eq] at hB
    unfold wpMix at h
    have hmem : i ∈ Region.ready md ops listed := by rw [hB.1]; simp
    refine ⟨fun h0 => (by rw [hB.1] at h0; cases h0), fun j hj => ?_⟩
    rw [hB.1] at hj
    simp only [List.mem_cons, List.not_mem_nil, or_false] at hj
    subst hj
    exact wpOp_mono (fun a' w' h' => ⟨h'.1, wpGo3_mix hs hQ m _ _ _ (hcl.step hmem) hB.2 h'.2⟩) h

theorem closed_all : ∀ (p : List Nat) (listed : Array Bool), Closed md ops listed → preOnly md ops p listed = true → Closed md ops (listAll p listed)
  | [], listed, h, _ => h
  | i :: p, listed, h, hB => by
    simp only [preOnly, Bool.and_eq_true] at hB
    have hr : i ∈ Region.ready md ops listed := by simpa using hB.1.1
    exact closed_all p _ (h.step hr) hB.2

theorem wpPre3_mono {R R' : Act → Prop} (h : ∀ a, R a → R' a) : ∀ (p : List (Nat × Bool)) (a : Act), wpPre3 P ops C R p a → wpPre3 P ops C R' p a
  | [], a, hh => h a hh
  | i :: p, a, ⟨o, v, ho, hy, hK⟩ => ⟨o, v, ho, hy, wpPre3_mono h p _ hK⟩

theorem wp_region5 {id : Nat} {a : Act} {w : World} (C : World → Prop) (p m : List (Nat × Bool)) (hm : P.follows .mixedOrders = true)
    (hB : (Region.noSelect ops && (p.length + m.length == ops.size) && preOnly .any ops (p.map (·.1)) (Array.replicate ops.size false) && mixB .any ops m (listAll (p.map (·.1)) (Array.replicate ops.size false))) = true)
    (hQ : ∀ c a d v w, Q (.panic c) (Act.put a d v) w → Q (.panic c) a w) (hC : C w.drew)
    (h : wpPre3 P ops C (fun a' => wpMix P ops C (needB3 .any ops p) Q m a' w.drew) p a) : (Code.region id ops true).wp P Q a w := by
  simp only [Bool.and_eq_true] at hB
  obtain ⟨⟨⟨hs, hl⟩, hB1⟩, hB2⟩ := hB
  refine wp_region4 C p m.length hm (by simp only [Bool.and_eq_true]; exact ⟨⟨hs, hl⟩, hB1⟩) hQ hC ?_
  have hcl := closed_all (md := .any) (ops := ops) (p.map (·.1)) _ closed_start hB1
  have hw : ∀ a', wpMix P ops C (needB3 .any ops p) Q m a' w.drew → wpGo3 P .any ops C (needB3 .any ops p) Q m.length (listAll (p.map (·.1)) (Array.replicate ops.size false)) a' w.drew := fun a' h' => wpGo3_mix hs hQ m _ a' w.drew hcl hB2 h'
  exact wpPre3_mono hw p a h

theorem wpMix_nil {a : Act} {w : World} (h : Q .normal a w) : wpMix P ops C N Q [] a w := h
theorem wpMix_pure {a : Act} {w : World} {i : Nat} {l : List (Nat × Bool)} {o : Oper} {v : Value} (ho : ops.toList[i]? = some o) (hg : o.guard = none)
    (hr : ∀ w, (execOp a.eval o).run P w = .ok (.value v) w) (h : wpMix P ops C N Q l (a.put o.dst v) w) : wpMix P ops C N Q ((i, true) :: l) a w := by
  exact ⟨o, v, by simpa using ho, .inl ⟨by simp [Region.wanted, hg], fun w _ => hr w⟩, h⟩
theorem wpMix_cons {a : Act} {w : World} {i : Nat} {l : List (Nat × Bool)} {o : Oper} (ho : ops.toList[i]? = some o) (hg : o.guard = none)
    (h : ∀ K : Act → World → Prop, (∀ a' w', (C w → C w') ∧ wpMix P ops C N Q l a' w' → K a' w') → o.wp P a w K Q) : wpMix P ops C N Q ((i, false) :: l) a w := by
  have ho' : ops[i]? = some o := by simpa using ho
  unfold wpMix
  unfold wpOp
  simp only [ho']
  rw [if_pos (by simp [Region.wanted, hg])]
  exact .inl (h _ (fun _ _ h => ⟨fun _ => h.1, h.2⟩))
theorem wpMix_last {a : Act} {w : World} {i : Nat} {l : List (Nat × Bool)} {o : Oper} (hn : N i = false) (ho : ops.toList[i]? = some o) (hg : o.guard = none)
    (h : ∀ K : Act → World → Prop, (∀ a w, wpMix P ops C N Q l a w → K a w) → o.wp P a w K Q) : wpMix P ops C N Q ((i, false) :: l) a w := by
  have ho' : ops[i]? = some o := by simpa using ho
  unfold wpMix
  unfold wpOp
  simp only [ho']
  rw [if_pos (by simp [Region.wanted, hg])]
  exact .inl (h _ (fun _ _ h => ⟨fun hh => (by rw [hn] at hh; cases hh), h⟩))
end
end Go.Proofs.YtdpfohgkikjeaaaGreat
