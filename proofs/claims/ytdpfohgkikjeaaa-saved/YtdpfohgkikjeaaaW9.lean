/- Part 9 of the proof: see its parts. -/
import Derived.ChangeSame
import Derived.ChangeSlices
import Derived.Test.YtdpfohgkikjeaaaW8
/- begin. -/
namespace Go.Proofs.Ytdpfohgkikjeaaa
set_option linter.unusedVariables false
set_option linter.unusedSimpArgs false
open Go.RowKit
set_option linter.unusedVariables false
set_option linter.unusedSimpArgs false
theorem text_doc {w b d fp} (h : DocR w b d fp) : Calls Try.prog 8 #[.pointer (some ⟨b, 0, none⟩)] w fun e w' => e = .returned (sv d.text) ∧ Kept no w w' := by
  obtain ⟨va, tfp, afp, h, rfl⟩ := h
  exact text_any h.tree (by have := h.ok.text.few; omega) (fun l hl => by have := (h.ok.text.lines l hl).1; omega)

/-- A desk as it begins. -/
def DeskS.first (ls : List Str) (n : Nat) : DeskS := ⟨(DocS.fresh ls (textOf ls) n).beginSync, DiskS.of (List.replicate 400 blank) (textOf ls), [(textOf ls, markOf (textOf ls))], [textOf ls], 0, [textOf ls]⟩

theorem first_ok {ls : List Str} {n : Nat} (h : TextOk ls) (hd : (DocS.fresh ls (textOf ls) n).beginSync.Ok) : (DeskS.first ls n).Ok 1 2460 := by
  have hl := h.length
  have hlens : (DiskS.of (List.replicate 400 blank) (textOf ls)).Lens 1 2460 := by
    refine ⟨by show (List.map _ (List.replicate 400 blank)).length = 400; rw [List.length_map, List.length_replicate], fun r hr => ?_, fun r hr => ?_, fun r hr s hs => ?_, hl, Nat.zero_le _, Nat.zero_le _, fun e => (by cases e), Nat.zero_le _⟩
    all_goals
      obtain ⟨x, hx, rfl⟩ := List.mem_map.1 hr
      have hx := List.eq_of_mem_replicate hx
      subst hx
    · simp
    · simp
    · simp only [List.mem_cons, List.not_mem_nil, or_false] at hs
      rw [hs]; exact blank_length
  have e : (DocS.fresh ls (textOf ls) n).beginSync.acts = (⟨false, false, 0, 0⟩ : Wr).acts (textOf ls) (markOf (textOf ls)) := rfl
  refine ⟨hd, hlens, ⟨[], markOf [], ⟨Sized.of_lens hlens, Nat.zero_le 1, (by decide : (0 : Nat) < 18446744073709551616), fun hk => (by cases hk)⟩⟩, Nat.le_refl _, Nat.le_refl _, ⟨List.mem_singleton.2 rfl, fun e => (by cases e)⟩, fun _ => ⟨prog_start _ _ _ _, rfl⟩, fun e => (by cases e), Nat.zero_le _, Nat.zero_le _, Nat.le_refl _, Nat.le_refl _, ?_, (by intro e; cases e), Nat.le_refl _⟩
  show (DocS.fresh ls (textOf ls) n).beginSync.acts.length ≤ 100
  rw [e]
  have := acts_length ⟨false, false, 0, 0⟩ (markOf (textOf ls)) hl
  omega

/-- What holds of a desk whose first sync was done. -/
structure Begun (D : DeskS) (ls : List Str) (n : Nat) : Prop where
  ok : D.Ok 501 2460
  kind : D.doc.kind = 0
  lines : D.doc.lines = ls
  every : D.doc.every = n
  counted : D.doc.counted = 0
  edits : D.doc.edits = 0
  known : D.doc.wr.known = true
  ch : D.ch = [(textOf ls, markOf (textOf ls))]
  files : D.files = [textOf ls]
  mf : D.mf = [textOf ls]
  most : D.most = 0
  mark : D.doc.file = markOf (textOf ls)

theorem first_begun {ls : List Str} {n : Nat} (h : TextOk ls) (hd : (DocS.fresh ls (textOf ls) n).beginSync.Ok) : Begun ((DeskS.first ls n).work 500 0 (-1) false) ls n := by
  have ok := first_ok h hd
  have hok := DeskS.Ok.work (fail := -1) (all := false) 500 0 ok
  have hlen : (DeskS.first ls n).doc.acts.length ≤ 100 := ok.few
  have hw := work_all (fail := -1) (all := false) 500 0 (DeskS.first ls n) (show (1 : Nat) ≠ 0 by decide) (ok.doc.acts.1 (show (1 : Nat) ≠ 0 by decide)) (by omega) (.inl (by decide))
  have hs : (DeskS.first ls n).doc.succeeded = { (DeskS.first ls n).doc with kind := 0, acts := [], wr := (DeskS.first ls n).doc.wr.written, edits := 0 } := by
    unfold DocS.succeeded
    exact if_neg (by show ¬ (1 : Nat) = 2; decide)
  rw [hs] at hw
  rw [hw] at hok ⊢
  exact ⟨hok, rfl, rfl, rfl, rfl, rfl, rfl, rfl, rfl, rfl, rfl, rfl⟩

set_option maxRecDepth 100000 in
set_option maxHeartbeats 4000000 in
theorem begin_any {w : World} {B : Nat} {v : Value} {raw : List Int} (hr : IntsAt w B v raw) (c : Int) (hc : RawOk c) :
    Calls Try.prog 4 #[v, .int .i64 c] w fun e w' => ∃ b bx bd fp D, e = .returned (.tuple #[.pointer (some ⟨b, 0, none⟩), .bool true]) ∧ DeskR w' b bx bd D fp ∧ Begun D (linesN raw) (1 + pickN c 20) ∧ (∀ x ∈ fp, w.heap.size ≤ x) ∧ Kept no w w' := by
  have hlo := linesN_ok raw
  have hp := pickN_lt c (n := 20) (by decide)
  go_enter Try.func4, Try.ntmps4
  go_wp2_with fail
  refine (file_any hr).mono ?_
  rintro e w1 ⟨rfl, hk1⟩
  go_wp2_with fail
  refine (pick_keep c 20 20 rfl hc (by decide) (by decide) w1).mono ?_
  rintro e w2 ⟨rfl, hw⟩
  rw [hw]
  clear hw
  generalize hpe : pickN c 20 = p at hp ⊢
  have HP : Hid (pickN c 20 = p) := hpe
  clear hpe
  generalize hle : linesN raw = ls at hlo ⊢
  have HLE : Hid (linesN raw = ls) := hle
  clear hle
  go_wp2_with fail
  refine (open_yes ls hlo (1 + p) _ (by omega) w1 (by omega) (by omega)).mono ?_
  rintro e w2 ⟨bx, fx, rfl, hD, hfx, hk2⟩
  go_wp2_with fail
  refine (fresh_disk w2 (textOf ls)).mono ?_
  rintro e w3 ⟨bd, fd, rfl, hK, hfd, hk3⟩
  have hD3 := hD.kept hk3 (fun _ _ h => h)
  have htl := hlo.length
  have hdok := hD.ok
  generalize hs : textOf ls = s at *
  go_wp2_with fail
  obtain ⟨hn4, hsz4, hk4⟩ := new1 w3 (Obj.cells #[sv s] strT)
  generalize hG : w3.heap.size = G at hn4 hsz4 ⊢
  generalize w3.alloc (Obj.cells #[sv s] strT) = w4 at hn4 hsz4 hk4 ⊢
  obtain ⟨hn5, hsz5, hk5⟩ := new1 w4 (Obj.cells #[sv s] strT)
  have hn4' := hk5.get hn4 (fun h => h)
  rw [hsz4] at hn5 hsz5
  generalize w4.alloc (Obj.cells #[sv s] strT) = w5 at hn5 hsz5 hk5 hn4' ⊢
  obtain ⟨hn6, hsz6, hk6⟩ := new1 w5 (Obj.cells #[.pointer (some ⟨bx, 0, none⟩), .pointer (some ⟨bd, 0, none⟩), .slice (some ⟨G, 0, none⟩) 1 1, .slice (some ⟨G + 1, 0, none⟩) 1 1, sv s, .int .i64 (1 + (p : Int)), .int .i64 0, .int .i64 0] deskT)
  have hn46 := hk6.get hn4' (fun h => h)
  have hn56 := hk6.get hn5 (fun h => h)
  rw [hsz5] at hn6
  generalize w5.alloc (Obj.cells #[.pointer (some ⟨bx, 0, none⟩), .pointer (some ⟨bd, 0, none⟩), .slice (some ⟨G, 0, none⟩) 1 1, .slice (some ⟨G + 1, 0, none⟩) 1 1, sv s, .int .i64 (1 + (p : Int)), .int .i64 0, .int .i64 0] deskT) = w6 at hn6 hsz6 hk6 hn46 hn56 ⊢
  have hk36 := (hk4.step hk5).step hk6
  have hD6 := hD3.kept hk36 (fun _ _ h => h)
  have hK6 := hK.kept hk36 (fun _ _ h => h)
  have hkw6 : Kept no w w6 := ((hk1.step hk2).step hk3).step hk36
  have hs1 := hk1.size
  have hs2 := hk2.size
  have hs3 := hk3.size
  have hfxl := hD.lt
  have hfdl := hK.lt
  have hone : ∀ g, w6.heap[g]? = some (.cells #[sv s] strT (0, 0)) → TextsAt w6 (.slice (some ⟨g, 0, none⟩) 1 1) [s] [g] := fun g hg => .inr ⟨g, 0, 1, #[sv s], rfl, rfl, hg, Nat.le_refl _, by unfold maxLen; decide, Nat.le_refl _, fun j x hx => by
    match j, hx with
    | 0, hx => simp at hx; subst hx; rfl⟩
  have hM : DeskM w6 (G + 1 + 1) (DeskS.first ls (1 + p)).doc (DeskS.first ls (1 + p)).disk ((DeskS.first ls (1 + p)).ch.map (·.1)) (DeskS.first ls (1 + p)).mf ⟨(DeskS.first ls (1 + p)).doc.text, (DeskS.first ls (1 + p)).doc.every, (DeskS.first ls (1 + p)).doc.counted, (DeskS.first ls (1 + p)).most⟩ bx bd (.slice (some ⟨G, 0, none⟩) 1 1) (.slice (some ⟨G + 1, 0, none⟩) 1 1) fx fd [G] [G + 1] := by
    refine ⟨?_, ?_, ?_, ?_, ?_, ?_⟩
    · rw [hn6]
      show some _ = some (Obj.cells #[_, _, _, _, sv (textOf ls), Value.int .i64 ((1 + p : Nat) : Int), Value.int .i64 ((0 : Nat) : Int), Value.int .i64 ((0 : Nat) : Int)] deskT (0, 0))
      rw [hs]
      have e : ((1 + p : Nat) : Int) = 1 + (p : Int) := by omega
      rw [e]
      rfl
    · show DocR w6 bx (DocS.fresh ls (textOf ls) (1 + p)).beginSync fx
      rw [hs]; exact hD6
    · show DiskR w6 bd (DiskS.of (List.replicate 400 blank) (textOf ls)) fd
      rw [hs]; exact hK6
    · show TextsAt w6 _ [textOf ls] [G]
      rw [hs]; exact hone G hn46
    · show TextsAt w6 _ [textOf ls] [G + 1]
      rw [hs]; exact hone (G + 1) hn56
    · refine apart_mk ⟨fun hx => ?_, fun hx => ?_, fun h => by have := List.mem_singleton.1 h; omega, fun h => by have := List.mem_singleton.1 h; omega⟩ ⟨fun x hx hx2 => ?_, fun x hx hx2 => ?_, fun x hx hx2 => ?_⟩ ⟨fun x hx hx2 => ?_, fun x hx hx2 => ?_⟩ (by simp)
      · have := hfxl _ hx; omega
      · have := hfdl _ hx; omega
      · have := hfxl x hx; have := hfd x hx2; omega
      · have := hfxl x hx; simp at hx2; omega
      · have := hfxl x hx; simp at hx2; omega
      · have := hfdl x hx; simp at hx2; omega
      · have := hfdl x hx; simp at hx2; omega
  have hR : DeskR w6 (G + 1 + 1) bx bd (DeskS.first ls (1 + p)) (deskFp (G + 1 + 1) fx fd [G] [G + 1]) := ⟨_, _, _, _, _, _, hM, rfl⟩
  have hdok' : (DocS.fresh ls (textOf ls) (1 + p)).beginSync.Ok := by rw [hs]; exact hdok
  have hbeg := first_begun hlo hdok'
  have hfok := first_ok hlo hdok'
  refine (work_any hR hfok 500 500 (-1) 0 0 rfl rfl (by decide) (by decide) (by decide) (by decide) (by decide) (by decide)).mono ?_
  rintro e w7 ⟨rfl, hT⟩
  rw [show decide (0 % 2 ≠ 0) = false from rfl] at hT
  generalize (DeskS.first ls (1 + p)).work 500 0 (-1) false = D at hT hbeg
  obtain ⟨⟨fp7, ⟨vt, vf, fx7, fd7, ft7, ff7, hM7, rfl⟩, hx7⟩, hk7⟩ := hT
  have hfin : ∀ w', Kept no w7 w' → ∃ b' bx' bd' fp' D', Ending.returned (.tuple #[.pointer (some ⟨G + 1 + 1, 0, none⟩), .bool true]) = .returned (.tuple #[.pointer (some ⟨b', 0, none⟩), .bool true]) ∧ DeskR w' b' bx' bd' D' fp' ∧ Begun D' ls (1 + p) ∧ (∀ x ∈ fp', w.heap.size ≤ x) ∧ Kept no w w' := fun w' hk' => by
    have hge : ∀ x ∈ deskFp (G + 1 + 1) fx fd [G] [G + 1], w.heap.size ≤ x := fun x hx => by
      simp only [deskFp, List.mem_cons, List.mem_append, List.not_mem_nil, or_false] at hx
      rcases hx with rfl | hx | hx | rfl | rfl
      · omega
      · have := hfx x hx; omega
      · have := hfd x hx; omega
      · omega
      · omega
    refine ⟨_, bx, bd, _, D, rfl, ⟨vt, vf, fx7, fd7, ft7, ff7, hM7.kept hk' (fun _ _ h => h), rfl⟩, hbeg, fun x hx => ?_, (hkw6.step' hk7 (fun x hx hlt => by have := hge x hx; omega)).step hk'⟩
    rcases hx7 x hx with h | h
    · exact hge x h
    · have := hkw6.size; omega
  have HFIN : Hid (∀ w', Kept no w7 w' → ∃ b' bx' bd' fp' D', Ending.returned (.tuple #[.pointer (some ⟨G + 1 + 1, 0, none⟩), .bool true]) = .returned (.tuple #[.pointer (some ⟨b', 0, none⟩), .bool true]) ∧ DeskR w' b' bx' bd' D' fp' ∧ Begun D' ls (1 + p) ∧ (∀ x ∈ fp', w.heap.size ≤ x) ∧ Kept no w w') := hfin
  clear hfin
  have hkd : (D.doc.kind : Int) = 0 := by rw [hbeg.kind]; rfl
  have htx : D.doc.text = s := by unfold DocS.text; rw [hbeg.lines]; exact hs
  go_wp2_with fail
  refine (look_doc hM7.doc).mono ?_
  rintro e w8 ⟨rfl, hk8⟩
  have hM8 := hM7.kept hk8 (fun _ _ h => h)
  go_wp2_with fail
  obtain ⟨hn9, hsz9, hk9⟩ := new1 w8 (Obj.cells #[.int .i64 (D.doc.lines.length : Int), .int .i64 (D.doc.edits : Int), .int .i64 0] viewT)
  have hM9 := hM8.kept hk9 (fun _ _ h => h)
  generalize hV : w8.heap.size = V at hn9 hsz9 ⊢
  generalize w8.alloc (Obj.cells #[.int .i64 (D.doc.lines.length : Int), .int .i64 (D.doc.edits : Int), .int .i64 0] viewT) = w9 at hn9 hsz9 hk9 hM9 ⊢
  refine (text_doc hM9.doc).mono ?_
  rintro e w10 ⟨rfl, hk10⟩
  have hn10 := hk10.get hn9 (fun h => h)
  obtain ⟨hc10, _⟩ := cells_of hn10
  rw [htx]
  have hfw := HFIN.out w10 ((hk8.step hk9).step hk10)
  have HFW : Hid (∃ b' bx' bd' fp' D', Ending.returned (.tuple #[.pointer (some ⟨G + 1 + 1, 0, none⟩), .bool true]) = .returned (.tuple #[.pointer (some ⟨b', 0, none⟩), .bool true]) ∧ DeskR w10 b' bx' bd' D' fp' ∧ Begun D' ls (1 + p) ∧ (∀ x ∈ fp', w.heap.size ≤ x) ∧ Kept no w w10) := hfw
  clear hfw HFIN hM7 hM8 hM9 hbeg hfok hdok' hdok hR hM hD hK hD3 hD6 hK6 hone hx7 hk7
  go_wp2
  refine bodyPost_ret (v := .tuple #[.pointer (some ⟨G + 1 + 1, 0, none⟩), .bool true]) (by simp [results, Try.results4, go_sem]) rfl ?_
  rw [HP.out, HLE.out]
  exact HFW.out
end Go.Proofs.Ytdpfohgkikjeaaa
/- A desk, on: edits, syncs, Saves. Plain mathematics. -/
namespace Go.Proofs.Ytdpfohgkikjeaaa
set_option linter.unusedVariables false
set_option linter.unusedSimpArgs false
set_option linter.unusedVariables false
set_option linter.unusedSimpArgs false
theorem lastOne_sub {α : Type} {l : List α} : ∀ x ∈ lastOne l, x ∈ l := fun x hx => List.mem_of_mem_drop hx

theorem step_files_sub (D : DeskS) (good all : Bool) : ∀ x ∈ (D.step good all).files, x ∈ D.files := by
  unfold DeskS.step
  split
  · exact fun x hx => hx
  · intro x hx
    dsimp only at hx
    split at hx
    · exact lastOne_sub x hx
    · exact hx

theorem work_files_sub (fail : Int) (all : Bool) : ∀ (n i : Nat) (D : DeskS), ∀ x ∈ (D.work n i fail all).files, x ∈ D.files
  | 0, i, D => fun x hx => hx
  | n + 1, i, D => by
    unfold DeskS.work
    split
    · exact fun x hx => hx
    · intro x hx
      exact step_files_sub D _ _ x (work_files_sub fail all n (i + 1) _ x hx)

/-- An edit. -/
def DeskS.edited (D : DeskS) (ls : List Str) (m : Nat) : DeskS := DeskS.begun { D with doc := (D.doc.setLines ls).edited, most := m }

theorem DeskS.Ok.edited {D : DeskS} {N L : Nat} (h : D.Ok N L) (hk : D.doc.kind = 0) {ls : List Str} (hls : TextOk ls) {m : Nat} (hm : m ≤ D.doc.every) : (D.edited ls m).Ok (N + 1) L := by
  have hd : (D.doc.setLines ls).edited.Ok := (h.doc.setLines hls).edited_ok hk
  have hm1 := h.mono (Nat.le_succ N)
  have hch := h.ch
  have hed := h.edits
  have hacts : D.doc.acts = [] := by
    by_cases e : D.doc.acts = []
    · exact e
    · exact absurd hk (h.doc.acts.2 e)
  unfold DeskS.edited DeskS.begun
  by_cases he : D.doc.counted + 1 = D.doc.every
  · have e1 : (D.doc.setLines ls).edited = { D.doc.setLines ls with edits := D.doc.edits + 1, counted := 0, kind := 1, acts := D.doc.wr.acts (textOf ls) D.doc.file } := by
      unfold DocS.edited
      rw [if_pos (show (D.doc.setLines ls).counted + 1 = (D.doc.setLines ls).every from he)]
      rfl
    rw [e1] at hd ⊢
    rw [if_pos rfl]
    obtain ⟨t0, f0, hsw⟩ := h.swok
    refine ⟨hd, hm1.lens, ⟨t0, f0, hsw.more _⟩, by simp; omega, hm1.fl, h.file, fun _ => ⟨prog_start _ _ _ _, by simp⟩, fun e => (by cases e), by show D.doc.edits + 1 ≤ N + 1; omega, hm, hm1.one, h.big, ?_, h.mf0, hm1.mfN⟩
    show (D.doc.wr.acts (textOf ls) D.doc.file).length ≤ 100
    have := acts_length D.doc.wr D.doc.file hls.length
    omega
  · have e1 : (D.doc.setLines ls).edited = { D.doc.setLines ls with edits := D.doc.edits + 1, counted := D.doc.counted + 1 } := by
      unfold DocS.edited
      rw [if_neg (show ¬ (D.doc.setLines ls).counted + 1 = (D.doc.setLines ls).every from he)]
      rfl
    rw [e1] at hd ⊢
    rw [if_neg (by show ¬ D.doc.kind = 1; omega)]
    exact ⟨hd, hm1.lens, h.swok, hm1.ch, hm1.fl, h.file, fun e => absurd e (by show ¬ D.doc.kind = 1; omega), fun e => absurd e (by show ¬ D.doc.kind = 2; omega), by show D.doc.edits + 1 ≤ N + 1; omega, hm, hm1.one, h.big, h.few, h.mf0, hm1.mfN⟩

/-- A sync is begun. -/
theorem DeskS.Ok.synced {D : DeskS} {N L : Nat} (h : D.Ok N L) (hk : D.doc.kind = 0) (hd : D.doc.beginSync.Ok) : (DeskS.begun { D with doc := D.doc.beginSync }).Ok (N + 1) L := by
  have hm1 := h.mono (Nat.le_succ N)
  have hch := h.ch
  have hed := h.edits
  unfold DeskS.begun
  rw [if_pos (show D.doc.beginSync.kind = 1 from rfl)]
  obtain ⟨t0, f0, hsw⟩ := h.swok
  refine ⟨hd, hm1.lens, ⟨t0, f0, hsw.more _⟩, by simp; omega, hm1.fl, h.file, fun _ => ⟨prog_start _ _ _ _, by simp⟩, fun e => (by cases e), by show D.doc.edits ≤ N + 1; omega, h.most, hm1.one, h.big, ?_, h.mf0, hm1.mfN⟩
  show (D.doc.wr.acts D.doc.text D.doc.file).length ≤ 100
  have := acts_length D.doc.wr D.doc.file (t := D.doc.text) h.doc.text.length
  omega

/-- A Save is begun. -/
theorem DeskS.Ok.saved {D : DeskS} {N L : Nat} (h : D.Ok N L) (hk : D.doc.kind = 0) {mf : List Str} (hm0 : mf ≠ []) (hm1' : mf.length ≤ N + 1) (hd : D.doc.save.2.Ok) : DeskS.Ok { D with doc := D.doc.save.2, files := D.files ++ [D.doc.text], mf := mf } (N + 1) L := by
  have hm1 := h.mono (Nat.le_succ N)
  have hfl := h.fl
  have hed := h.edits
  have e1 : D.doc.save.2 = { D.doc with kind := 2, acts := saveActs D.doc.text } := by
    unfold DocS.save
    rw [if_neg (by omega)]
  rw [e1] at hd ⊢
  refine ⟨hd, hm1.lens, h.swok, hm1.ch, by simp; omega, h.file.more _, fun e => (by cases e), fun _ => ⟨.inl rfl, by simp; rfl⟩, hm1.edits, h.most, hm1.one, h.big, ?_, hm0, hm1'⟩
  show (saveActs D.doc.text).length ≤ 100
  unfold saveActs
  split <;> simp
end Go.Proofs.Ytdpfohgkikjeaaa
/- Saved: the walk. -/
namespace Go.Proofs.Ytdpfohgkikjeaaa
set_option linter.unusedVariables false
set_option linter.unusedSimpArgs false
open Go.RowKit
set_option linter.unusedVariables false
set_option linter.unusedSimpArgs false
theorem DiskR.fileCell {w b d fp} (h : DiskR w b d fp) : w.cell? ⟨b, 1, none⟩ = some (sv d.file) := by
  obtain ⟨vs, vals, bl, h, rfl⟩ := h
  rw [(cells_of h.cells).1]; rfl

theorem replace_d {w b d fp} (h : DocR w b d fp) (at_ : Int) (l : Str) (hl : l.length ≤ 140737488355328) (he : d.edits ≤ 1000000000000) :
    Calls Try.prog 5 #[.pointer (some ⟨b, 0, none⟩), .int .i64 at_, sv l] w fun e w' => e = .returned (.int .i64 ((d.replace at_ l).1 : Int)) ∧ DocTo w w' b fp (d.replace at_ l).2 := by
  obtain ⟨va, tfp, afp, h, rfl⟩ := h
  exact replace_doc h at_ l hl he
theorem insert_d {w b d fp} (h : DocR w b d fp) (at_ : Int) (l : Str) (hl : l.length ≤ 140737488355328) (he : d.edits ≤ 1000000000000) :
    Calls Try.prog 7 #[.pointer (some ⟨b, 0, none⟩), .int .i64 at_, sv l] w fun e w' => e = .returned (.int .i64 ((d.insert at_ l).1 : Int)) ∧ DocTo w w' b fp (d.insert at_ l).2 := by
  obtain ⟨va, tfp, afp, h, rfl⟩ := h
  exact insert_doc h at_ l hl he
theorem save_d {w b d fp} (h : DocR w b d fp) (hk : d.kind = 0) : Calls Try.prog 9 #[.pointer (some ⟨b, 0, none⟩)] w fun e w' => e = .returned (.int .i64 0) ∧ DocTo w w' b fp d.save.2 := by
  obtain ⟨va, tfp, afp, h, rfl⟩ := h
  exact save_yes h hk
theorem DocTo.same' {w w' : World} {b : Nat} {d : DocS} {fp : List Nat} (h : DocR w b d fp) (hk : Kept no w w') : DocTo w w' b fp d := ⟨⟨fp, h.kept hk (fun _ _ h => h), fun x hx => .inl hx⟩, hk.mono (fun _ h _ => h.elim)⟩

/-- The desk of Saved behind its edit. -/
def savedLines (raw : List Int) (c : Int) : List Str := if raw = [] then [lineN c] else lineN c :: (linesN raw).drop 1

theorem savedLines_ok (raw : List Int) (c : Int) : TextOk (savedLines raw c) := by
  have h := linesN_ok raw
  unfold savedLines
  split
  · exact ⟨by simp, fun l hl => by simp at hl; subst hl; exact lineN_ok c⟩
  · refine ⟨?_, fun l hl => ?_⟩
    · rename_i hne
      have h2 : 0 < (linesN raw).length := by
        unfold linesN
        rw [List.length_map, List.length_take]
        have := List.length_pos_iff.2 hne
        omega
      have := h.few
      simp only [List.length_cons, List.length_drop]
      omega
    · rcases List.mem_cons.1 hl with rfl | hl
      · exact lineN_ok c
      · exact h.lines l (List.mem_of_mem_drop hl)

theorem savedLines_ne (raw : List Int) (c : Int) : textOf (savedLines raw c) ≠ [] := by
  unfold savedLines
  split
  · rw [textOf_cons]; simp
  · rw [textOf_cons]; simp

theorem linesN_len (raw : List Int) : (linesN raw).length = min 60 raw.length := by simp [linesN]

theorem replace_raw {d : DocS} {raw : List Int} (hl : d.lines = linesN raw) (hk : d.kind = 0) (c : Int) : d.replace 0 (lineN c) = if raw = [] then (1, d) else (0, (d.setLines (savedLines raw c)).edited) := by
  have hlen := linesN_len raw
  unfold DocS.replace
  rw [if_neg (by omega), hl]
  by_cases hr : raw = []
  · subst hr
    rw [if_pos rfl, if_pos]
    right; simp [linesN]
  · have hpos := List.length_pos_iff.2 hr
    rw [if_neg hr, if_neg (by omega), if_neg (by simpa using lineN_ok c)]
    simp [savedLines, hr]

theorem insert_raw {d : DocS} {raw : List Int} (hl : d.lines = linesN raw) (hk : d.kind = 0) (c : Int) (hr : raw = []) : d.insert 0 (lineN c) = (0, (d.setLines (savedLines raw c)).edited) := by
  subst hr
  unfold DocS.insert
  have e : linesN [] = [] := rfl
  rw [if_neg (by omega), hl, e, if_neg (by simp), if_neg (by simpa using lineN_ok c), if_neg (by simp)]
  simp [savedLines]
end Go.Proofs.Ytdpfohgkikjeaaa
/- Saved: the walk, on. (The seat of Saved alone.) -/
namespace Go.Proofs.Ytdpfohgkikjeaaa
set_option linter.unusedVariables false
set_option linter.unusedSimpArgs false
open Go.RowKit
set_option linter.unusedVariables false
set_option linter.unusedSimpArgs false
set_option maxRecDepth 100000 in
set_option maxHeartbeats 4000000 in
theorem saved_walk {w : World} {B : Nat} {v vl : Value} {raw left : List Int} (hr : IntsAt w B v raw) (hleft : IntsAt w B vl left) (c acts fail : Int) (hc : RawOk c) (hacts : RawOk acts) (hfail : RawOk fail) :
    Calls Try.prog 3 #[v, .int .i64 c, .int .i64 acts, .int .i64 fail, vl] w fun e w' => e = .returned (.bool true) ∧ Kept no w w' := by
  obtain ⟨pv, cv, hv⟩ : ∃ pv cv, v = .slice pv raw.length cv := by
    rcases hr.at_ with ⟨a, c, rfl, rfl⟩ | ⟨b, o, c, rfl, hb, hc⟩
    · exact ⟨_, _, rfl⟩
    · exact ⟨_, _, rfl⟩
  have hfew := hr.few
  subst hv
  go_enter Try.func3, Try.ntmps3
  go_wp2_with fail
  refine (begin_any hr 19 ⟨by decide, by decide⟩).mono ?_
  rintro e w1 ⟨b, bx, bd, fp, D, rfl, hR, hB, hge, hk1⟩
  have hleft0 := hleft
  clear hr hleft
  obtain ⟨vt, vf, fx, fd, ft, ff, hM, rfl⟩ := hR
  obtain ⟨hc1, _⟩ := cells_of hM.cells
  have hf1 := hM.disk.fileCell
  have hold : D.disk.file = textOf (linesN raw) := by
    have := hB.ok.file.1
    rw [hB.files] at this
    exact List.mem_singleton.1 this
  have hedits : D.doc.edits ≤ 1000000000000 := by rw [hB.edits]; decide
  have hlk := lineN_ok c
  have hrep := fun (W : World) (h : DocR W bx D.doc fx) => replace_d h 0 (lineN c) (by have := hlk.1; omega) hedits
  have hins := fun (W : World) (fx' : List Nat) (h : DocR W bx D.doc fx') => insert_d h 0 (lineN c) (by have := hlk.1; omega) hedits
  have hbl1 : b < w1.heap.size := lt_of_heap hM.cells
  have hap := hM.ap
  have hEv : ¬ 0 + 1 = 1 + pickN 19 20 := by decide
  by_cases hraw : raw = []
  · subst hraw
    have hraw : ([] : List Int) = [] := rfl
    have hlen0 : True := trivial
    rw [replace_raw hB.lines hB.kind c, if_pos hraw] at hrep
    rw [insert_raw hB.lines hB.kind c hraw] at hins
    have hb0 : ∀ W, Kept no w1 W → W.cell? ⟨b, 0, none⟩ = some (.pointer (some ⟨bx, 0, none⟩)) := fun W hW => hW.read (by rw [(cells_of hM.cells).1]; rfl) (fun h => h)
    go_wp2_with fail
    refine wp_region3 (fun W => Kept no w1 W) [(0, true), (1, true), (2, true), (3, false), (4, true)] [5, 6, 7] (by kernel_rfl) (by kernel_rfl) (fun _ _ d _ _ h => by cases d <;> exact h) ((Kept.refl _ _).drew) ?_
    repeat ((first | refine wpPre3_pure rfl rfl (fun W => (by go_simp; rfl)) ?_ | refine wpPre3_read rfl rfl (fun W hW => (by have h1 := hb0 W hW; go_simp; rfl)) ?_); simp only [Act.put, List.setIfInBounds_toArray, List.set])
    refine wpPre3_nil ?_
    have hkd_a : Kept no w1 w1.drew := (Kept.refl _ _).drew
    have hMd_a := hM.kept hkd_a (fun _ _ h => h)
    generalize w1.drew = wd_a at hkd_a hMd_a ⊢
    refine wpTail3_cons rfl rfl (fun K hK => ?_)
    go_wp2_with fail
    refine (line_any c hc _).mono ?_
    rintro e wl_a ⟨rfl, hkl_a⟩
    refine hK _ _ ⟨fun h => h.step hkl_a, ?_⟩
    clear hK
    have hMl_a := hMd_a.kept hkl_a (fun _ _ h => h)
    have hkw_a : Kept no w wl_a := (hk1.step hkd_a).step hkl_a
    refine wpTail3_last (by kernel_rfl) rfl rfl (fun K hK => ?_)
    go_wp2_with fail
    refine (hrep _ hMl_a.doc).mono ?_
    rintro e w3 ⟨rfl, hT_a⟩
    refine hK _ _ ?_
    clear hK
    refine wpTail3_last (by kernel_rfl) rfl rfl (fun K hK => ?_)
    go_wp2_with fail
    refine wpTail3_nil ?_
    obtain ⟨fx3, hM3, hx_a⟩ := hMl_a.doc_to hT_a
    have hge_a : ∀ x ∈ deskFp b fx3 fd ft ff, w.heap.size ≤ x := fun x hx => by
      simp only [deskFp, List.mem_cons, List.mem_append] at hx
      rcases hx with rfl | hx | hx | hx | hx
      · exact hge _ (by simp)
      · rcases hx_a x hx with hx | hx
        · exact (fun x hx => hge x (by have hx : x ∈ fx := hx; simp [hx])) x hx
        · have := hkw_a.size; omega
      · exact hge x (by simp [hx])
      · exact hge x (by simp [hx])
      · exact hge x (by simp [hx])
    have hkw3 : Kept no w w3 := hkw_a.step' hT_a.kept (fun x hx hlt => by have := (fun x hx => hge x (by have hx : x ∈ fx := hx; simp [hx])) x hx; omega)
    clear hb0
    have hb0 : ∀ W, Kept no w3 W → W.cell? ⟨b, 0, none⟩ = some (.pointer (some ⟨bx, 0, none⟩)) := fun W hW => hW.read (by rw [(cells_of hM3.cells).1]; rfl) (fun h => h)
    go_wp2_with fail
    refine wp_region3 (fun W => Kept no w3 W) [(0, true), (1, true), (2, true), (3, false), (4, true)] [5, 6, 7] (by kernel_rfl) (by kernel_rfl) (fun _ _ d _ _ h => by cases d <;> exact h) ((Kept.refl _ _).drew) ?_
    repeat ((first | refine wpPre3_pure rfl rfl (fun W => (by go_simp; rfl)) ?_ | refine wpPre3_read rfl rfl (fun W hW => (by have h1 := hb0 W hW; go_simp; rfl)) ?_); simp only [Act.put, List.setIfInBounds_toArray, List.set])
    refine wpPre3_nil ?_
    have hkd_b : Kept no w3 w3.drew := (Kept.refl _ _).drew
    have hMd_b := hM3.kept hkd_b (fun _ _ h => h)
    generalize w3.drew = wd_b at hkd_b hMd_b ⊢
    refine wpTail3_cons rfl rfl (fun K hK => ?_)
    go_wp2_with fail
    refine (line_any c hc _).mono ?_
    rintro e wl_b ⟨rfl, hkl_b⟩
    refine hK _ _ ⟨fun h => h.step hkl_b, ?_⟩
    clear hK
    have hMl_b := hMd_b.kept hkl_b (fun _ _ h => h)
    have hkw_b : Kept no w wl_b := (hkw3.step hkd_b).step hkl_b
    refine wpTail3_last (by kernel_rfl) rfl rfl (fun K hK => ?_)
    go_wp2_with fail
    refine (hins _ _ hMl_b.doc).mono ?_
    rintro e w4 ⟨rfl, hT_b⟩
    refine hK _ _ ?_
    clear hK
    refine wpTail3_last (by kernel_rfl) rfl rfl (fun K hK => ?_)
    go_wp2_with fail
    refine wpTail3_nil ?_
    obtain ⟨fx4, hM4, hx_b⟩ := hMl_b.doc_to hT_b
    have hge_b : ∀ x ∈ deskFp b fx4 fd ft ff, w.heap.size ≤ x := fun x hx => by
      simp only [deskFp, List.mem_cons, List.mem_append] at hx
      rcases hx with rfl | hx | hx | hx | hx
      · exact hge _ (by simp)
      · rcases hx_b x hx with hx | hx
        · exact (fun x hx => hge_a x (by have hx : x ∈ fx3 := hx; simp [hx])) x hx
        · have := hkw_b.size; omega
      · exact hge x (by simp [hx])
      · exact hge x (by simp [hx])
      · exact hge x (by simp [hx])
    have hkw4 : Kept no w w4 := hkw_b.step' hT_b.kept (fun x hx hlt => by have := (fun x hx => hge_a x (by have hx : x ∈ fx3 := hx; simp [hx])) x hx; omega)
    clear hb0
    have hge4 : ∀ x ∈ deskFp b fx4 fd ft ff, w.heap.size ≤ x := hge_b
    generalize hd2 : (D.doc.setLines (savedLines [] c)).edited = d2 at hM4
    have hd2t : d2.text = textOf (savedLines [] c) := by
      rw [← hd2, DocS.edited]; split <;> rfl
    have hd2k : d2.kind = 0 := by
      rw [← hd2, DocS.edited, if_neg (by show ¬ D.doc.counted + 1 = D.doc.every; rw [hB.counted, hB.every]; exact hEv)]
      exact hB.kind
    have hE1 : D.edited (savedLines [] c) 0 = { D with doc := d2, most := 0 } := by
      unfold DeskS.edited DeskS.begun
      rw [hd2, if_neg (by show ¬ d2.kind = 1; omega)]
    have okE := hB.ok.edited hB.kind (savedLines_ok [] c) (m := 0) (Nat.zero_le _)
    rw [hE1] at okE
    clear hd2
    obtain ⟨hc4, _⟩ := cells_of hM4.cells
    go_wp2_with fail
    refine (text_doc hM4.doc).mono ?_
    rintro e w5 ⟨rfl, hk5⟩
    have hM5 := hM4.kept hk5 (fun _ _ h => h)
    have hkw5 := hkw4.step hk5
    obtain ⟨hc5, _⟩ := cells_of hM5.cells
    go_wp2_with fail
    refine (save_d hM5.doc hd2k).mono ?_
    rintro e w6 ⟨rfl, hT6⟩
    obtain ⟨fx6, hM6, hx6⟩ := hM5.doc_to hT6
    have hkw6 : Kept no w w6 := hkw5.step' hT6.kept (fun x hx hlt => by have := hge4 x (by have hx : x ∈ fx4 := hx; simp [hx]); omega)
    have hge6 : ∀ x ∈ deskFp b fx6 fd ft ff, w.heap.size ≤ x := fun x hx => by
      simp only [deskFp, List.mem_cons, List.mem_append] at hx
      rcases hx with rfl | hx | hx | hx | hx
      · exact hge4 _ (by simp)
      · rcases hx6 x hx with hx | hx
        · exact hge4 x (by simp [hx])
        · have := hkw5.size; omega
      · exact hge4 x (by simp [hx])
      · exact hge4 x (by simp [hx])
      · exact hge4 x (by simp [hx])
    have ok3 := okE.saved hd2k (mf := D.mf) okE.mf0 (Nat.le_succ_of_le okE.mfN) hM6.doc.ok
    have hR6 : DeskRn w6 b bx bd { D with doc := d2.save.2, files := D.files ++ [d2.text], most := 0 } ⟨D.doc.text, D.doc.every, D.doc.counted, D.most⟩ (deskFp b fx6 fd ft ff) := ⟨_, _, _, _, _, _, hM6, rfl⟩
    have hsv : d2.save.2 = { d2 with kind := 2, acts := saveActs d2.text } := by
      unfold DocS.save
      rw [if_neg (by omega)]
    have hne2 : d2.text ≠ [] := by rw [hd2t]; exact savedLines_ne [] c
    have hac5 : (saveActs d2.text).length = 5 := by unfold saveActs; rw [if_neg hne2]; rfl
    have hD3 : (DeskS.mk d2.save.2 D.disk D.ch (D.files ++ [d2.text]) 0 D.mf) = { D with doc := d2.save.2, files := D.files ++ [d2.text], most := 0 } := rfl
    obtain ⟨D3, hD3e⟩ : ∃ D3 : DeskS, D3 = { D with doc := d2.save.2, files := D.files ++ [d2.text], most := 0 } := ⟨_, rfl⟩
    have hf3 : D3.files = [textOf (linesN []), d2.text] := by rw [hD3e]; show D.files ++ [d2.text] = _; rw [hB.files]; rfl
    have hk3 : D3.doc.kind = 2 := by rw [hD3e]; show d2.save.2.kind = 2; rw [hsv]
    have ha3 : D3.doc.acts.length = 5 := by rw [hD3e]; show d2.save.2.acts.length = 5; rw [hsv]; exact hac5
    have ok3' : D3.Ok 503 2460 := by rw [hD3e]; exact ok3
    rw [← hD3e] at hR6
    clear hD3 ok3 hsv hac5 hD3e okE hE1 hM4 hM5
    obtain ⟨hc6, _⟩ := cells_of hM6.cells
    go_wp2_with fail
    refine (pick_keep acts 7 7 rfl hacts (by decide) (by decide) w6).mono ?_
    rintro e w7 ⟨rfl, hw⟩
    rw [hw]
    clear hw
    have hn7 := pickN_lt acts (n := 7) (by decide)
    generalize pickN acts 7 = n at hn7 ⊢
    go_wp2_with fail
    refine (pick_keep fail 9 9 rfl hfail (by decide) (by decide) w6).mono ?_
    rintro e w7 ⟨rfl, hw⟩
    rw [hw]
    clear hw
    have hq9 := pickN_lt fail (n := 9) (by decide)
    generalize pickN fail 9 = q at hq9 ⊢
    go_wp2_with fail
    refine (pick_keep c 2 2 rfl hc (by decide) (by decide) w6).mono ?_
    rintro e w7 ⟨rfl, hw⟩
    rw [hw]
    clear hw
    have hh2 := pickN_lt c (n := 2) (by decide)
    generalize pickN c 2 = how at hh2 ⊢
    go_wp2_with fail
    refine (work_n hR6 ok3' n _ _ _ how rfl rfl (by omega) (by omega) (by omega) (by omega) (by omega) (by decide)).mono ?_
    rintro e w7 ⟨rfl, hT7⟩
    have ok4 := ok3'.work (fail := (q : Int)) (all := decide (how % 2 ≠ 0)) n 0
    have hsub := work_files_sub (q : Int) (decide (how % 2 ≠ 0)) n 0 D3
    have hall : 5 ≤ n ∧ 5 ≤ q → (D3.work n 0 (q : Int) (decide (how % 2 ≠ 0))).files = [d2.text] ∧ (D3.work n 0 (q : Int) (decide (how % 2 ≠ 0))).doc.kind = 0 := fun ⟨h5, h6⟩ => by
      rw [work_all n 0 D3 (by omega) (by intro e; rw [e] at ha3; cases ha3) (by omega) (.inr (by rw [ha3]; omega))]
      refine ⟨?_, succeeded_kind _⟩
      show (if D3.doc.kind ≠ 1 then lastOne D3.files else D3.files) = _
      rw [if_pos (by omega), hf3]; rfl
    generalize D3.work n 0 (q : Int) (decide (how % 2 ≠ 0)) = D4 at hT7 ok4 hsub hall
    obtain ⟨⟨fp7, ⟨vt7, vf7, fx7, fd7, ft7, ff7, hM7, rfl⟩, hx7⟩, hk7⟩ := hT7
    have hkw7 : Kept no w w7 := hkw6.step' hk7 (fun x hx hlt => by have := hge6 x hx; omega)
    obtain ⟨hc7, _⟩ := cells_of hM7.cells
    go_wp2_with fail
    refine (look_doc hM7.doc).mono ?_
    rintro e w8 ⟨rfl, hk8⟩
    have hM8 := hM7.kept hk8 (fun _ _ h => h)
    obtain ⟨hc8, _⟩ := cells_of hM8.cells
    have hb8 : b < w8.heap.size := lt_of_heap hM8.cells
    go_wp2_with fail
    obtain ⟨hn9, hsz9, hk9⟩ := new1 w8 (Obj.cells #[.int .i64 (D4.doc.lines.length : Int), .int .i64 (D4.doc.edits : Int), .int .i64 (D4.doc.kind : Int)] viewT)
    have hM9 := hM8.kept hk9 (fun _ _ h => h)
    generalize hV : w8.heap.size = V at hn9 hsz9 ⊢
    generalize w8.alloc (Obj.cells #[.int .i64 (D4.doc.lines.length : Int), .int .i64 (D4.doc.edits : Int), .int .i64 (D4.doc.kind : Int)] viewT) = w9 at hn9 hsz9 hk9 hM9 ⊢
    have hkw9 := (hkw7.step hk8).step hk9
    have hleft9 := hleft0.kept hkw9 (fun _ h => h.elim)
    refine (crash_any hM9.disk ok4.lens (by omega) (by decide) hleft9).mono ?_
    rintro e w10 ⟨⟨BK, fk, secs, f, rfl, hKD, hsl, hlv, hlf, hkn, hk10⟩⟩
    have hff := ok4.file.leaves hlf
    have hff2 := hsub f hff
    rw [hf3] at hff2
    have hfd := ok4.file.1
    have hn10 := hk10.get hn9 (fun h => h)
    have hM10 := hM9.kept hk10 (fun _ _ h => h)
    obtain ⟨hc10, _⟩ := cells_of hM10.cells
    obtain ⟨hcv10, _⟩ := cells_of hn10
    have hKf := hKD.fileCell
    have hKf' : w10.cell? ⟨BK, 1, none⟩ = some (sv f) := hKf
    have hDf := hM10.disk.fileCell
    have hkw10 : Kept no w w10 := hkw9.step hk10
    have hnow : textOf (savedLines [] c) ≠ [] := savedLines_ne [] c
    rw [hd2t] at hff2 hall
    clear hf3 hsub hKf hd2t hne2 hM10 hM9 hM8 hM7 hM6 hT6 ok4 ok3' hKD hlv hlf hsl hc8 hc7 hc6
    generalize hold3 : textOf (linesN []) = old at *
    clear hold3
    generalize hnow3 : textOf (savedLines [] c) = now at *
    clear hnow3
    have hne' : (now == []) = false := by simpa using hnow
    by_cases h5 : 5 ≤ n ∧ 5 ≤ q
    · obtain ⟨e1, e2⟩ := hall h5
      obtain ⟨h5a, h5b⟩ := h5
      rw [e1] at hff hfd
      have hfn := List.mem_singleton.1 hff
      have hdn := List.mem_singleton.1 hfd
      subst hfn
      have h5a' : (5 : Int) ≤ (n : Int) := by omega
      have h5b' : (5 : Int) ≤ (q : Int) := by omega
      have hkz : (D4.doc.kind : Int) = 0 := by omega
      rw [hdn] at hDf
      clear hdn hff hfd hff2 hall e1 e2
      go_wp2
      go_ret
      exact ⟨by simp, hkw10⟩
    · have hfor : f = old ∨ f = now := by simpa using hff2
      clear hff2 hff hfd hall
      have hway : (f == old) = true ∨ ((f == old) = false ∧ (f == now) = true) := by
        rcases hfor with e | e
        · exact .inl (by simpa using e)
        · by_cases e2 : f = old
          · exact .inl (by simpa using e2)
          · exact .inr ⟨by simpa using e2, by simpa using e⟩
      clear hfor
      by_cases hn5 : 5 ≤ n
      · have hq5 : ¬ (5 : Int) ≤ (q : Int) := by omega
        have hn5' : (5 : Int) ≤ (n : Int) := by omega
        rcases hway with hw1 | ⟨hw1, hw2⟩
        all_goals
          go_wp2
          go_ret
          exact ⟨by simp [hw1], hkw10⟩
      · have hn5' : ¬ (5 : Int) ≤ (n : Int) := by omega
        rcases hway with hw1 | ⟨hw1, hw2⟩
        all_goals
          go_wp2
          go_ret
          exact ⟨by simp [hw1], hkw10⟩
  · have hlen0 : ¬ (raw.length : Int) = 0 := by
      have := List.length_pos_iff.2 hraw; omega
    rw [replace_raw hB.lines hB.kind c, if_neg hraw] at hrep
    have hb0 : ∀ W, Kept no w1 W → W.cell? ⟨b, 0, none⟩ = some (.pointer (some ⟨bx, 0, none⟩)) := fun W hW => hW.read (by rw [(cells_of hM.cells).1]; rfl) (fun h => h)
    go_wp2_with fail
    refine wp_region3 (fun W => Kept no w1 W) [(0, true), (1, true), (2, true), (3, false), (4, true)] [5, 6, 7] (by kernel_rfl) (by kernel_rfl) (fun _ _ d _ _ h => by cases d <;> exact h) ((Kept.refl _ _).drew) ?_
    repeat ((first | refine wpPre3_pure rfl rfl (fun W => (by go_simp; rfl)) ?_ | refine wpPre3_read rfl rfl (fun W hW => (by have h1 := hb0 W hW; go_simp; rfl)) ?_); simp only [Act.put, List.setIfInBounds_toArray, List.set])
    refine wpPre3_nil ?_
    have hkd_a : Kept no w1 w1.drew := (Kept.refl _ _).drew
    have hMd_a := hM.kept hkd_a (fun _ _ h => h)
    generalize w1.drew = wd_a at hkd_a hMd_a ⊢
    refine wpTail3_cons rfl rfl (fun K hK => ?_)
    go_wp2_with fail
    refine (line_any c hc _).mono ?_
    rintro e wl_a ⟨rfl, hkl_a⟩
    refine hK _ _ ⟨fun h => h.step hkl_a, ?_⟩
    clear hK
    have hMl_a := hMd_a.kept hkl_a (fun _ _ h => h)
    have hkw_a : Kept no w wl_a := (hk1.step hkd_a).step hkl_a
    refine wpTail3_last (by kernel_rfl) rfl rfl (fun K hK => ?_)
    go_wp2_with fail
    refine (hrep _ hMl_a.doc).mono ?_
    rintro e w4 ⟨rfl, hT_a⟩
    refine hK _ _ ?_
    clear hK
    refine wpTail3_last (by kernel_rfl) rfl rfl (fun K hK => ?_)
    go_wp2_with fail
    refine wpTail3_nil ?_
    obtain ⟨fx4, hM4, hx_a⟩ := hMl_a.doc_to hT_a
    have hge_a : ∀ x ∈ deskFp b fx4 fd ft ff, w.heap.size ≤ x := fun x hx => by
      simp only [deskFp, List.mem_cons, List.mem_append] at hx
      rcases hx with rfl | hx | hx | hx | hx
      · exact hge _ (by simp)
      · rcases hx_a x hx with hx | hx
        · exact (fun x hx => hge x (by have hx : x ∈ fx := hx; simp [hx])) x hx
        · have := hkw_a.size; omega
      · exact hge x (by simp [hx])
      · exact hge x (by simp [hx])
      · exact hge x (by simp [hx])
    have hkw4 : Kept no w w4 := hkw_a.step' hT_a.kept (fun x hx hlt => by have := (fun x hx => hge x (by have hx : x ∈ fx := hx; simp [hx])) x hx; omega)
    clear hb0
    have hge4 : ∀ x ∈ deskFp b fx4 fd ft ff, w.heap.size ≤ x := hge_a
    generalize hd2 : (D.doc.setLines (savedLines raw c)).edited = d2 at hM4
    have hd2t : d2.text = textOf (savedLines raw c) := by
      rw [← hd2, DocS.edited]; split <;> rfl
    have hd2k : d2.kind = 0 := by
      rw [← hd2, DocS.edited, if_neg (by show ¬ D.doc.counted + 1 = D.doc.every; rw [hB.counted, hB.every]; exact hEv)]
      exact hB.kind
    have hE1 : D.edited (savedLines raw c) 0 = { D with doc := d2, most := 0 } := by
      unfold DeskS.edited DeskS.begun
      rw [hd2, if_neg (by show ¬ d2.kind = 1; omega)]
    have okE := hB.ok.edited hB.kind (savedLines_ok raw c) (m := 0) (Nat.zero_le _)
    rw [hE1] at okE
    clear hd2
    obtain ⟨hc4, _⟩ := cells_of hM4.cells
    go_wp2_with fail
    refine (text_doc hM4.doc).mono ?_
    rintro e w5 ⟨rfl, hk5⟩
    have hM5 := hM4.kept hk5 (fun _ _ h => h)
    have hkw5 := hkw4.step hk5
    obtain ⟨hc5, _⟩ := cells_of hM5.cells
    go_wp2_with fail
    refine (save_d hM5.doc hd2k).mono ?_
    rintro e w6 ⟨rfl, hT6⟩
    obtain ⟨fx6, hM6, hx6⟩ := hM5.doc_to hT6
    have hkw6 : Kept no w w6 := hkw5.step' hT6.kept (fun x hx hlt => by have := hge4 x (by have hx : x ∈ fx4 := hx; simp [hx]); omega)
    have hge6 : ∀ x ∈ deskFp b fx6 fd ft ff, w.heap.size ≤ x := fun x hx => by
      simp only [deskFp, List.mem_cons, List.mem_append] at hx
      rcases hx with rfl | hx | hx | hx | hx
      · exact hge4 _ (by simp)
      · rcases hx6 x hx with hx | hx
        · exact hge4 x (by simp [hx])
        · have := hkw5.size; omega
      · exact hge4 x (by simp [hx])
      · exact hge4 x (by simp [hx])
      · exact hge4 x (by simp [hx])
    have ok3 := okE.saved hd2k (mf := D.mf) okE.mf0 (Nat.le_succ_of_le okE.mfN) hM6.doc.ok
    have hR6 : DeskRn w6 b bx bd { D with doc := d2.save.2, files := D.files ++ [d2.text], most := 0 } ⟨D.doc.text, D.doc.every, D.doc.counted, D.most⟩ (deskFp b fx6 fd ft ff) := ⟨_, _, _, _, _, _, hM6, rfl⟩
    have hsv : d2.save.2 = { d2 with kind := 2, acts := saveActs d2.text } := by
      unfold DocS.save
      rw [if_neg (by omega)]
    have hne2 : d2.text ≠ [] := by rw [hd2t]; exact savedLines_ne raw c
    have hac5 : (saveActs d2.text).length = 5 := by unfold saveActs; rw [if_neg hne2]; rfl
    have hD3 : (DeskS.mk d2.save.2 D.disk D.ch (D.files ++ [d2.text]) 0 D.mf) = { D with doc := d2.save.2, files := D.files ++ [d2.text], most := 0 } := rfl
    obtain ⟨D3, hD3e⟩ : ∃ D3 : DeskS, D3 = { D with doc := d2.save.2, files := D.files ++ [d2.text], most := 0 } := ⟨_, rfl⟩
    have hf3 : D3.files = [textOf (linesN raw), d2.text] := by rw [hD3e]; show D.files ++ [d2.text] = _; rw [hB.files]; rfl
    have hk3 : D3.doc.kind = 2 := by rw [hD3e]; show d2.save.2.kind = 2; rw [hsv]
    have ha3 : D3.doc.acts.length = 5 := by rw [hD3e]; show d2.save.2.acts.length = 5; rw [hsv]; exact hac5
    have ok3' : D3.Ok 503 2460 := by rw [hD3e]; exact ok3
    rw [← hD3e] at hR6
    clear hD3 ok3 hsv hac5 hD3e okE hE1 hM4 hM5
    obtain ⟨hc6, _⟩ := cells_of hM6.cells
    go_wp2_with fail
    refine (pick_keep acts 7 7 rfl hacts (by decide) (by decide) w6).mono ?_
    rintro e w7 ⟨rfl, hw⟩
    rw [hw]
    clear hw
    have hn7 := pickN_lt acts (n := 7) (by decide)
    generalize pickN acts 7 = n at hn7 ⊢
    go_wp2_with fail
    refine (pick_keep fail 9 9 rfl hfail (by decide) (by decide) w6).mono ?_
    rintro e w7 ⟨rfl, hw⟩
    rw [hw]
    clear hw
    have hq9 := pickN_lt fail (n := 9) (by decide)
    generalize pickN fail 9 = q at hq9 ⊢
    go_wp2_with fail
    refine (pick_keep c 2 2 rfl hc (by decide) (by decide) w6).mono ?_
    rintro e w7 ⟨rfl, hw⟩
    rw [hw]
    clear hw
    have hh2 := pickN_lt c (n := 2) (by decide)
    generalize pickN c 2 = how at hh2 ⊢
    go_wp2_with fail
    refine (work_n hR6 ok3' n _ _ _ how rfl rfl (by omega) (by omega) (by omega) (by omega) (by omega) (by decide)).mono ?_
    rintro e w7 ⟨rfl, hT7⟩
    have ok4 := ok3'.work (fail := (q : Int)) (all := decide (how % 2 ≠ 0)) n 0
    have hsub := work_files_sub (q : Int) (decide (how % 2 ≠ 0)) n 0 D3
    have hall : 5 ≤ n ∧ 5 ≤ q → (D3.work n 0 (q : Int) (decide (how % 2 ≠ 0))).files = [d2.text] ∧ (D3.work n 0 (q : Int) (decide (how % 2 ≠ 0))).doc.kind = 0 := fun ⟨h5, h6⟩ => by
      rw [work_all n 0 D3 (by omega) (by intro e; rw [e] at ha3; cases ha3) (by omega) (.inr (by rw [ha3]; omega))]
      refine ⟨?_, succeeded_kind _⟩
      show (if D3.doc.kind ≠ 1 then lastOne D3.files else D3.files) = _
      rw [if_pos (by omega), hf3]; rfl
    generalize D3.work n 0 (q : Int) (decide (how % 2 ≠ 0)) = D4 at hT7 ok4 hsub hall
    obtain ⟨⟨fp7, ⟨vt7, vf7, fx7, fd7, ft7, ff7, hM7, rfl⟩, hx7⟩, hk7⟩ := hT7
    have hkw7 : Kept no w w7 := hkw6.step' hk7 (fun x hx hlt => by have := hge6 x hx; omega)
    obtain ⟨hc7, _⟩ := cells_of hM7.cells
    go_wp2_with fail
    refine (look_doc hM7.doc).mono ?_
    rintro e w8 ⟨rfl, hk8⟩
    have hM8 := hM7.kept hk8 (fun _ _ h => h)
    obtain ⟨hc8, _⟩ := cells_of hM8.cells
    have hb8 : b < w8.heap.size := lt_of_heap hM8.cells
    go_wp2_with fail
    obtain ⟨hn9, hsz9, hk9⟩ := new1 w8 (Obj.cells #[.int .i64 (D4.doc.lines.length : Int), .int .i64 (D4.doc.edits : Int), .int .i64 (D4.doc.kind : Int)] viewT)
    have hM9 := hM8.kept hk9 (fun _ _ h => h)
    generalize hV : w8.heap.size = V at hn9 hsz9 ⊢
    generalize w8.alloc (Obj.cells #[.int .i64 (D4.doc.lines.length : Int), .int .i64 (D4.doc.edits : Int), .int .i64 (D4.doc.kind : Int)] viewT) = w9 at hn9 hsz9 hk9 hM9 ⊢
    have hkw9 := (hkw7.step hk8).step hk9
    have hleft9 := hleft0.kept hkw9 (fun _ h => h.elim)
    refine (crash_any hM9.disk ok4.lens (by omega) (by decide) hleft9).mono ?_
    rintro e w10 ⟨⟨BK, fk, secs, f, rfl, hKD, hsl, hlv, hlf, hkn, hk10⟩⟩
    have hff := ok4.file.leaves hlf
    have hff2 := hsub f hff
    rw [hf3] at hff2
    have hfd := ok4.file.1
    have hn10 := hk10.get hn9 (fun h => h)
    have hM10 := hM9.kept hk10 (fun _ _ h => h)
    obtain ⟨hc10, _⟩ := cells_of hM10.cells
    obtain ⟨hcv10, _⟩ := cells_of hn10
    have hKf := hKD.fileCell
    have hKf' : w10.cell? ⟨BK, 1, none⟩ = some (sv f) := hKf
    have hDf := hM10.disk.fileCell
    have hkw10 : Kept no w w10 := hkw9.step hk10
    have hnow : textOf (savedLines raw c) ≠ [] := savedLines_ne raw c
    rw [hd2t] at hff2 hall
    clear hf3 hsub hKf hd2t hne2 hM10 hM9 hM8 hM7 hM6 hT6 ok4 ok3' hKD hlv hlf hsl hc8 hc7 hc6
    generalize hold3 : textOf (linesN raw) = old at *
    clear hold3
    generalize hnow3 : textOf (savedLines raw c) = now at *
    clear hnow3
    have hne' : (now == []) = false := by simpa using hnow
    by_cases h5 : 5 ≤ n ∧ 5 ≤ q
    · obtain ⟨e1, e2⟩ := hall h5
      obtain ⟨h5a, h5b⟩ := h5
      rw [e1] at hff hfd
      have hfn := List.mem_singleton.1 hff
      have hdn := List.mem_singleton.1 hfd
      subst hfn
      have h5a' : (5 : Int) ≤ (n : Int) := by omega
      have h5b' : (5 : Int) ≤ (q : Int) := by omega
      have hkz : (D4.doc.kind : Int) = 0 := by omega
      rw [hdn] at hDf
      clear hdn hff hfd hff2 hall e1 e2
      go_wp2
      go_ret
      exact ⟨by simp, hkw10⟩
    · have hfor : f = old ∨ f = now := by simpa using hff2
      clear hff2 hff hfd hall
      have hway : (f == old) = true ∨ ((f == old) = false ∧ (f == now) = true) := by
        rcases hfor with e | e
        · exact .inl (by simpa using e)
        · by_cases e2 : f = old
          · exact .inl (by simpa using e2)
          · exact .inr ⟨by simpa using e2, by simpa using e⟩
      clear hfor
      by_cases hn5 : 5 ≤ n
      · have hq5 : ¬ (5 : Int) ≤ (q : Int) := by omega
        have hn5' : (5 : Int) ≤ (n : Int) := by omega
        rcases hway with hw1 | ⟨hw1, hw2⟩
        all_goals
          go_wp2
          go_ret
          exact ⟨by simp [hw1], hkw10⟩
      · have hn5' : ¬ (5 : Int) ≤ (n : Int) := by omega
        rcases hway with hw1 | ⟨hw1, hw2⟩
        all_goals
          go_wp2
          go_ret
          exact ⟨by simp [hw1], hkw10⟩
end Go.Proofs.Ytdpfohgkikjeaaa
/- Arguments that are rows of numbers: how they are read, and that they read so again. -/
namespace Go.Proofs.Ytdpfohgkikjeaaa
set_option linter.unusedVariables false
set_option linter.unusedSimpArgs false
open Go.RowKit Go.ChangeShapes Go.WideShapes Go.ChangeAt
set_option linter.unusedVariables false
set_option linter.unusedSimpArgs false
theorem cellsInt : Try.prog.cellsOf 3 = 1 := by kernel_rfl

theorem wf_raw {x : Int} (h : (Lit.int .i64 x).wf = true) : RawOk x := by
  have hx : -9223372036854775808 ≤ x ∧ x ≤ 9223372036854775807 := by simpa [Lit.wf, IntKind.min, IntKind.max, IntKind.signed, IntKind.bits] using h
  exact ⟨hx.1, by omega⟩

theorem plain_addr {w : World} {a : Addr} {v : Value} (h : w.cell? (a.add 0) = some v) : a = ⟨a.block, a.off, none⟩ := by
  obtain ⟨b, o, s⟩ := a
  cases s with
  | none => rfl
  | some s =>
    exfalso
    unfold World.cell? at h
    cases hh : w.heap[(Addr.add ⟨b, o, some s⟩ 0).block]? with
    | none => rw [hh] at h; cases h
    | some x =>
      rw [hh] at h
      cases x <;> simp [Addr.add] at h

/-- A row of numbers that came in. -/
theorem ints_arg {H : Type} {enc : TypeId × Value → H} {W : World} {v : Value} {d : DataW H} {p : List MemPlace}
    (hv : ∃ a len cap, v = .slice a len cap) (h0 : DataW.Trod enc Try.prog W 0 (fun _ => true) true 22 v d p) (hlt : ∀ q ∈ p, q.block < W.heap.size) :
    ∃ raw, IntsAt W W.heap.size v raw ∧ ∀ W', Kept no W W' → ∀ sp : Nat → Bool, (∀ q ∈ p, sp q.block = true) → DataW.Trod enc Try.prog W' 0 sp true 22 v d p := by
  obtain ⟨a0, len, cap, rfl⟩ := hv
  obtain ⟨fuel, hf⟩ := h0
  rcases open_ints Try.underlying22 Try.underlying3 cellsInt hf with ⟨hcs, hx⟩ | ⟨a, len', cap', zs, hcs, _, hl, hm, hz, hx, hcell, hwz⟩
  · simp [Value.cells] at hcs
    obtain ⟨rfl, rfl, rfl⟩ := hcs
    simp only [Prod.mk.injEq] at hx
    obtain ⟨rfl, rfl⟩ := hx
    refine ⟨[], ⟨by simp, by simp, Nat.le_refl _, .inl ⟨_, _, rfl, rfl⟩⟩, fun W' hk sp _ => ?_⟩
    exact ⟨1, by simp [DataW.trod, Try.underlying22, Value.cells]⟩
  · simp [Value.cells] at hcs
    obtain ⟨rfl, rfl, rfl⟩ := hcs
    simp only [Prod.mk.injEq] at hx
    obtain ⟨rfl, rfl⟩ := hx
    simp only [if_true] at hz
    have hblk : 0 < zs.length → a.block < W.heap.size := fun h => hlt (.cell a.block a.off) (MemPlace.mem_row.2 ⟨0, h, by simp⟩)
    have hcell' : ∀ W', Kept no W W' → ∀ i, i < zs.length → W'.cell? (a.add i) = some (.int .i64 (zs.getD i 0)) := fun W' hk i hi => by
      have hb := hblk (by omega)
      rw [World.cell?_of_block (w := W) (hk.block _ (by rw [block_add]; exact hb) (fun h => h))]
      exact hcell i hi
    refine ⟨zs.take len, ⟨fun x hx => wf_raw (hwz x (List.mem_of_mem_take hx)), by rw [List.length_take]; unfold maxLen at hm; omega, Nat.le_refl _, ?_⟩, fun W' hk sp hsp => ?_⟩
    · by_cases h0 : len = 0
      · subst h0
        exact .inl ⟨_, _, rfl, rfl⟩
      · have hpl := plain_addr (hcell 0 (by omega))
        have e : (zs.take len).length = len := by rw [List.length_take]; omega
        refine .inr ⟨a.block, a.off, cap, by rw [e, ← hpl], hblk (by omega), fun j x hx => ?_⟩
        have hj : j < len := by have := (List.getElem?_eq_some_iff.1 hx).1; omega
        have hc := hcell j (by omega)
        rw [hpl, add_at] at hc
        rw [hc]
        rw [List.getElem?_take, if_pos hj] at hx
        simp [List.getD_eq_getElem?_getD, hx, iv]
    · by_cases hz0 : zs.length = 0
      · have hc0 : cap = 0 := by omega
        have hl0 : len = 0 := by omega
        subst hc0; subst hl0
        have t0 := shut_ints (enc := enc) (w := W') (base := 0) (spare := sp) (held := true) (a := a) (len := 0) (cap := 0) (zs := zs) 0 Try.underlying22 Try.underlying3 cellsInt (Nat.zero_le _) (Nat.le_refl _) hm (by simp [hz0]) (hcell' W' hk) hwz
        exact ⟨2, by simpa [Value.cells] using t0⟩
      · have hspb : sp a.block = true := hsp (.cell a.block a.off) (MemPlace.mem_row.2 ⟨0, by omega, by simp⟩)
        have t0 := shut_ints (enc := enc) (w := W') (base := 0) (spare := sp) (held := true) (a := a) (len := len) (cap := cap) (zs := zs) 0 Try.underlying22 Try.underlying3 cellsInt (Nat.zero_le _) hl hm (by simp [hspb, hz]) (hcell' W' hk) hwz
        exact ⟨2, by simpa [Value.cells] using t0⟩

/-- The call's answer, where nothing that was there has turned. -/
theorem post_of_below {H : Type} {enc : TypeId × Value → H} {P : Program} {f : Func} {s : ChangeSpec} {apart fresh handsOn again : Bool} {W W' : World} {args : Array Value} {v : Value} {ds gs : List (DataW H)} {before pa pv : List MemPlace}
    (hW : DataW.Whole enc P f.params.toList s.vars apart W args.toList ds gs before)
    (hres : ∀ (b : Nat) (sp : Nat → Bool) (hd : Bool), DataW.TrodAll enc P W' b sp hd f.resultTypes.toList (v.resultList f.resultTypes.size) (s.fn H (ds ++ gs)).results [])
    (hargs : ∀ sp : Nat → Bool, (∀ p ∈ before, sp p.block = true) → DataW.TrodAll enc P W' 0 sp true f.params.toList args.toList (s.fn H (ds ++ gs)).args pa)
    (hvars : ∀ sp : Nat → Bool, (∀ p ∈ before, sp p.block = true) → DataW.TrodVars enc P W' sp s.vars (s.fn H (ds ++ gs)).vars pv)
    (hps : before = pa ++ pv) (hb : Below W.heap.size W W')
    (hok : ∀ (j : Nat) (t : TypeId) (r : Value), f.resultTypes[j]? = some t → (v.resultList f.resultTypes.size)[j]? = some r → Value.okWide P W' .any 0 t r) :
    s.post enc P f apart fresh handsOn again W args v W' := by
  have hlt := fun p hp => hW.lt p hp
  have hold : ∀ p ∈ before, (fun b => decide (b < W.heap.size)) p.block = true := fun p hp => by simpa using hlt p hp
  refine ⟨ds, gs, before, [], pa, pv, hW, hres _ _ _, hargs _ hold, hvars _ hold, World.keptBut_mono (fun p hp => ⟨hp, ?_⟩) (hb.frame (· ∈ before)), fun _ => ?_⟩
  · rw [hps, List.mem_append] at hp
    exact Or.inr hp
  · obtain ⟨_, _, _, _, _, hz, hn⟩ := hW
    refine ⟨hok, _, _, ([] ++ pa) ++ pv, ⟨[] ++ pa, pv, trodAll_append (hargs _ (fun _ _ => rfl)) (hres _ _ _), hvars _ (fun _ _ => rfl), rfl, ?_, ?_⟩, ?_⟩
    · intro b off hp
      have hp' : MemPlace.cell b off ∈ before := by rw [hps]; simpa using hp
      rw [hb.frozen (p := ⟨b, off, none⟩) (hlt _ hp')]
      exact hz b off hp'
    · intro ha
      have := hn ha
      rw [hps] at this
      simpa using this
    · intro p hp _
      rw [hps]
      simpa using hp
end Go.Proofs.Ytdpfohgkikjeaaa
