/- Part 27 of the proof: see its parts. -/
import Derived.Test.YtdpfohgkikjeaaaGreatU25
import Derived.Test.YtdpfohgkikjeaaaGreatU26
/- edit, whole. -/
namespace Go.Proofs.YtdpfohgkikjeaaaGreat
open Go.RowKit
set_option linter.unusedVariables false
set_option linter.unusedSimpArgs false

theorem edit_any {w b bx bd D fp N L} (h : DeskR w b bx bd D fp) (ok : D.Ok N L) (hN : N ≤ 8000000000000) (kind at_ c : Int) (hkind : RawOk kind) (hat : RawOk at_) (hc : RawOk c) :
    Calls Tryz.prog 16 #[.pointer (some ⟨b, 0, none⟩), .int .i64 kind, .int .i64 at_, .int .i64 c] w fun e w' => e = .returned (.bool true) ∧ DeskTo w w' b bx bd fp (D.edit kind at_ c) := by
  have hp := pickN_lt kind (n := 4) (by decide)
  rcases (by omega : pickN kind 4 = 0 ∨ pickN kind 4 = 1 ∨ pickN kind 4 = 2 ∨ pickN kind 4 = 3) with e | e | e | e
  · exact edit_insert0 h ok hN kind at_ c hkind hat hc e
  · exact edit_insert1 h ok hN kind at_ c hkind hat hc e
  · exact edit_delete h ok hN kind at_ c hkind hat hc e
  · exact edit_replace h ok hN kind at_ c hkind hat hc e
end Go.Proofs.YtdpfohgkikjeaaaGreat
/- How long the rows of a disk get: a job writes a sector at most once between two Syncs. Plain mathematics. -/
namespace Go.Proofs.YtdpfohgkikjeaaaGreat
set_option linter.unusedVariables false
set_option linter.unusedSimpArgs false

/-- How long a row is behind an act. -/
def nextRow (i : Nat) (a : PAct) (n : Nat) : Nat := if a.kind = 1 then (if a.at_ = i then n + 1 else n) else if a.kind = 2 then 1 else n

/-- How long a row gets, at most, while the acts are done. -/
def topRow (i : Nat) : List PAct → Nat → Nat
  | [], n => n
  | a :: R, n => max n (topRow i R (nextRow i a n))

/-- How many of the acts write a sector. -/
def writes (i : Nat) : List PAct → Nat
  | [] => 0
  | a :: R => (if a.kind = 1 ∧ a.at_ = i then 1 else 0) + writes i R

theorem writes_append (i : Nat) : ∀ A B : List PAct, writes i (A ++ B) = writes i A + writes i B
  | [], B => by simp [writes]
  | a :: A, B => by
    rw [List.cons_append, writes, writes, writes_append i A B]
    omega

theorem topRow_ge (i : Nat) (A : List PAct) (n : Nat) : n ≤ topRow i A n := by
  cases A with
  | nil => exact Nat.le_refl _
  | cons a A => exact Nat.le_max_left _ _

theorem nextRow_le (i : Nat) (a : PAct) {n : Nat} (h : 1 ≤ n) : 1 ≤ nextRow i a n ∧ nextRow i a n ≤ n + (if a.kind = 1 ∧ a.at_ = i then 1 else 0) := by
  unfold nextRow
  by_cases h1 : a.kind = 1
  · by_cases h2 : a.at_ = i
    · rw [if_pos h1, if_pos h2, if_pos ⟨h1, h2⟩]; omega
    · rw [if_pos h1, if_neg h2, if_neg (fun h => h2 h.2)]; omega
  · rw [if_neg h1, if_neg (show ¬ (a.kind = 1 ∧ a.at_ = i) from fun h => h1 h.1)]
    split <;> omega

theorem topRow_le (i : Nat) : ∀ (A : List PAct) (n : Nat), 1 ≤ n → topRow i A n ≤ n + writes i A
  | [], n, h => Nat.le_add_right _ _
  | a :: A, n, h => by
    obtain ⟨h1, h2⟩ := nextRow_le i a h
    have h3 := topRow_le i A (nextRow i a n) h1
    rw [topRow, writes]
    refine Nat.max_le.2 ⟨by omega, by omega⟩

theorem topRow_split (i : Nat) (B : List PAct) : ∀ (A : List PAct) (n : Nat), 1 ≤ n → topRow i (A ++ pSettle :: B) n ≤ max (n + writes i A) (topRow i B 1)
  | [], n, h => by
    have e : nextRow i pSettle n = 1 := by simp [nextRow]
    rw [List.nil_append, topRow, e, writes]
    exact Nat.le_refl _
  | a :: A, n, h => by
    obtain ⟨h1, h2⟩ := nextRow_le i a h
    have h3 := topRow_split i B A (nextRow i a n) h1
    rw [List.cons_append, topRow, writes]
    have h4 := Nat.le_max_left (n + ((if a.kind = 1 ∧ a.at_ = i then 1 else 0) + writes i A)) (topRow i B 1)
    have h5 := Nat.le_max_right (n + ((if a.kind = 1 ∧ a.at_ = i then 1 else 0) + writes i A)) (topRow i B 1)
    refine Nat.max_le.2 ⟨by omega, Nat.le_trans h3 (Nat.max_le.2 ⟨by omega, h5⟩)⟩

theorem topRow_save (i : Nat) (t : Str) (n : Nat) : topRow i (saveActs t) n = n := by
  unfold saveActs
  split <;> simp [topRow, nextRow]

theorem writes_pieces (i h : Nat) (g : Nat → Str) : ∀ n : Nat, writes i ((List.range n).map fun j => pWrite (40 * h + 1 + j) (g j)) = if 40 * h + 1 ≤ i ∧ i < 40 * h + 1 + n then 1 else 0
  | 0 => by rw [if_neg (by omega)]; rfl
  | n + 1 => by
    rw [List.range_succ, List.map_append, writes_append, writes_pieces i h g n]
    simp only [List.map_cons, List.map_nil, writes, pWrite, true_and, Nat.add_zero]
    by_cases h1 : 40 * h + 1 + n = i
    · rw [if_pos h1, if_neg (by omega), if_pos (by omega)]
    · rw [if_neg h1]
      by_cases h2 : 40 * h + 1 ≤ i ∧ i < 40 * h + 1 + n
      · rw [if_pos h2, if_pos (by omega)]
      · rw [if_neg h2, if_neg (by omega)]

/-- A sync makes a row longer by one at most. -/
theorem topRow_acts (i : Nat) (wr : Wr) (t : Str) (f : Mark) {n : Nat} (hn : 1 ≤ n) : topRow i (wr.acts t f) n ≤ n + 1 := by
  rw [acts_eq]
  refine Nat.le_trans (topRow_split i _ _ n hn) (Nat.max_le.2 ⟨?_, Nat.le_trans (topRow_le i _ 1 (Nat.le_refl _)) ?_⟩)
  · rw [writes_append, writes]
    have h1 : writes i (if wr.unsettled then [pSettle] else []) = 0 := by split <;> simp [writes]
    have h2 : writes i (if wr.known then [] else [pWrite (40 * wr.half) []]) ≤ if 40 * wr.half = i then 1 else 0 := by split <;> simp [writes, pWrite]
    have h3 : (if (pWrite (40 * (1 - wr.half)) []).kind = 1 ∧ (pWrite (40 * (1 - wr.half)) []).at_ = i then 1 else 0) = if 40 * (1 - wr.half) = i then 1 else 0 := by simp [pWrite]
    rw [h1, h3]
    by_cases e : 40 * wr.half = i
    · rw [if_pos e] at h2
      rw [if_neg (by omega)]
      omega
    · rw [if_neg e] at h2
      split <;> omega
  · rw [writes_append]
    unfold bodyActs
    rw [writes_pieces]
    simp only [tail3, writes]
    rw [if_neg (show ¬ (pSettle.kind = 1 ∧ pSettle.at_ = i) from fun h => absurd h.1 (by decide))]
    by_cases e : 40 * (1 - wr.half) = i
    · rw [if_neg (by omega), if_pos ⟨trivial, e⟩]; omega
    · rw [if_neg (show ¬ (True ∧ 40 * (1 - wr.half) = i) from fun h => e h.2)]
      split <;> omega

theorem act_row {d : DiskS} {a : PAct} (hr : RightA a) (hl : d.sw.length = 400) {i : Nat} (hi : i < 400) : ((d.act a).sw.getD i []).length = nextRow i a (d.sw.getD i []).length := by
  unfold DiskS.act nextRow
  rcases hr with ⟨hk, h1, _⟩ | ⟨hk, _⟩ | ⟨hk, _, _⟩
  · rw [if_pos hk, if_pos hk]
    show ((d.sw.set a.at_ (d.sw.getD a.at_ [] ++ [a.data])).getD i []).length = _
    simp only [List.getD_eq_getElem?_getD, List.getElem?_set]
    by_cases e : a.at_ = i
    · subst e; simp [hl, h1]
    · simp [e]
  · simp only [hk]; rfl
  · rcases hk with hk | hk | hk | hk | hk
    · simp only [hk]
      show ((d.sw.map fun l => [lastOf l]).getD i []).length = 1
      have h1 : i < d.sw.length := by omega
      simp [List.getD_eq_getElem?_getD, h1]
    all_goals (simp only [hk]; rfl)

/-- A bound is brought down. -/
theorem DeskS.Ok.tight {D : DeskS} {N M L : Nat} (h : D.Ok N L) (h1 : 1 ≤ M) (hr : ∀ r ∈ D.disk.sw, r.length ≤ M) (hc : D.ch.length ≤ M) (hf : D.files.length ≤ M) (he : D.doc.edits ≤ M) (hm : D.mf.length ≤ M) (hmt : D.mt.length ≤ M) : D.Ok M L :=
  ⟨h.doc, ⟨h.lens.sw, hr, h.lens.some, h.lens.size, h.lens.file, h.lens.before, h.lens.new, h.lens.safe, h.lens.newSafe⟩, h.swok, hc, hf, h.file, h.sync, h.save, he, h.most, h1, h.big, h.few, h.mf0, hm, h.mt0, hmt⟩

/-- The rows, whatever acts of the job are done, are no longer than N. -/
def Rows0 (D : DeskS) (N : Nat) : Prop := ∀ i, i < 400 → topRow i D.doc.acts (D.disk.sw.getD i []).length ≤ N

structure Slack (D : DeskS) (N : Nat) : Prop where
  rows : Rows0 D N
  ch : D.ch.length ≤ N
  fl : D.files.length ≤ N
  edits : D.doc.edits ≤ N
  mf : D.mf.length ≤ N
  mt : D.mt.length ≤ N

theorem Slack.of {D : DeskS} {N L : Nat} (h : D.Ok N L) (r : Rows0 D N) : Slack D N := ⟨r, h.ch, h.fl, h.edits, h.mfN, h.mtN⟩

theorem done_true_acts {d : DocS} {a : PAct} {R : List PAct} (ha : d.acts = a :: R) : (d.done true).acts = R := by
  by_cases hR : R = []
  · subst hR
    rw [done_last_eq ha]
    unfold DocS.succeeded
    split <;> rfl
  · rw [done_on_eq ha hR]

theorem done_edits (d : DocS) (good : Bool) : (d.done good).edits ≤ d.edits := by
  unfold DocS.done DocS.succeeded
  split
  · exact Nat.le_refl _
  · split
    · split
      · exact Nat.le_refl _
      · exact Nat.zero_le _
    · exact Nat.le_refl _

theorem Slack.step {D : DeskS} {M N L : Nat} (s : Slack D N) (h : D.Ok M L) {a : PAct} {R : List PAct} (ha : D.doc.acts = a :: R) (good all : Bool) : Slack (D.step good all) N := by
  have hr := (h.step ha good all).1
  have hrow : ∀ i, i < 400 → (D.disk.sw.getD i []).length ≤ N ∧ topRow i R (nextRow i a (D.disk.sw.getD i []).length) ≤ N := fun i hi => by
    have := s.rows i hi
    rw [ha, topRow] at this
    exact Nat.max_le.1 this
  have hl1 := fun (α : Type) (l : List α) (hl : l.length ≤ N) => Nat.le_trans (lastOne_length l) hl
  have hE := Nat.le_trans (done_edits D.doc good) s.edits
  unfold DeskS.step
  rw [ha]
  refine ⟨fun i hi => ?_, ?_, ?_, hE, ?_, ?_⟩
  · obtain ⟨h1, h2⟩ := hrow i hi
    show topRow i (D.doc.done good).acts ((if (good || all) = true then D.disk.act a else D.disk).sw.getD i []).length ≤ N
    cases good with
    | true =>
      rw [done_true_acts ha]
      rw [if_pos (by simp), act_row hr h.lens.sw hi]
      exact h2
    | false =>
      rw [done_fail_eq]
      show ((if (false || all) = true then D.disk.act a else D.disk).sw.getD i []).length ≤ N
      cases all with
      | true =>
        rw [if_pos (by simp), act_row hr h.lens.sw hi]
        exact Nat.le_trans (topRow_ge _ _ _) h2
      | false => exact h1
  · dsimp only; split; exact hl1 _ _ s.ch; exact s.ch
  · dsimp only; split; exact hl1 _ _ s.fl; exact s.fl
  · dsimp only; split; exact hl1 _ _ s.mf; exact s.mf
  · dsimp only; split; exact hl1 _ _ s.mt; exact s.mt

theorem Slack.work {N L : Nat} {fail : Int} {all : Bool} : ∀ (n i : Nat) {D : DeskS} {M : Nat}, D.Ok M L → Slack D N → Slack (D.work n i fail all) N
  | 0, i, D, M, h, s => s
  | n + 1, i, D, M, h, s => by
    unfold DeskS.work
    split
    · exact s
    · rename_i hk
      obtain ⟨a, R, ha⟩ := h.next hk
      exact Slack.work n (i + 1) (h.step ha _ _).2 (s.step h ha _ _)

theorem mem_getD {sw : List (List Str)} {r : List Str} (hr : r ∈ sw) : ∃ i, i < sw.length ∧ sw.getD i [] = r := by
  obtain ⟨i, hi, e⟩ := List.mem_iff_getElem.1 hr
  exact ⟨i, hi, by rw [List.getD_eq_getElem?_getD, List.getElem?_eq_getElem hi, e]; rfl⟩

theorem Slack.tight {D : DeskS} {M N L : Nat} (s : Slack D N) (h : D.Ok M L) (h1 : 1 ≤ N) : D.Ok N L :=
  h.tight h1 (fun r hr => by
    obtain ⟨i, hi, rfl⟩ := mem_getD hr
    exact Nat.le_trans (topRow_ge _ _ _) (s.rows i (by have := h.lens.sw; omega))) s.ch s.fl s.edits s.mf s.mt

theorem row_bounds {D : DeskS} {N L : Nat} (h : D.Ok N L) {i : Nat} (hi : i < 400) : 1 ≤ (D.disk.sw.getD i []).length ∧ (D.disk.sw.getD i []).length ≤ N := by
  have h1 : i < D.disk.sw.length := by rw [h.lens.sw]; exact hi
  have hm : D.disk.sw.getD i [] ∈ D.disk.sw := by simp [List.getD_eq_getElem?_getD, h1]
  exact ⟨List.length_pos_iff.2 (h.lens.some _ hm), h.lens.rows _ hm⟩

theorem idle_acts {D : DeskS} {N L : Nat} (h : D.Ok N L) (hk : D.doc.kind = 0) : D.doc.acts = [] := by
  by_cases e : D.doc.acts = []
  · exact e
  · exact absurd hk (h.doc.acts.2 e)

theorem idle_rows {D : DeskS} {N L : Nat} (h : D.Ok N L) (hk : D.doc.kind = 0) : Rows0 D N := fun i hi => by
  rw [idle_acts h hk]
  exact (row_bounds h hi).2

theorem edited_rows {D : DeskS} {N L : Nat} (h : D.Ok N L) (hk : D.doc.kind = 0) (ls : List Str) (m : Nat) : Rows0 (D.edited ls m) (N + 1) := fun i hi => by
  obtain ⟨h1, h2⟩ := row_bounds h hi
  unfold DeskS.edited DeskS.begun
  by_cases he : D.doc.counted + 1 = D.doc.every
  · have e1 : (D.doc.setLines ls).edited = { D.doc.setLines ls with edits := D.doc.edits + 1, counted := 0, kind := 1, acts := D.doc.wr.acts (textOf ls) D.doc.file } := by
      unfold DocS.edited
      rw [if_pos (show (D.doc.setLines ls).counted + 1 = (D.doc.setLines ls).every from he)]
      rfl
    rw [e1, if_pos rfl]
    show topRow i (D.doc.wr.acts (textOf ls) D.doc.file) (D.disk.sw.getD i []).length ≤ N + 1
    have := topRow_acts i D.doc.wr (textOf ls) D.doc.file h1
    omega
  · have e1 : (D.doc.setLines ls).edited = { D.doc.setLines ls with edits := D.doc.edits + 1, counted := D.doc.counted + 1 } := by
      unfold DocS.edited
      rw [if_neg (show ¬ (D.doc.setLines ls).counted + 1 = (D.doc.setLines ls).every from he)]
      rfl
    rw [e1, if_neg (by show ¬ D.doc.kind = 1; omega)]
    show topRow i D.doc.acts (D.disk.sw.getD i []).length ≤ N + 1
    rw [idle_acts h hk]
    show (D.disk.sw.getD i []).length ≤ N + 1
    omega

theorem synced_rows {D : DeskS} {N L : Nat} (h : D.Ok N L) : Rows0 (DeskS.begun { D with doc := D.doc.beginSync }) (N + 1) := fun i hi => by
  obtain ⟨h1, h2⟩ := row_bounds h hi
  unfold DeskS.begun
  rw [if_pos (show D.doc.beginSync.kind = 1 from rfl)]
  show topRow i (D.doc.wr.acts D.doc.text D.doc.file) (D.disk.sw.getD i []).length ≤ N + 1
  have := topRow_acts i D.doc.wr D.doc.text D.doc.file h1
  omega

theorem back_rows (ls : List Str) (f : Str) (n hh : Nat) (hd : Head) (secs : List Str) (most : Nat) {N : Nat} (hN : 1 ≤ N) : Rows0 (DeskS.back ls f n hh hd secs most) N := fun i _ => by
  show ((secs.map fun s => [s]).getD i []).length ≤ N
  rw [List.getD_eq_getElem?_getD, List.getElem?_map]
  cases secs[i]? with
  | none => exact Nat.zero_le _
  | some x => exact hN
end Go.Proofs.YtdpfohgkikjeaaaGreat
/- move: what a move leaves; all acts. -/
namespace Go.Proofs.YtdpfohgkikjeaaaGreat
open Go.RowKit
set_option linter.unusedVariables false
set_option linter.unusedSimpArgs false

/-- A desk that goes on. -/
structure Going (D : DeskS) (N L : Nat) : Prop where
  ok : D.Ok N L
  known : D.doc.wr.known = true
  mf : D.mf = D.files
  mt : D.mt = D.ch.map (·.1)
  rows : Rows0 D N

/-- What a move leaves. -/
def MovedTo (w w' : World) (b : Nat) (fp : List Nat) (D : DeskS) (N L : Nat) : Prop :=
  ∃ bx bd fp' D', DeskR w' b bx bd D' fp' ∧ Going D' N L ∧ D'.doc.every = D.doc.every ∧ (∀ x ∈ fp', x ∈ fp ∨ w.heap.size ≤ x) ∧ Kept (fun x => x ∈ fp) w w'

theorem Going.mono {D : DeskS} {N M L : Nat} (h : Going D N L) (hm : N ≤ M) : Going D M L := ⟨h.ok.mono hm, h.known, h.mf, h.mt, fun i hi => Nat.le_trans (h.rows i hi) hm⟩

theorem Going.work {D : DeskS} {N L : Nat} (h : Going D N L) (n : Nat) (fail : Int) (all : Bool) : Going (D.work n 0 fail all) N L :=
  ⟨((Slack.of h.ok h.rows).work n 0 h.ok).tight (h.ok.work n 0) h.ok.one, (work_same fail all n 0 D).2.2.2.2 h.known, work_mf fail all n 0 h.mf, work_mt fail all n 0 h.mt, ((Slack.of h.ok h.rows).work n 0 h.ok).rows⟩

theorem edited_same (D : DeskS) (ls : List Str) (m : Nat) : (D.edited ls m).doc.wr = D.doc.wr ∧ (D.edited ls m).doc.every = D.doc.every ∧ (D.edited ls m).mf = D.mf ∧ (D.edited ls m).files = D.files := by
  have h : ((D.doc.setLines ls).edited).wr = D.doc.wr ∧ ((D.doc.setLines ls).edited).every = D.doc.every := by
    unfold DocS.edited; split <;> exact ⟨rfl, rfl⟩
  unfold DeskS.edited DeskS.begun
  split
  · exact ⟨h.1, h.2, rfl, rfl⟩
  · exact ⟨h.1, h.2, rfl, rfl⟩

theorem edited_mt {D : DeskS} (h : D.mt = D.ch.map (·.1)) (ls : List Str) (m : Nat) : (D.edited ls m).mt = (D.edited ls m).ch.map (·.1) := by
  unfold DeskS.edited DeskS.begun
  split
  · simp [h]
  · exact h

theorem Going.edit {D : DeskS} {N L : Nat} (h : Going D N L) (kind at_ c : Int) : Going (D.edit kind at_ c) (N + 1) L ∧ (D.edit kind at_ c).doc.every = D.doc.every := by
  have ok := h.ok.edit kind at_ c
  cases e : D.editLines kind at_ c with
  | none =>
    have hE : D.edit kind at_ c = D := by unfold DeskS.edit; rw [e]
    rw [hE] at ok ⊢
    exact ⟨⟨ok, h.known, h.mf, h.mt, (h.mono (Nat.le_succ N)).rows⟩, rfl⟩
  | some ls =>
    have hE : D.edit kind at_ c = D.edited ls (max D.most (D.doc.counted + 1)) := by unfold DeskS.edit; rw [e]
    rw [hE] at ok ⊢
    obtain ⟨h1, h2, h3, h4⟩ := edited_same D ls (max D.most (D.doc.counted + 1))
    exact ⟨⟨ok, by rw [h1]; exact h.known, by rw [h3, h4]; exact h.mf, edited_mt h.mt _ _, edited_rows h.ok (editLines_ok h.ok.doc.text e).1 ls _⟩, h2⟩

theorem DeskTo.moved {w w' : World} {b bx bd : Nat} {fp : List Nat} {D D' : DeskS} {N L : Nat} (h : DeskTo w w' b bx bd fp D') (g : Going D' N L) (he : D'.doc.every = D.doc.every) : MovedTo w w' b fp D N L := by
  obtain ⟨⟨fp', hr, hx⟩, hk⟩ := h
  exact ⟨bx, bd, fp', D', hr, g, he, hx, hk⟩

theorem sync_d {w b d fp} (h : DocR w b d fp) : Calls Tryz.prog 28 #[.pointer (some ⟨b, 0, none⟩)] w fun e w' => e = .returned (.int .i64 (d.sync.1 : Int)) ∧ DocTo w w' b fp d.sync.2 := by
  obtain ⟨va, tfp, afp, h, rfl⟩ := h
  unfold DocS.sync
  by_cases hk : d.kind ≠ 0
  · rw [if_pos hk]
    refine (sync_busy h hk).mono ?_
    rintro e w' ⟨rfl, rfl⟩
    exact ⟨rfl, h.same⟩
  · rw [if_neg hk]
    by_cases he : d.edits = 0 ∧ d.wr.known = true
    · rw [if_pos he]
      refine (sync_idle h (by omega) he.1 he.2).mono ?_
      rintro e w' ⟨rfl, rfl⟩
      exact ⟨rfl, h.same⟩
    · rw [if_neg he]
      exact sync_yes h (by omega) he
theorem save_any {w b d fp} (h : DocR w b d fp) : Calls Tryz.prog 27 #[.pointer (some ⟨b, 0, none⟩)] w fun e w' => e = .returned (.int .i64 (d.save.1 : Int)) ∧ DocTo w w' b fp d.save.2 := by
  by_cases hk : d.kind = 0
  · refine (save_d h hk).mono ?_
    rintro e w' ⟨rfl, hT⟩
    exact ⟨by unfold DocS.save; rw [if_neg (by omega)]; rfl, hT⟩
  · obtain ⟨va, tfp, afp, h, rfl⟩ := h
    unfold DocS.save
    rw [if_pos hk]
    refine (save_busy h hk).mono ?_
    rintro e w' ⟨rfl, rfl⟩
    exact ⟨rfl, h.same⟩
end Go.Proofs.YtdpfohgkikjeaaaGreat
/- move: all acts; an edit. -/
namespace Go.Proofs.YtdpfohgkikjeaaaGreat
open Go.RowKit
set_option linter.unusedVariables false
set_option linter.unusedSimpArgs false

set_option maxRecDepth 100000 in
set_option maxHeartbeats 8000000 in
theorem move_work {w b bx bd D fp N L B} (h : DeskR w b bx bd D fp) (g : Going D N L) (hN : N + 600 ≤ 8000000000000) (hL : L ≤ 1000000000000) (kind n : Int) (v : Value) (raw : List Int) (hraw : IntsAt w B v raw) (hBw : ∀ x ∈ fp, B ≤ x) (hkind : RawOk kind) (hn : RawOk n) (hK : pickN kind 8 = 6) :
    Calls Tryz.prog 31 #[.pointer (some ⟨b, 0, none⟩), .agg #[.int .i64 kind, .int .i64 n, v]] w fun e w' => e = .returned (.bool true) ∧ MovedTo w w' b fp D (N + 1) L := by
  obtain ⟨vt, vf, fx, fd, ft, ff, hM, rfl⟩ := h
  have hb0 : b < w.heap.size := lt_of_heap hM.cells
  obtain ⟨hc0, _⟩ := cells_of hM.cells
  go_enter Tryz.func31, Tryz.ntmps31
  go_wp2_with fail
  obtain ⟨hn1, hsz1, hk1⟩ := new1 w (Obj.cells #[.int .i64 kind, .int .i64 n, v] 40)
  have hM1 := hM.kept hk1 (fun _ _ h => h)
  generalize hA : w.heap.size = A at hn1 hsz1 ⊢
  generalize w.alloc (Obj.cells #[.int .i64 kind, .int .i64 n, v] 40) = w1 at hn1 hsz1 hk1 hM1 ⊢
  refine (look_doc hM1.doc).mono ?_
  rintro e w2 ⟨rfl, hk2⟩
  have hM2 := hM1.kept hk2 (fun _ _ h => h)
  have hn2 := hk2.get hn1 (fun h => h)
  obtain ⟨hca2, _⟩ := cells_of hn2
  have hA2 : A < w2.heap.size := lt_of_heap hn2
  go_wp2_with fail
  obtain ⟨hn3, hsz3, hk3⟩ := new1 w2 (Obj.cells #[.int .i64 (D.doc.lines.length : Int), .int .i64 (D.doc.edits : Int), .int .i64 (D.doc.kind : Int)] viewT)
  have hM3 := hM2.kept hk3 (fun _ _ h => h)
  have ha3 := hk3.get hn2 (fun h => h)
  generalize hV : w2.heap.size = V at hn3 hsz3 hA2 ⊢
  generalize w2.alloc (Obj.cells #[.int .i64 (D.doc.lines.length : Int), .int .i64 (D.doc.edits : Int), .int .i64 (D.doc.kind : Int)] viewT) = w3 at hn3 hsz3 hk3 hM3 ha3 ⊢
  refine (pick_keep kind 8 8 rfl hkind (by decide) (by decide) w3).mono ?_
  rintro e w4 ⟨rfl, hw⟩
  rw [hw, hK]
  clear hw hc0 hca2
  have hkw : Kept no w w3 := (hk1.step hk2).step hk3
  have hraw3 := hraw.kept hkw (fun _ h => h.elim)
  have hR3 : DeskR w3 b bx bd D (deskFp b fx fd ft ff) := ⟨_, _, _, _, _, _, hM3, rfl⟩
  have hmv : ∀ w' D', DeskTo w3 w' b bx bd (deskFp b fx fd ft ff) D' → Going D' (N + 1) L → D'.doc.every = D.doc.every → MovedTo w w' b (deskFp b fx fd ft ff) D (N + 1) L := fun w' D' ⟨⟨fp', hr, hx⟩, hk⟩ g' he =>
    ⟨bx, bd, fp', D', hr, g', he, fun x hx' => by
      rcases hx x hx' with h | h
      · exact .inl h
      · have := hkw.size; exact .inr (by omega), (hkw.mono (fun _ h _ => h.elim)).step hk⟩
  obtain ⟨hcA, _⟩ := cells_of ha3
  obtain ⟨hcV, _⟩ := cells_of hn3
  obtain ⟨hcB, _⟩ := cells_of hM3.cells
  go_wp2_with fail
  refine (work_any hR3 g.ok 500 500 (-1) 0 0 rfl rfl (by decide) (by decide) (by decide) (by decide) (by omega) (by omega)).mono ?_
  rintro e w5 ⟨rfl, hT⟩
  go_wp2
  go_ret
  exact ⟨by simp, hmv _ _ hT ((g.work 500 (-1) _).mono (by omega)) (work_same _ _ 500 0 D).2.1⟩

set_option maxRecDepth 100000 in
set_option maxHeartbeats 8000000 in
theorem move_edit0 {w b bx bd D fp N L B} (h : DeskR w b bx bd D fp) (g : Going D N L) (hN : N + 600 ≤ 8000000000000) (hL : L ≤ 1000000000000) (kind n : Int) (v : Value) (raw : List Int) (hraw : IntsAt w B v raw) (hBw : ∀ x ∈ fp, B ≤ x) (hkind : RawOk kind) (hn : RawOk n) (hK : pickN kind 8 = 0) :
    Calls Tryz.prog 31 #[.pointer (some ⟨b, 0, none⟩), .agg #[.int .i64 kind, .int .i64 n, v]] w fun e w' => e = .returned (.bool true) ∧ MovedTo w w' b fp D (N + 1) L := by
  obtain ⟨vt, vf, fx, fd, ft, ff, hM, rfl⟩ := h
  have hb0 : b < w.heap.size := lt_of_heap hM.cells
  obtain ⟨hc0, _⟩ := cells_of hM.cells
  go_enter Tryz.func31, Tryz.ntmps31
  go_wp2_with fail
  obtain ⟨hn1, hsz1, hk1⟩ := new1 w (Obj.cells #[.int .i64 kind, .int .i64 n, v] 40)
  have hM1 := hM.kept hk1 (fun _ _ h => h)
  generalize hA : w.heap.size = A at hn1 hsz1 ⊢
  generalize w.alloc (Obj.cells #[.int .i64 kind, .int .i64 n, v] 40) = w1 at hn1 hsz1 hk1 hM1 ⊢
  refine (look_doc hM1.doc).mono ?_
  rintro e w2 ⟨rfl, hk2⟩
  have hM2 := hM1.kept hk2 (fun _ _ h => h)
  have hn2 := hk2.get hn1 (fun h => h)
  obtain ⟨hca2, _⟩ := cells_of hn2
  have hA2 : A < w2.heap.size := lt_of_heap hn2
  go_wp2_with fail
  obtain ⟨hn3, hsz3, hk3⟩ := new1 w2 (Obj.cells #[.int .i64 (D.doc.lines.length : Int), .int .i64 (D.doc.edits : Int), .int .i64 (D.doc.kind : Int)] viewT)
  have hM3 := hM2.kept hk3 (fun _ _ h => h)
  have ha3 := hk3.get hn2 (fun h => h)
  generalize hV : w2.heap.size = V at hn3 hsz3 hA2 ⊢
  generalize w2.alloc (Obj.cells #[.int .i64 (D.doc.lines.length : Int), .int .i64 (D.doc.edits : Int), .int .i64 (D.doc.kind : Int)] viewT) = w3 at hn3 hsz3 hk3 hM3 ha3 ⊢
  refine (pick_keep kind 8 8 rfl hkind (by decide) (by decide) w3).mono ?_
  rintro e w4 ⟨rfl, hw⟩
  rw [hw, hK]
  clear hw hc0 hca2
  have hkw : Kept no w w3 := (hk1.step hk2).step hk3
  have hraw3 := hraw.kept hkw (fun _ h => h.elim)
  have hR3 : DeskR w3 b bx bd D (deskFp b fx fd ft ff) := ⟨_, _, _, _, _, _, hM3, rfl⟩
  have hmv : ∀ w' D', DeskTo w3 w' b bx bd (deskFp b fx fd ft ff) D' → Going D' (N + 1) L → D'.doc.every = D.doc.every → MovedTo w w' b (deskFp b fx fd ft ff) D (N + 1) L := fun w' D' ⟨⟨fp', hr, hx⟩, hk⟩ g' he =>
    ⟨bx, bd, fp', D', hr, g', he, fun x hx' => by
      rcases hx x hx' with h | h
      · exact .inl h
      · have := hkw.size; exact .inr (by omega), (hkw.mono (fun _ h _ => h.elim)).step hk⟩
  obtain ⟨hcA, _⟩ := cells_of ha3
  obtain ⟨hcV, _⟩ := cells_of hn3
  obtain ⟨hcB, _⟩ := cells_of hM3.cells
  have hv : ∀ W, Kept no w3 W → W.cell? ⟨A, 2, none⟩ = some v := fun W hW => hW.read (by rw [hcA]; rfl) (fun h => h)
  have hf := hraw.fits
  have hgo : ∀ i, RawOk (raw.getD i 0) := fun i => by
    rw [List.getD_eq_getElem?_getD]
    cases hx : raw[i]? with
    | none => exact ⟨by decide, by decide⟩
    | some x => exact hf x (List.mem_of_getElem? hx)
  go_wp2_with fail
  refine wp_region3 (fun W => Kept no w3 W) [(0, true), (1, true), (2, false), (4, true), (5, false), (7, true), (8, false)] [3, 6, 9, 10, 11] (by kernel_rfl) (by kernel_rfl) (fun _ _ d _ _ h => by cases d <;> exact h) ((Kept.refl _ _).drew) ?_
  repeat ((first | refine wpPre3_pure rfl rfl (fun W => (by go_simp; rfl)) ?_ | refine wpPre3_read rfl rfl (fun W hW => (by have h1 := hv W hW; go_simp; rfl)) ?_); simp only [Act.put, List.setIfInBounds_toArray, List.set])
  refine wpPre3_nil ?_
  have hk4 : Kept no w3 w3.drew := (Kept.refl _ _).drew
  have hraw4 := hraw3.kept hk4 (fun _ h => h.elim)
  have hR4 := hR3.kept hk4 (fun _ _ h => h)
  generalize w3.drew = w4 at hk4 hraw4 hR4 ⊢
  refine wpTail3_cons rfl rfl (fun K hK => ?_)
  go_wp2_with fail
  refine (number_any hraw4 0 0 rfl (by decide)).mono ?_
  rintro e w5 ⟨rfl, hw⟩
  rw [hw]
  clear hw
  refine hK _ _ ⟨fun h => h, ?_⟩
  clear hK
  refine wpTail3_cons rfl rfl (fun K hK => ?_)
  go_wp2_with fail
  refine (number_any hraw4 1 1 rfl (by decide)).mono ?_
  rintro e w5 ⟨rfl, hw⟩
  rw [hw]
  clear hw
  refine hK _ _ ⟨fun h => h, ?_⟩
  clear hK
  refine wpTail3_cons rfl rfl (fun K hK => ?_)
  go_wp2_with fail
  refine (number_any hraw4 2 2 rfl (by decide)).mono ?_
  rintro e w5 ⟨rfl, hw⟩
  rw [hw]
  clear hw
  refine hK _ _ ⟨fun h => h, ?_⟩
  clear hK
  refine wpTail3_last (by kernel_rfl) rfl rfl (fun K hK => ?_)
  go_wp2_with fail
  refine (edit_any hR4 g.ok (by omega) (raw.getD 0 0) (raw.getD 1 0) (raw.getD 2 0) (hgo 0) (hgo 1) (hgo 2)).mono ?_
  rintro e w5 ⟨rfl, hT⟩
  refine hK _ _ ?_
  clear hK
  refine wpTail3_last (by kernel_rfl) rfl rfl (fun K hK => ?_)
  go_wp2_with fail
  refine wpTail3_nil ?_
  go_wp2
  go_ret
  have hT' : DeskTo w3 w5 b bx bd (deskFp b fx fd ft ff) (D.edit (raw.getD 0 0) (raw.getD 1 0) (raw.getD 2 0)) := ⟨by
    obtain ⟨fp', hr, hx⟩ := hT.ex
    exact ⟨fp', hr, fun x hx' => (hx x hx').imp id (fun h => by have := hk4.size; omega)⟩, (hk4.mono (fun _ h _ => h.elim)).step hT.kept⟩
  obtain ⟨g2, he2⟩ := g.edit (raw.getD 0 0) (raw.getD 1 0) (raw.getD 2 0)
  exact ⟨by simp, hmv _ _ hT' (g2.mono (by omega)) he2⟩

set_option maxRecDepth 100000 in
set_option maxHeartbeats 8000000 in
theorem move_edit1 {w b bx bd D fp N L B} (h : DeskR w b bx bd D fp) (g : Going D N L) (hN : N + 600 ≤ 8000000000000) (hL : L ≤ 1000000000000) (kind n : Int) (v : Value) (raw : List Int) (hraw : IntsAt w B v raw) (hBw : ∀ x ∈ fp, B ≤ x) (hkind : RawOk kind) (hn : RawOk n) (hK : pickN kind 8 = 1) :
    Calls Tryz.prog 31 #[.pointer (some ⟨b, 0, none⟩), .agg #[.int .i64 kind, .int .i64 n, v]] w fun e w' => e = .returned (.bool true) ∧ MovedTo w w' b fp D (N + 1) L := by
  obtain ⟨vt, vf, fx, fd, ft, ff, hM, rfl⟩ := h
  have hb0 : b < w.heap.size := lt_of_heap hM.cells
  obtain ⟨hc0, _⟩ := cells_of hM.cells
  go_enter Tryz.func31, Tryz.ntmps31
  go_wp2_with fail
  obtain ⟨hn1, hsz1, hk1⟩ := new1 w (Obj.cells #[.int .i64 kind, .int .i64 n, v] 40)
  have hM1 := hM.kept hk1 (fun _ _ h => h)
  generalize hA : w.heap.size = A at hn1 hsz1 ⊢
  generalize w.alloc (Obj.cells #[.int .i64 kind, .int .i64 n, v] 40) = w1 at hn1 hsz1 hk1 hM1 ⊢
  refine (look_doc hM1.doc).mono ?_
  rintro e w2 ⟨rfl, hk2⟩
  have hM2 := hM1.kept hk2 (fun _ _ h => h)
  have hn2 := hk2.get hn1 (fun h => h)
  obtain ⟨hca2, _⟩ := cells_of hn2
  have hA2 : A < w2.heap.size := lt_of_heap hn2
  go_wp2_with fail
  obtain ⟨hn3, hsz3, hk3⟩ := new1 w2 (Obj.cells #[.int .i64 (D.doc.lines.length : Int), .int .i64 (D.doc.edits : Int), .int .i64 (D.doc.kind : Int)] viewT)
  have hM3 := hM2.kept hk3 (fun _ _ h => h)
  have ha3 := hk3.get hn2 (fun h => h)
  generalize hV : w2.heap.size = V at hn3 hsz3 hA2 ⊢
  generalize w2.alloc (Obj.cells #[.int .i64 (D.doc.lines.length : Int), .int .i64 (D.doc.edits : Int), .int .i64 (D.doc.kind : Int)] viewT) = w3 at hn3 hsz3 hk3 hM3 ha3 ⊢
  refine (pick_keep kind 8 8 rfl hkind (by decide) (by decide) w3).mono ?_
  rintro e w4 ⟨rfl, hw⟩
  rw [hw, hK]
  clear hw hc0 hca2
  have hkw : Kept no w w3 := (hk1.step hk2).step hk3
  have hraw3 := hraw.kept hkw (fun _ h => h.elim)
  have hR3 : DeskR w3 b bx bd D (deskFp b fx fd ft ff) := ⟨_, _, _, _, _, _, hM3, rfl⟩
  have hmv : ∀ w' D', DeskTo w3 w' b bx bd (deskFp b fx fd ft ff) D' → Going D' (N + 1) L → D'.doc.every = D.doc.every → MovedTo w w' b (deskFp b fx fd ft ff) D (N + 1) L := fun w' D' ⟨⟨fp', hr, hx⟩, hk⟩ g' he =>
    ⟨bx, bd, fp', D', hr, g', he, fun x hx' => by
      rcases hx x hx' with h | h
      · exact .inl h
      · have := hkw.size; exact .inr (by omega), (hkw.mono (fun _ h _ => h.elim)).step hk⟩
  obtain ⟨hcA, _⟩ := cells_of ha3
  obtain ⟨hcV, _⟩ := cells_of hn3
  obtain ⟨hcB, _⟩ := cells_of hM3.cells
  have hv : ∀ W, Kept no w3 W → W.cell? ⟨A, 2, none⟩ = some v := fun W hW => hW.read (by rw [hcA]; rfl) (fun h => h)
  have hf := hraw.fits
  have hgo : ∀ i, RawOk (raw.getD i 0) := fun i => by
    rw [List.getD_eq_getElem?_getD]
    cases hx : raw[i]? with
    | none => exact ⟨by decide, by decide⟩
    | some x => exact hf x (List.mem_of_getElem? hx)
  go_wp2_with fail
  refine wp_region3 (fun W => Kept no w3 W) [(0, true), (1, true), (2, false), (4, true), (5, false), (7, true), (8, false)] [3, 6, 9, 10, 11] (by kernel_rfl) (by kernel_rfl) (fun _ _ d _ _ h => by cases d <;> exact h) ((Kept.refl _ _).drew) ?_
  repeat ((first | refine wpPre3_pure rfl rfl (fun W => (by go_simp; rfl)) ?_ | refine wpPre3_read rfl rfl (fun W hW => (by have h1 := hv W hW; go_simp; rfl)) ?_); simp only [Act.put, List.setIfInBounds_toArray, List.set])
  refine wpPre3_nil ?_
  have hk4 : Kept no w3 w3.drew := (Kept.refl _ _).drew
  have hraw4 := hraw3.kept hk4 (fun _ h => h.elim)
  have hR4 := hR3.kept hk4 (fun _ _ h => h)
  generalize w3.drew = w4 at hk4 hraw4 hR4 ⊢
  refine wpTail3_cons rfl rfl (fun K hK => ?_)
  go_wp2_with fail
  refine (number_any hraw4 0 0 rfl (by decide)).mono ?_
  rintro e w5 ⟨rfl, hw⟩
  rw [hw]
  clear hw
  refine hK _ _ ⟨fun h => h, ?_⟩
  clear hK
  refine wpTail3_cons rfl rfl (fun K hK => ?_)
  go_wp2_with fail
  refine (number_any hraw4 1 1 rfl (by decide)).mono ?_
  rintro e w5 ⟨rfl, hw⟩
  rw [hw]
  clear hw
  refine hK _ _ ⟨fun h => h, ?_⟩
  clear hK
  refine wpTail3_cons rfl rfl (fun K hK => ?_)
  go_wp2_with fail
  refine (number_any hraw4 2 2 rfl (by decide)).mono ?_
  rintro e w5 ⟨rfl, hw⟩
  rw [hw]
  clear hw
  refine hK _ _ ⟨fun h => h, ?_⟩
  clear hK
  refine wpTail3_last (by kernel_rfl) rfl rfl (fun K hK => ?_)
  go_wp2_with fail
  refine (edit_any hR4 g.ok (by omega) (raw.getD 0 0) (raw.getD 1 0) (raw.getD 2 0) (hgo 0) (hgo 1) (hgo 2)).mono ?_
  rintro e w5 ⟨rfl, hT⟩
  refine hK _ _ ?_
  clear hK
  refine wpTail3_last (by kernel_rfl) rfl rfl (fun K hK => ?_)
  go_wp2_with fail
  refine wpTail3_nil ?_
  go_wp2
  go_ret
  have hT' : DeskTo w3 w5 b bx bd (deskFp b fx fd ft ff) (D.edit (raw.getD 0 0) (raw.getD 1 0) (raw.getD 2 0)) := ⟨by
    obtain ⟨fp', hr, hx⟩ := hT.ex
    exact ⟨fp', hr, fun x hx' => (hx x hx').imp id (fun h => by have := hk4.size; omega)⟩, (hk4.mono (fun _ h _ => h.elim)).step hT.kept⟩
  obtain ⟨g2, he2⟩ := g.edit (raw.getD 0 0) (raw.getD 1 0) (raw.getD 2 0)
  exact ⟨by simp, hmv _ _ hT' (g2.mono (by omega)) he2⟩

set_option maxRecDepth 100000 in
set_option maxHeartbeats 8000000 in
theorem move_edit2 {w b bx bd D fp N L B} (h : DeskR w b bx bd D fp) (g : Going D N L) (hN : N + 600 ≤ 8000000000000) (hL : L ≤ 1000000000000) (kind n : Int) (v : Value) (raw : List Int) (hraw : IntsAt w B v raw) (hBw : ∀ x ∈ fp, B ≤ x) (hkind : RawOk kind) (hn : RawOk n) (hK : pickN kind 8 = 2) :
    Calls Tryz.prog 31 #[.pointer (some ⟨b, 0, none⟩), .agg #[.int .i64 kind, .int .i64 n, v]] w fun e w' => e = .returned (.bool true) ∧ MovedTo w w' b fp D (N + 1) L := by
  obtain ⟨vt, vf, fx, fd, ft, ff, hM, rfl⟩ := h
  have hb0 : b < w.heap.size := lt_of_heap hM.cells
  obtain ⟨hc0, _⟩ := cells_of hM.cells
  go_enter Tryz.func31, Tryz.ntmps31
  go_wp2_with fail
  obtain ⟨hn1, hsz1, hk1⟩ := new1 w (Obj.cells #[.int .i64 kind, .int .i64 n, v] 40)
  have hM1 := hM.kept hk1 (fun _ _ h => h)
  generalize hA : w.heap.size = A at hn1 hsz1 ⊢
  generalize w.alloc (Obj.cells #[.int .i64 kind, .int .i64 n, v] 40) = w1 at hn1 hsz1 hk1 hM1 ⊢
  refine (look_doc hM1.doc).mono ?_
  rintro e w2 ⟨rfl, hk2⟩
  have hM2 := hM1.kept hk2 (fun _ _ h => h)
  have hn2 := hk2.get hn1 (fun h => h)
  obtain ⟨hca2, _⟩ := cells_of hn2
  have hA2 : A < w2.heap.size := lt_of_heap hn2
  go_wp2_with fail
  obtain ⟨hn3, hsz3, hk3⟩ := new1 w2 (Obj.cells #[.int .i64 (D.doc.lines.length : Int), .int .i64 (D.doc.edits : Int), .int .i64 (D.doc.kind : Int)] viewT)
  have hM3 := hM2.kept hk3 (fun _ _ h => h)
  have ha3 := hk3.get hn2 (fun h => h)
  generalize hV : w2.heap.size = V at hn3 hsz3 hA2 ⊢
  generalize w2.alloc (Obj.cells #[.int .i64 (D.doc.lines.length : Int), .int .i64 (D.doc.edits : Int), .int .i64 (D.doc.kind : Int)] viewT) = w3 at hn3 hsz3 hk3 hM3 ha3 ⊢
  refine (pick_keep kind 8 8 rfl hkind (by decide) (by decide) w3).mono ?_
  rintro e w4 ⟨rfl, hw⟩
  rw [hw, hK]
  clear hw hc0 hca2
  have hkw : Kept no w w3 := (hk1.step hk2).step hk3
  have hraw3 := hraw.kept hkw (fun _ h => h.elim)
  have hR3 : DeskR w3 b bx bd D (deskFp b fx fd ft ff) := ⟨_, _, _, _, _, _, hM3, rfl⟩
  have hmv : ∀ w' D', DeskTo w3 w' b bx bd (deskFp b fx fd ft ff) D' → Going D' (N + 1) L → D'.doc.every = D.doc.every → MovedTo w w' b (deskFp b fx fd ft ff) D (N + 1) L := fun w' D' ⟨⟨fp', hr, hx⟩, hk⟩ g' he =>
    ⟨bx, bd, fp', D', hr, g', he, fun x hx' => by
      rcases hx x hx' with h | h
      · exact .inl h
      · have := hkw.size; exact .inr (by omega), (hkw.mono (fun _ h _ => h.elim)).step hk⟩
  obtain ⟨hcA, _⟩ := cells_of ha3
  obtain ⟨hcV, _⟩ := cells_of hn3
  obtain ⟨hcB, _⟩ := cells_of hM3.cells
  have hv : ∀ W, Kept no w3 W → W.cell? ⟨A, 2, none⟩ = some v := fun W hW => hW.read (by rw [hcA]; rfl) (fun h => h)
  have hf := hraw.fits
  have hgo : ∀ i, RawOk (raw.getD i 0) := fun i => by
    rw [List.getD_eq_getElem?_getD]
    cases hx : raw[i]? with
    | none => exact ⟨by decide, by decide⟩
    | some x => exact hf x (List.mem_of_getElem? hx)
  go_wp2_with fail
  refine wp_region3 (fun W => Kept no w3 W) [(0, true), (1, true), (2, false), (4, true), (5, false), (7, true), (8, false)] [3, 6, 9, 10, 11] (by kernel_rfl) (by kernel_rfl) (fun _ _ d _ _ h => by cases d <;> exact h) ((Kept.refl _ _).drew) ?_
  repeat ((first | refine wpPre3_pure rfl rfl (fun W => (by go_simp; rfl)) ?_ | refine wpPre3_read rfl rfl (fun W hW => (by have h1 := hv W hW; go_simp; rfl)) ?_); simp only [Act.put, List.setIfInBounds_toArray, List.set])
  refine wpPre3_nil ?_
  have hk4 : Kept no w3 w3.drew := (Kept.refl _ _).drew
  have hraw4 := hraw3.kept hk4 (fun _ h => h.elim)
  have hR4 := hR3.kept hk4 (fun _ _ h => h)
  generalize w3.drew = w4 at hk4 hraw4 hR4 ⊢
  refine wpTail3_cons rfl rfl (fun K hK => ?_)
  go_wp2_with fail
  refine (number_any hraw4 0 0 rfl (by decide)).mono ?_
  rintro e w5 ⟨rfl, hw⟩
  rw [hw]
  clear hw
  refine hK _ _ ⟨fun h => h, ?_⟩
  clear hK
  refine wpTail3_cons rfl rfl (fun K hK => ?_)
  go_wp2_with fail
  refine (number_any hraw4 1 1 rfl (by decide)).mono ?_
  rintro e w5 ⟨rfl, hw⟩
  rw [hw]
  clear hw
  refine hK _ _ ⟨fun h => h, ?_⟩
  clear hK
  refine wpTail3_cons rfl rfl (fun K hK => ?_)
  go_wp2_with fail
  refine (number_any hraw4 2 2 rfl (by decide)).mono ?_
  rintro e w5 ⟨rfl, hw⟩
  rw [hw]
  clear hw
  refine hK _ _ ⟨fun h => h, ?_⟩
  clear hK
  refine wpTail3_last (by kernel_rfl) rfl rfl (fun K hK => ?_)
  go_wp2_with fail
  refine (edit_any hR4 g.ok (by omega) (raw.getD 0 0) (raw.getD 1 0) (raw.getD 2 0) (hgo 0) (hgo 1) (hgo 2)).mono ?_
  rintro e w5 ⟨rfl, hT⟩
  refine hK _ _ ?_
  clear hK
  refine wpTail3_last (by kernel_rfl) rfl rfl (fun K hK => ?_)
  go_wp2_with fail
  refine wpTail3_nil ?_
  go_wp2
  go_ret
  have hT' : DeskTo w3 w5 b bx bd (deskFp b fx fd ft ff) (D.edit (raw.getD 0 0) (raw.getD 1 0) (raw.getD 2 0)) := ⟨by
    obtain ⟨fp', hr, hx⟩ := hT.ex
    exact ⟨fp', hr, fun x hx' => (hx x hx').imp id (fun h => by have := hk4.size; omega)⟩, (hk4.mono (fun _ h _ => h.elim)).step hT.kept⟩
  obtain ⟨g2, he2⟩ := g.edit (raw.getD 0 0) (raw.getD 1 0) (raw.getD 2 0)
  exact ⟨by simp, hmv _ _ hT' (g2.mono (by omega)) he2⟩
end Go.Proofs.YtdpfohgkikjeaaaGreat
