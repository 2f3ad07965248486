/- Part 26 of the proof: see its parts. -/
import Derived.Test.YtdpfohgkikjeaaaGreatV22
import Derived.Test.YtdpfohgkikjeaaaGreatV23
import Derived.Test.YtdpfohgkikjeaaaGreatV25
/- The document's own answer as plain data, on: syncs, Saves, acts, reading back. -/
namespace Go.Proofs.YtdpfohgkikjeaaaGreat
set_option linter.unusedVariables false
set_option linter.unusedSimpArgs false

/-- Sync, of both. -/
theorem beside_sync {D : DeskS} {R : RefS} {N L : Nat} (h : Beside D R) (ok : D.Ok N L) (hd : D.doc.kind = 0 → D.doc.beginSync.Ok) :
    D.doc.sync.1 = R.syncC.1 ∧ ∃ D', D'.doc = D.doc.sync.2 ∧ D'.disk = D.disk ∧ D'.Ok (N + 1) L ∧ Beside D' R.syncC.2 := by
  have hj := h.job
  unfold DocS.sync RefS.syncC
  rw [hj]
  by_cases h1 : D.doc.kind ≠ 0
  · rw [if_pos h1, if_pos h1]
    exact ⟨rfl, D, rfl, rfl, ok.mono (Nat.le_succ N), h⟩
  · rw [if_neg h1, if_neg h1]
    by_cases h2 : D.doc.edits = 0 ∧ D.doc.wr.known = true
    · rw [if_pos h2, if_pos (h.idle.2 h2)]
      exact ⟨rfl, D, rfl, rfl, ok.mono (Nat.le_succ N), h⟩
    · rw [if_neg h2, if_neg (fun e => h2 (h.idle.1 e))]
      have hk : D.doc.kind = 0 := by omega
      refine ⟨rfl, DeskS.begun { D with doc := D.doc.beginSync }, ?_, ?_, ok.synced hk (hd hk), h.sync⟩
      all_goals
        unfold DeskS.begun
        rw [if_pos (show D.doc.beginSync.kind = 1 from rfl)]

/-- Save, of both. -/
theorem beside_save {D : DeskS} {R : RefS} {N L : Nat} (h : Beside D R) (ok : D.Ok N L) (hd : D.doc.kind = 0 → D.doc.save.2.Ok) :
    D.doc.save.1 = R.save.1 ∧ ∃ D', D'.doc = D.doc.save.2 ∧ D'.disk = D.disk ∧ D'.Ok (N + 1) L ∧ Beside D' R.save.2 := by
  have hj := h.job
  by_cases h1 : D.doc.kind ≠ 0
  · unfold DocS.save RefS.save
    rw [hj, if_pos h1, if_pos h1]
    exact ⟨rfl, D, rfl, rfl, ok.mono (Nat.le_succ N), h⟩
  · have hk : D.doc.kind = 0 := by omega
    have e1 : D.doc.save = (0, { D.doc with kind := 2, acts := saveActs D.doc.text }) := by unfold DocS.save; rw [if_neg h1]
    have e2 : R.save = (0, { R with job := 2, saved := R.text, acts := saveActs R.text }) := by unfold RefS.save; rw [if_neg (by omega)]
    have ok' := ok.saved hk (mf := D.mf) ok.mf0 (Nat.le_succ_of_le ok.mfN) (hd hk)
    rw [e1] at ok' ⊢
    rw [e2]
    exact ⟨rfl, { D with doc := { D.doc with kind := 2, acts := saveActs D.doc.text }, files := D.files ++ [D.doc.text] }, rfl, rfl, ok', ⟨h.lines, h.every, h.begun, h.edits, h.idle, rfl, fun _ => by show saveActs R.text = _; rw [h.text], fun _ => h.text, h.file, h.ch, h.known, fun e => (by cases e)⟩⟩

/-- An act is done, or fails, of both. -/
theorem beside_step {D : DeskS} {R : RefS} {N L : Nat} (h : Beside D R) (ok : D.Ok N L) {a : PAct} {T : List PAct} (ha : D.doc.acts = a :: T) (good all : Bool) :
    ((D.step good all).doc.kind = 0 → Beside (D.step good all) ((R.tick good).over good) ∧ (good = true → T = [])) ∧ ((D.step good all).doc.kind ≠ 0 → Beside (D.step good all) (R.tick good) ∧ good = true ∧ T ≠ []) := by
  have hk : D.doc.kind ≠ 0 := ok.doc.acts.2 (by rw [ha]; simp)
  have hk2 := ok.doc.kind
  have hj := h.job
  cases good with
  | false =>
    rw [step_fail ha]
    refine ⟨fun _ => ⟨?_, fun e => (by cases e)⟩, fun e => absurd rfl e⟩
    have e1 : (R.tick false).over false = { R with job := 0, acts := [] } := by
      unfold RefS.tick RefS.over
      rw [if_neg (by simp), if_neg (by simp), if_neg (by simp)]
    rw [e1]
    exact ⟨h.lines, h.every, h.begun, h.edits, h.idle, rfl, fun e => (by cases e), fun e => (by cases e), h.file, h.ch, h.known, fun e => (by cases e)⟩
  | true =>
    by_cases hT : T = []
    · subst hT
      rw [step_last ha]
      refine ⟨fun _ => ⟨?_, fun _ => rfl⟩, fun e => absurd (succeeded_kind _) e⟩
      rcases (by omega : D.doc.kind = 1 ∨ D.doc.kind = 2) with k | k
      · have e1 : (R.tick true).over true = { R with last := lastOne R.since, since := [], edits := 0, idle := true, job := 0, acts := [] } := by
          unfold RefS.tick
          rw [if_neg (by omega)]
          unfold RefS.over
          rw [if_pos ⟨by omega, rfl⟩]
        have e2 : D.doc.succeeded = { D.doc with kind := 0, acts := [], wr := D.doc.wr.written, edits := 0 } := by unfold DocS.succeeded; rw [if_neg (by omega)]
        rw [e1, e2]
        have hs := h.since k
        refine ⟨h.lines, h.every, h.begun, rfl, ⟨fun _ => ⟨rfl, rfl⟩, fun _ => rfl⟩, rfl, fun e => (by cases e), fun e => (by cases e), h.file, ?_, ⟨fun _ => rfl, fun _ => lastOne_ne hs⟩, fun e => (by cases e)⟩
        show (if D.doc.kind = 1 then lastOne D.ch else D.ch) = lastOne R.since ++ []
        rw [if_pos k, h.ch, List.append_nil]
        obtain ⟨x, hx⟩ : ∃ x, R.since.getLast? = some x := by
          cases hq : R.since.getLast? with
          | none => exact absurd (List.getLast?_eq_none_iff.1 hq) hs
          | some x => exact ⟨x, rfl⟩
        rw [lastOne_eq hx]
        exact lastOne_eq (by rw [List.getLast?_append, hx]; rfl)
      · have e1 : (R.tick true).over true = { R with file := R.saved, job := 0, acts := [] } := by
          unfold RefS.tick
          rw [if_pos ⟨by omega, rfl⟩]
          unfold RefS.over
          rw [if_neg (by show ¬ (R.job = 1 ∧ _); omega), if_pos ⟨by show R.job = 2; omega, rfl⟩]
        have e2 : D.doc.succeeded = { D.doc with kind := 0, acts := [], file := markOf D.doc.text } := by unfold DocS.succeeded; rw [if_pos k]
        rw [e1, e2]
        refine ⟨h.lines, h.every, h.begun, h.edits, h.idle, rfl, fun e => (by cases e), fun e => (by cases e), by show markOf R.saved = _; rw [h.saved k], ?_, h.known, fun e => (by cases e)⟩
        show (if D.doc.kind = 1 then lastOne D.ch else D.ch) = _
        rw [if_neg (by omega)]
        exact h.ch
    · rw [step_on ha hT hk]
      refine ⟨fun e => absurd e hk, fun _ => ⟨?_, rfl, hT⟩⟩
      unfold RefS.tick
      by_cases k : D.doc.kind = 2
      · rw [if_pos ⟨by omega, rfl⟩]
        refine ⟨h.lines, h.every, h.begun, h.edits, h.idle, h.job, fun _ => ?_, fun _ => h.saved k, h.file, h.ch, h.known, fun e => absurd e (by show ¬ D.doc.kind = 1; omega)⟩
        show R.acts.tail = T
        rw [h.acts k, ha]
        rfl
      · rw [if_neg (by omega)]
        exact ⟨h.lines, h.every, h.begun, h.edits, h.idle, h.job, fun e => absurd e k, fun e => absurd e k, h.file, h.ch, h.known, fun _ => h.since (by omega)⟩

theorem beside_back {D : DeskS} {R : RefS} {N L : Nat} (h : Beside D R) (ok : D.Ok N L) {ls : List Str} {file : Str} {n hh : Nat} {hd : Head} {secs : List Str} (same : Bool) (hsame : same = true ↔ markOf file = hd.file)
    (hdoc : (DocS.readBack ls file n hh hd.number).Ok) (hl : secs.length = 400) (h64 : ∀ s ∈ secs, s.length = 64) (hF : Finds (imgOf secs) hh hd (textOf ls)) (hc : (textOf ls, hd.file) ∈ D.ch) (hL : 2460 ≤ L) (hf : file.length ≤ L) :
    (textOf ls, hd.file) ∈ R.keeps (textOf ls) file same ∧ ∃ D', D'.doc = DocS.readBack ls file n hh hd.number ∧ D'.disk = DiskS.of secs file ∧ D'.Ok N L ∧ Beside D' (R.recovered ls file same n) := by
  have hb := back_ok (most := 0) hdoc hl h64 hF (Nat.zero_le _) hL hf
  have hmem : (textOf ls, hd.file) ∈ R.keeps (textOf ls) file same := by
    unfold RefS.keeps
    rw [← h.ch]
    refine List.mem_filter.2 ⟨hc, ?_⟩
    simp only [beq_self_eq_true, Bool.true_and]
    cases same with
    | true =>
      have e := hsame.1 rfl
      have : hd.file.len = (file.length : Int) ∧ hd.file.sum = crc file := by rw [← e]; exact ⟨rfl, rfl⟩
      simp [this]
    | false =>
      have : ¬ (hd.file.len = (file.length : Int) ∧ hd.file.sum = crc file) := fun e => by
        have : markOf file = hd.file := by
          unfold markOf
          rw [← e.1, ← e.2]
        have := hsame.2 this
        cases this
      simp [this]
  refine ⟨hmem, { DeskS.back ls file n hh hd secs 0 with ch := R.keeps (textOf ls) file same }, rfl, rfl, ?_, ?_⟩
  · obtain ⟨t0, f0, hsw⟩ := hb.swok
    have hlen : (R.keeps (textOf ls) file same).length ≤ N := Nat.le_trans (List.length_filter_le _ _) (by rw [← h.ch]; exact ok.ch)
    have h1 := ok.one
    have hb' := hb.mono h1
    refine ⟨hb'.doc, hb'.lens, ⟨t0, f0, hsw.mono fun t f hm => ?_⟩, hlen, hb'.fl, hb'.file, fun e => (by cases e), fun e => (by cases e), hb'.edits, hb'.most, hb'.one, hb'.big, hb'.few, hb'.mf0, hb'.mfN, hb'.mt0, hb'.mtN⟩
    have hm : (t, f) ∈ [(textOf ls, hd.file)] := hm
    rw [List.mem_singleton.1 hm]
    exact hmem
  · refine ⟨rfl, rfl, rfl, rfl, ⟨fun _ => ⟨rfl, rfl⟩, fun _ => rfl⟩, rfl, fun e => (by cases e), fun e => (by cases e), rfl, (List.append_nil _).symm, ⟨fun _ => rfl, fun _ e => ?_⟩, fun e => (by cases e)⟩
    have e : R.keeps (textOf ls) file same = [] := e
    rw [e] at hmem
    cases hmem
end Go.Proofs.YtdpfohgkikjeaaaGreat
/- A twin of the statements, in plain mathematics: a document of the program's, the document's own, a disk, the acts that were told. Nothing of the program. -/
namespace Go.Proofs.YtdpfohgkikjeaaaGreat
set_option linter.unusedVariables false
set_option linter.unusedSimpArgs false

structure TwinS where
  D : DeskS
  R : RefS
  acts : Nat

/-- What holds of a twin. -/
structure TwinS.Ok (T : TwinS) (N L : Nat) : Prop where
  ok : T.D.Ok N L
  beside : Beside T.D T.R
  idle : T.D.doc.kind = 0 → T.acts = 0
  few : T.acts + T.D.doc.acts.length ≤ 100
  file : T.R.file.length ≤ L

/-- What the walks want of the document's own answer. -/
structure RefS.Ok (r : RefS) (N L : Nat) : Prop where
  text : TextOk r.lines
  file : r.file.length ≤ L
  since : r.since.length ≤ N
  last : r.last.length ≤ N
  edits : r.edits ≤ N
  begun : r.begun ≤ 20
  every : r.every ≤ 20

theorem TwinS.Ok.mono {T : TwinS} {N M L : Nat} (h : T.Ok N L) (hm : N ≤ M) : T.Ok M L := ⟨h.ok.mono hm, h.beside, h.idle, h.few, h.file⟩

theorem TwinS.Ok.ref {T : TwinS} {N L : Nat} (h : T.Ok N L) : T.R.Ok N L := by
  have hb := h.beside
  have hch := h.ok.ch
  rw [hb.ch, List.length_append] at hch
  have h1 := h.ok.doc.counted
  have h2 := h.ok.doc.every2
  refine ⟨by rw [hb.lines]; exact h.ok.doc.text, h.file, by omega, by omega, by rw [hb.edits]; exact h.ok.edits, ?_, ?_⟩
  · rw [hb.begun]; omega
  · rw [hb.every]; exact h2

/-- The last act of a sync is a Sync. -/
theorem prog_last {S wr t f a} (h : Prog S wr t f [a]) : a.kind = 2 := by
  rcases h with ⟨pre, h⟩ | ⟨k, h⟩ | h | h
  · have e := congrArg List.length h.acts
    simp [tail3] at e
    omega
  · have e := congrArg List.length h.acts
    simp [tail3] at e
  · have e := congrArg List.length h.acts
    simp at e
  · have e := h.acts
    simp only [List.cons.injEq, and_true] at e
    rw [e]

/-- An act of a sync is a Write or a Sync. -/
theorem DeskS.Ok.syncAct {D : DeskS} {N L : Nat} (h : D.Ok N L) (hk : D.doc.kind = 1) {a : PAct} {T : List PAct} (ha : D.doc.acts = a :: T) : ActOk a ∧ (T = [] → a.kind = 2) := by
  obtain ⟨hp, hlast⟩ := h.sync hk
  obtain ⟨t0, f0, hsw⟩ := h.swok
  rw [ha] at hp
  refine ⟨(prog_step hsw ⟨_, h.doc.text, rfl⟩ ⟨h.doc.sum, h.doc.len0, h.doc.len1⟩ (List.mem_of_getLast? hlast) hp).1, fun e => ?_⟩
  subst e
  exact prog_last hp

/-- A document that is behind a call of which the disk knows nothing. -/
theorem TwinS.Ok.turned {T : TwinS} {N L : Nat} (h : T.Ok N L) (hk : T.D.doc.kind = 0) {D' : DeskS} {R' : RefS} (ok : D'.Ok (N + 1) L) (hb : Beside D' R') (hf : R'.file = T.R.file) : TwinS.Ok ⟨D', R', T.acts⟩ (N + 1) L := by
  have h0 := h.idle hk
  refine ⟨ok, hb, fun _ => h0, ?_, by show R'.file.length ≤ L; rw [hf]; exact h.file⟩
  have := ok.few
  show T.acts + D'.doc.acts.length ≤ 100
  omega

theorem put_file (r : RefS) (ls : List Str) : (r.put ls).file = r.file := by
  unfold RefS.put RefS.edit
  split <;> rfl

/-- An edit leaves a twin. -/
theorem TwinS.Ok.went {T : TwinS} {N L : Nat} (h : T.Ok N L) {r : Nat × DocS} {q : Nat × RefS} (w : Went T.D T.R r q N L) (hno : r.1 ≠ 0 → q.2 = T.R) (hyes : r.1 = 0 → T.D.doc.kind = 0 ∧ q.2.file = T.R.file) : TwinS.Ok ⟨T.D.after r, q.2, T.acts⟩ (N + 1) L := by
  by_cases e : r.1 = 0
  · exact h.turned (hyes e).1 w.ok w.beside (hyes e).2
  · have e1 : T.D.after r = T.D := by unfold DeskS.after; rw [if_neg e]
    rw [e1, hno e]
    exact h.mono (Nat.le_succ N)

theorem RefS.insert_file (r : RefS) (at_ : Int) (l : Str) : (r.insert at_ l).2.file = r.file := by
  unfold RefS.insert
  repeat' split
  all_goals first | rfl | exact put_file _ _
theorem RefS.insert_busy {r : RefS} {at_ : Int} {l : Str} (h : (r.insert at_ l).1 = 0) : r.job = 0 := by
  by_cases e : r.job = 0
  · exact e
  · unfold RefS.insert at h
    rw [if_pos e] at h
    cases h

theorem TwinS.Ok.insert {T : TwinS} {N L : Nat} (h : T.Ok N L) (at_ : Int) (l : Str) : TwinS.Ok ⟨T.D.after (T.D.doc.insert at_ l), (T.R.insert at_ l).2, T.acts⟩ (N + 1) L := by
  have w := went_insert h.beside h.ok at_ l
  have hs := w.same
  refine h.went w (fun hne => ?_) (fun he => ?_)
  · rw [hs] at hne
    unfold RefS.insert at hne ⊢
    repeat' split at hne
    all_goals first | (exact absurd rfl hne) | (split <;> simp_all)
  · rw [hs] at he
    exact ⟨by rw [← h.beside.job]; exact RefS.insert_busy he, RefS.insert_file _ _ _⟩

theorem RefS.delete_file (r : RefS) (at_ : Int) : (r.delete at_).2.file = r.file := by
  unfold RefS.delete
  repeat' split
  all_goals first | rfl | exact put_file _ _
theorem RefS.delete_busy {r : RefS} {at_ : Int} (h : (r.delete at_).1 = 0) : r.job = 0 := by
  by_cases e : r.job = 0
  · exact e
  · unfold RefS.delete at h
    rw [if_pos e] at h
    cases h

theorem TwinS.Ok.delete {T : TwinS} {N L : Nat} (h : T.Ok N L) (at_ : Int) : TwinS.Ok ⟨T.D.after (T.D.doc.delete at_), (T.R.delete at_).2, T.acts⟩ (N + 1) L := by
  have w := went_delete h.beside h.ok at_
  have hs := w.same
  refine h.went w (fun hne => ?_) (fun he => ?_)
  · rw [hs] at hne
    unfold RefS.delete at hne ⊢
    repeat' split at hne
    all_goals first | (exact absurd rfl hne) | (split <;> simp_all)
  · rw [hs] at he
    exact ⟨by rw [← h.beside.job]; exact RefS.delete_busy he, RefS.delete_file _ _⟩

theorem RefS.replace_file (r : RefS) (at_ : Int) (l : Str) : (r.replace at_ l).2.file = r.file := by
  unfold RefS.replace
  repeat' split
  all_goals first | rfl | exact put_file _ _
theorem RefS.replace_busy {r : RefS} {at_ : Int} {l : Str} (h : (r.replace at_ l).1 = 0) : r.job = 0 := by
  by_cases e : r.job = 0
  · exact e
  · unfold RefS.replace at h
    rw [if_pos e] at h
    cases h

theorem TwinS.Ok.replace {T : TwinS} {N L : Nat} (h : T.Ok N L) (at_ : Int) (l : Str) : TwinS.Ok ⟨T.D.after (T.D.doc.replace at_ l), (T.R.replace at_ l).2, T.acts⟩ (N + 1) L := by
  have w := went_replace h.beside h.ok at_ l
  have hs := w.same
  refine h.went w (fun hne => ?_) (fun he => ?_)
  · rw [hs] at hne
    unfold RefS.replace at hne ⊢
    repeat' split at hne
    all_goals first | (exact absurd rfl hne) | (split <;> simp_all)
  · rw [hs] at he
    exact ⟨by rw [← h.beside.job]; exact RefS.replace_busy he, RefS.replace_file _ _ _⟩

/-- Sync, Save of a twin. -/
theorem TwinS.Ok.sync {T : TwinS} {N L : Nat} (h : T.Ok N L) (hd : T.D.doc.kind = 0 → T.D.doc.beginSync.Ok) :
    T.D.doc.sync.1 = T.R.syncC.1 ∧ ∃ D', D'.doc = T.D.doc.sync.2 ∧ D'.disk = T.D.disk ∧ TwinS.Ok ⟨D', T.R.syncC.2, T.acts⟩ (N + 1) L := by
  obtain ⟨h1, D', h2, h3, h4, h5⟩ := beside_sync h.beside h.ok hd
  refine ⟨h1, D', h2, h3, ?_⟩
  by_cases hk : T.D.doc.kind = 0
  · refine h.turned hk h4 h5 ?_
    unfold RefS.syncC
    split
    · rfl
    · split <;> rfl
  · have e1 : T.D.doc.sync.2 = T.D.doc := by unfold DocS.sync; rw [if_pos hk]
    have e2 : T.R.syncC.2 = T.R := by unfold RefS.syncC; rw [if_pos (by rw [h.beside.job]; exact hk)]
    rw [e1] at h2
    rw [e2] at h5 ⊢
    exact ⟨h4, h5, by rw [h2]; exact h.idle, by rw [h2]; exact h.few, h.file⟩

theorem TwinS.Ok.save {T : TwinS} {N L : Nat} (h : T.Ok N L) (hd : T.D.doc.kind = 0 → T.D.doc.save.2.Ok) :
    T.D.doc.save.1 = T.R.save.1 ∧ ∃ D', D'.doc = T.D.doc.save.2 ∧ D'.disk = T.D.disk ∧ TwinS.Ok ⟨D', T.R.save.2, T.acts⟩ (N + 1) L := by
  obtain ⟨h1, D', h2, h3, h4, h5⟩ := beside_save h.beside h.ok hd
  refine ⟨h1, D', h2, h3, ?_⟩
  by_cases hk : T.D.doc.kind = 0
  · refine h.turned hk h4 h5 ?_
    unfold RefS.save
    split <;> rfl
  · have e1 : T.D.doc.save.2 = T.D.doc := by unfold DocS.save; rw [if_pos hk]
    have e2 : T.R.save.2 = T.R := by unfold RefS.save; rw [if_pos (by rw [h.beside.job]; exact hk)]
    rw [e1] at h2
    rw [e2] at h5 ⊢
    exact ⟨h4, h5, by rw [h2]; exact h.idle, by rw [h2]; exact h.few, h.file⟩

/-- An act that is done, or fails. -/
def TwinS.step (T : TwinS) (good all : Bool) : TwinS :=
  if (T.D.step good all).doc.kind = 0 then ⟨T.D.step good all, (T.R.tick good).over good, 0⟩ else ⟨T.D.step good all, T.R.tick good, T.acts + 1⟩

theorem TwinS.Ok.step {T : TwinS} {N L : Nat} (h : T.Ok N L) {a : PAct} {A : List PAct} (ha : T.D.doc.acts = a :: A) (good all : Bool) : (T.step good all).Ok (N + 1) L ∧ RightA a := by
  obtain ⟨hr, ok⟩ := h.ok.step ha good all
  obtain ⟨b0, b1⟩ := beside_step h.beside h.ok ha good all
  have hf := h.few
  have hfl := h.file
  have hbig := h.ok.big
  have htl := h.ok.doc.text.length
  have hkk := h.ok.doc.kind
  rw [ha, List.length_cons] at hf
  refine ⟨?_, hr⟩
  unfold TwinS.step
  split
  · rename_i hk
    refine ⟨ok, (b0 hk).1, fun _ => rfl, ?_, ?_⟩
    · show 0 + (T.D.step good all).doc.acts.length ≤ 100
      have := ok.few
      omega
    · show ((T.R.tick good).over good).file.length ≤ L
      have ht : (T.R.tick good).file = T.R.file ∧ (T.R.tick good).saved = T.R.saved ∧ (T.R.tick good).job = T.R.job := by
        unfold RefS.tick
        split <;> exact ⟨rfl, rfl, rfl⟩
      unfold RefS.over
      split
      · show (T.R.tick good).file.length ≤ L
        rw [ht.1]; exact hfl
      · split
        · rename_i h2
          show (T.R.tick good).saved.length ≤ L
          rw [ht.2.1, h.beside.saved (by rw [← h.beside.job, ← ht.2.2]; exact h2.1)]
          show (textOf T.D.doc.lines).length ≤ L
          omega
        · show (T.R.tick good).file.length ≤ L
          rw [ht.1]; exact hfl
  · rename_i hk
    obtain ⟨hb, hg, hA⟩ := b1 hk
    subst hg
    refine ⟨ok, hb, fun e => absurd e hk, ?_, ?_⟩
    · rw [step_on ha hA (h.ok.doc.acts.2 (by rw [ha]; simp))]
      show T.acts + 1 + A.length ≤ 100
      omega
    · show (T.R.tick true).file.length ≤ L
      unfold RefS.tick
      split <;> exact hfl

/-- What is read back, in place of a twin. -/
theorem TwinS.Ok.back {T : TwinS} {N L : Nat} (h : T.Ok N L) {ls : List Str} {file : Str} {n hh : Nat} {hd : Head} {secs : List Str} (same : Bool) (hsame : same = true ↔ markOf file = hd.file)
    (hdoc : (DocS.readBack ls file n hh hd.number).Ok) (hl : secs.length = 400) (h64 : ∀ s ∈ secs, s.length = 64) (hF : Finds (imgOf secs) hh hd (textOf ls)) (hc : (textOf ls, hd.file) ∈ T.D.ch) (hf : file.length ≤ L) :
    (textOf ls, hd.file) ∈ T.R.keeps (textOf ls) file same ∧ ∃ D', D'.doc = DocS.readBack ls file n hh hd.number ∧ D'.disk = DiskS.of secs file ∧ TwinS.Ok ⟨D', T.R.recovered ls file same n, 0⟩ N L := by
  obtain ⟨h1, D', h2, h3, h4, h5⟩ := beside_back h.beside h.ok same hsame hdoc hl h64 hF hc h.ok.big hf
  refine ⟨h1, D', h2, h3, h4, h5, fun _ => rfl, ?_, hf⟩
  rw [h2]
  exact Nat.zero_le _

/-- A desk of greater sizes. -/
theorem DeskS.Ok.monoL {D : DeskS} {N L M : Nat} (h : D.Ok N L) (hm : L ≤ M) : D.Ok N M := by
  have hl := h.lens
  refine ⟨h.doc, ⟨hl.sw, hl.rows, hl.some, hl.size, Nat.le_trans hl.file hm, Nat.le_trans hl.before hm, Nat.le_trans hl.new hm, hl.safe, hl.newSafe⟩, h.swok, h.ch, h.fl, h.file, h.sync, h.save, h.edits, h.most, h.one, Nat.le_trans h.big hm, h.few, h.mf0, h.mfN, h.mt0, h.mtN⟩

/-- A twin as it begins. -/
def RefS.opened (ls : List Str) (n : Nat) : RefS := RefS.sync ⟨ls, textOf ls, n, 0, 0, false, 0, [], [], [], []⟩

theorem TwinS.first {ls : List Str} {n L : Nat} (h : TextOk ls) (hd : (DocS.fresh ls (textOf ls) n).beginSync.Ok) (hL : 2460 ≤ L) : TwinS.Ok ⟨DeskS.first ls n, RefS.opened ls n, 0⟩ 1 L := by
  have ok := (first_ok h hd).monoL hL
  have hlen := h.length
  refine ⟨ok, ?_, fun _ => rfl, by have := ok.few; rw [Nat.zero_add]; exact this, by show (textOf ls).length ≤ L; omega⟩
  refine ⟨rfl, rfl, rfl, rfl, ⟨fun e => (by cases e), fun e => (by cases e.2)⟩, rfl, fun e => (by cases e), fun e => (by cases e), rfl, rfl, ⟨fun e => absurd rfl e, fun e => (by cases e)⟩, fun _ e => (by cases e)⟩
end Go.Proofs.YtdpfohgkikjeaaaGreat
/- Regions that draw, with operations that stand under a guard. -/
namespace Go.Proofs.YtdpfohgkikjeaaaGreat
open Go.RowKit
set_option linter.unusedVariables false
set_option linter.unusedSimpArgs false

section
variable {P : Program} {ops : Array Oper} {Q : Exit → Act → World → Prop} {C : World → Prop} {N : Nat → Bool}

/-- Whoever is guarded by a truth that holds is done. -/
theorem wanted_yes {o : Oper} {a : Act} {j : Nat} {b : Bool} {oj : Oper} {d : Nat} (hg : o.guard = some (j, b)) (hj : ops.toList[j]? = some oj) (hd : oj.dst = some d) (hv : a.tmps[d]? = some (.bool b)) : Region.wanted o (yielded ops a.tmps) = true := by
  have hj' : ops[j]? = some oj := by simpa using hj
  simp [Region.wanted, hg, yielded, hj', hd, hv]

theorem wanted_no {o : Oper} {a : Act} {j : Nat} {b c : Bool} {oj : Oper} {d : Nat} (hg : o.guard = some (j, b)) (hj : ops.toList[j]? = some oj) (hd : oj.dst = some d) (hv : a.tmps[d]? = some (.bool c)) (hbc : b = !c) : Region.wanted o (yielded ops a.tmps) = false := by
  have hj' : ops[j]? = some oj := by simpa using hj
  subst hbc
  simp [Region.wanted, hg, yielded, hj', hd, hv]

theorem wpPre3_pureG {R : Act → Prop} {a : Act} {i : Nat} {l : List (Nat × Bool)} {o : Oper} {v : Value} (ho : ops.toList[i]? = some o) (hw : Region.wanted o (yielded ops a.tmps) = true)
    (hr : ∀ w, (execOp a.eval o).run P w = .ok (.value v) w) (h : wpPre3 P ops C R l (a.put o.dst v)) : wpPre3 P ops C R ((i, true) :: l) a :=
  ⟨o, v, by simpa using ho, .inl ⟨hw, fun w _ => hr w⟩, h⟩
theorem wpPre3_readG {R : Act → Prop} {a : Act} {i : Nat} {l : List (Nat × Bool)} {o : Oper} {v : Value} (ho : ops.toList[i]? = some o) (hw : Region.wanted o (yielded ops a.tmps) = true)
    (hr : ∀ w, C w → (execOp a.eval o).run P w = .ok (.value v) w) (h : wpPre3 P ops C R l (a.put o.dst v)) : wpPre3 P ops C R ((i, false) :: l) a :=
  ⟨o, v, by simpa using ho, .inl ⟨hw, fun w hw => hr w (by simpa using hw)⟩, h⟩
theorem wpPre3_skip {R : Act → Prop} {a : Act} {i : Nat} {b : Bool} {l : List (Nat × Bool)} {o : Oper} (ho : ops.toList[i]? = some o) (hw : Region.wanted o (yielded ops a.tmps) = false)
    (h : wpPre3 P ops C R l (a.put o.dst undef)) : wpPre3 P ops C R ((i, b) :: l) a :=
  ⟨o, _, by simpa using ho, .inr ⟨hw, rfl⟩, h⟩
theorem wpTail3_consG {a : Act} {w : World} {i : Nat} {l : List Nat} {o : Oper} (ho : ops.toList[i]? = some o) (hw : Region.wanted o (yielded ops a.tmps) = true)
    (h : ∀ K : Act → World → Prop, (∀ a' w', (C w → C w') ∧ wpTail3 P ops C N Q l a' w' → K a' w') → o.wp P a w K Q) : wpTail3 P ops C N Q (i :: l) a w := by
  have ho' : ops[i]? = some o := by simpa using ho
  unfold wpTail3 wpOp
  simp only [ho']
  rw [if_pos hw]
  exact .inl (h _ (fun _ _ h => ⟨fun _ => h.1, h.2⟩))
theorem wpTail3_skip {a : Act} {w : World} {i : Nat} {l : List Nat} {o : Oper} (ho : ops.toList[i]? = some o) (hw : Region.wanted o (yielded ops a.tmps) = false)
    (h : wpTail3 P ops C N Q l (a.put o.dst undef) w) : wpTail3 P ops C N Q (i :: l) a w := by
  have ho' : ops[i]? = some o := by simpa using ho
  unfold wpTail3 wpOp
  simp only [ho']
  rw [if_neg (by rw [hw]; simp)]
  exact ⟨fun _ h => h, h⟩
end
end Go.Proofs.YtdpfohgkikjeaaaGreat
/- The document's own answer: Insert, Delete, Replace, Line, Look. -/
namespace Go.Proofs.YtdpfohgkikjeaaaGreat
open Go.RowKit
set_option linter.unusedVariables false
set_option linter.unusedSimpArgs false

theorem RefTo.same {w : World} {b : Nat} {r : RefS} {fp : List Nat} (h : RefR w b r fp) : RefTo w w b fp r := ⟨⟨fp, h, fun _ hx => .inl hx⟩, Kept.refl _ _⟩

theorem seen_one {w : World} {g c : Nat} {l : Str} (h : w.cell? ⟨g, 0, none⟩ = some (sv l)) (hc : 1 ≤ c) (hc2 : c ≤ 9223372036854775807) : Seen w (.slice (some ⟨g, 0, none⟩) 1 c) [l].length ([l].map sv) [g] := by
  refine .inr ⟨g, 0, c, rfl, hc, hc2, rfl, World.block_lt_of_cell? _ _ h, fun j u hj => ?_⟩
  match j, hj with
  | 0, hj => simp at hj; subst hj; simpa using h

set_option maxRecDepth 100000 in
set_option maxHeartbeats 4000000 in
theorem look_ref {w : World} {b : Nat} {r : RefS} {fp : List Nat} (h : RefR w b r fp) : Calls Tryz.prog 66 #[.pointer (some ⟨b, 0, none⟩)] w fun e w' => e = .returned (.agg #[.int .i64 (r.lines.length : Int), .int .i64 (r.edits : Int), .int .i64 (r.job : Int)]) ∧ Kept no w w' := by
  obtain ⟨vl, va, vq, vs, fa, fq, h, rfl⟩ := h
  obtain ⟨pl, cl, rfl⟩ := h.lines.slice
  have hb := h.cells
  clear h
  go_enter Tryz.func66, Tryz.ntmps66
  go_wp2_with fail
  obtain ⟨hn1, hsz1, hk1⟩ := new1 w (Obj.cells #[.int .i64 0, .int .i64 0, .int .i64 0] 44)
  have hb1 := hk1.get hb (fun h => h)
  generalize hB : w.heap.size = B at hn1 hsz1 ⊢
  generalize w.alloc (Obj.cells #[.int .i64 0, .int .i64 0, .int .i64 0] 44) = w1 at hn1 hsz1 hk1 hb1 ⊢
  refine wp_region3 (fun W => W.heap[b]? = some (.cells (refCells r (.slice pl r.lines.length cl) va vq vs) refT (0, 0))) [(0, true), (1, true), (2, true), (3, false), (4, true), (5, true), (6, true), (7, true), (8, false), (9, true), (10, true), (11, true), (12, false), (13, true)] [14] (by kernel_rfl) (by kernel_rfl) (fun _ _ d _ _ h => by cases d <;> exact h) hb1 ?_
  repeat ((first | refine wpPre3_pure rfl rfl (fun W => (by go_simp; rfl)) ?_ | refine wpPre3_read rfl rfl (fun W hW => (by obtain ⟨hc, _⟩ := cells_of hW; go_simp; rfl)) ?_); simp only [Act.put, List.setIfInBounds_toArray, List.set])
  refine wpPre3_nil ?_
  obtain ⟨hcz, hfz⟩ := cells_of hn1
  refine wpTail3_last (by kernel_rfl) rfl rfl (fun K hK => ?_)
  go_wp2_with fail
  refine wpTail3_nil ?_
  obtain ⟨hs1, hs2⟩ := stored3 (v0 := .int .i64 (r.lines.length : Int)) (v1 := .int .i64 (r.edits : Int)) (v2 := .int .i64 (r.job : Int)) hn1
  have hk3 : Kept no w (((w1.setCell ⟨B, 0, none⟩ (.int .i64 (r.lines.length : Int))).setCell ⟨B, 1, none⟩ (.int .i64 (r.edits : Int))).setCell ⟨B, 2, none⟩ (.int .i64 (r.job : Int))) := hk1.step' hs2 (fun x hx hlt => by omega)
  generalize ((w1.setCell ⟨B, 0, none⟩ (.int .i64 (r.lines.length : Int))).setCell ⟨B, 1, none⟩ (.int .i64 (r.edits : Int))).setCell ⟨B, 2, none⟩ (.int .i64 (r.job : Int)) = w3 at hs1 hk3 ⊢
  clear hcz hfz
  have hs1' : w3.drew.heap[B]? = some (.cells #[.int .i64 (r.lines.length : Int), .int .i64 (r.edits : Int), .int .i64 (r.job : Int)] 44 (0, 0)) := hs1
  obtain ⟨hcr, _⟩ := cells_of hs1'
  go_wp2
  exact bodyPost_ret (v := .agg #[.int .i64 (r.lines.length : Int), .int .i64 (r.edits : Int), .int .i64 (r.job : Int)]) (by simp [results, Tryz.results66, go_sem, hcr]) rfl ⟨rfl, hk3.drew⟩

set_option maxRecDepth 100000 in
set_option maxHeartbeats 4000000 in
theorem insert_ref {w : World} {b : Nat} {r : RefS} {fp : List Nat} {N L : Nat} (h : RefR w b r fp) (ok : r.Ok N L) (hN : N ≤ 1000000000000) (hL : L ≤ 1000000000000) (at_ : Int) (hat : RawOk at_) (l : Str) (hl : l.length ≤ L) :
    Calls Tryz.prog 89 #[.pointer (some ⟨b, 0, none⟩), .int .i64 at_, sv l] w fun e w' => e = .returned (.int .i64 ((r.insert at_ l).1 : Int)) ∧ RefTo w w' b fp (r.insert at_ l).2 := by
  have hsame := RefTo.same h
  obtain ⟨vl, va, vq, vs, fa, fq, h, rfl⟩ := h
  obtain ⟨hc, hf⟩ := cells_of h.cells
  obtain ⟨pl, cl, rfl⟩ := h.lines.slice
  have h60 := ok.text.few
  have hsn := ok.since
  have hed := ok.edits
  have hbe := ok.begun
  have hev := ok.every
  have hfl := ok.file
  obtain ⟨ha1, ha2⟩ := hat
  unfold RefS.insert
  by_cases h1 : r.job ≠ 0
  · have h1' : ¬ (r.job : Int) = 0 := by omega
    rw [if_pos h1]
    go_enter Tryz.func89, Tryz.ntmps89
    go_wp2
    go_ret
    exact ⟨rfl, hsame⟩
  rw [if_neg h1]
  have h1' : (r.job : Int) = 0 := by omega
  clear h1
  by_cases h2 : at_ < 0 ∨ at_ > (r.lines.length : Int)
  · rw [if_pos h2]
    rcases h2 with h2 | h2
    · go_enter Tryz.func89, Tryz.ntmps89
      go_wp2
      go_ret
      exact ⟨rfl, hsame⟩
    · have h2' : ¬ at_ < 0 := by omega
      go_enter Tryz.func89, Tryz.ntmps89
      go_wp2
      go_ret
      exact ⟨rfl, hsame⟩
  rw [if_neg h2]
  obtain ⟨p, rfl⟩ : ∃ p : Nat, at_ = (p : Int) := ⟨at_.toNat, by omega⟩
  have hp : p ≤ r.lines.length := by omega
  have h2a : ¬ (p : Int) < 0 := by omega
  have h2b : ¬ (p : Int) > (r.lines.length : Int) := by omega
  clear h2 ha1 ha2
  have hisl := isLine_ref l w (by omega)
  by_cases h3 : ¬ LineOk l
  · rw [if_pos h3]
    rw [decide_eq_false h3] at hisl
    go_enter Tryz.func89, Tryz.ntmps89
    go_wp2_with fail
    refine hisl.mono ?_
    rintro e w1 ⟨rfl, hw⟩
    rw [hw]
    go_wp2
    go_ret
    exact ⟨rfl, hsame⟩
  rw [if_neg h3]
  have h3' : LineOk l := Decidable.not_not.1 h3
  rw [decide_eq_true h3'] at hisl
  by_cases h4 : r.lines.length = 60
  · rw [if_pos h4]
    have h4' : (r.lines.length : Int) = 60 := by omega
    go_enter Tryz.func89, Tryz.ntmps89
    go_wp2_with fail
    refine hisl.mono ?_
    rintro e w1 ⟨rfl, hw⟩
    rw [hw]
    clear h4
    go_wp2
    go_ret
    exact ⟨rfl, hsame⟩
  · rw [if_neg h4]
    have h4' : ¬ (r.lines.length : Int) = 60 := by omega
    have hok2 := ok.text.insert p h3' (by omega)
    have HR : Hid (RefS.put r (r.lines.take (p : Int).toNat ++ l :: r.lines.drop (p : Int).toNat) = RefS.put r (r.lines.take p ++ l :: r.lines.drop p)) := rfl
    go_enter Tryz.func89, Tryz.ntmps89
    go_wp2_with fail
    refine hisl.mono ?_
    rintro e w1 ⟨rfl, hw⟩
    rw [hw]
    clear hw hisl
    go_wp2_with fail
    obtain ⟨hn2, hsz2, hk2⟩ := new1 w (Obj.cells #[sv l] 9)
    have h2 := h.kept hk2 (fun _ _ h => h)
    generalize hG : w.heap.size = G at hn2 hsz2 ⊢
    generalize w.alloc (Obj.cells #[sv l] 9) = w2 at hn2 hsz2 hk2 h2 ⊢
    refine (ref_put h2 p p _ _ rfl rfl (Nat.le_refl _) hp [l] _ [G] (seen_one (by rw [(cells_of hn2).1]; rfl) (by decide) (by decide)) ok.text _ rfl (by simpa using hok2) (by omega) (by omega) (by omega) (by omega) (by omega)).mono ?_
    rintro e w3 ⟨rfl, hT⟩
    go_wp2
    go_ret
    refine ⟨rfl, ?_⟩
    rw [HR.out]
    have := hT.step (w := w) (fp := refFp b (.slice pl r.lines.length cl) fa fq vs) (hk2.mono (fun _ h _ => h.elim)) (fun x hx => .inl hx)
    simpa using this

set_option maxRecDepth 100000 in
set_option maxHeartbeats 4000000 in
theorem delete_ref {w : World} {b : Nat} {r : RefS} {fp : List Nat} {N L : Nat} (h : RefR w b r fp) (ok : r.Ok N L) (hN : N ≤ 1000000000000) (hL : L ≤ 1000000000000) (at_ : Int) (hat : RawOk at_) :
    Calls Tryz.prog 90 #[.pointer (some ⟨b, 0, none⟩), .int .i64 at_] w fun e w' => e = .returned (.int .i64 ((r.delete at_).1 : Int)) ∧ RefTo w w' b fp (r.delete at_).2 := by
  have hsame := RefTo.same h
  obtain ⟨vl, va, vq, vs, fa, fq, h, rfl⟩ := h
  obtain ⟨hc, hf⟩ := cells_of h.cells
  obtain ⟨pl, cl, rfl⟩ := h.lines.slice
  have h60 := ok.text.few
  have hsn := ok.since
  have hed := ok.edits
  have hbe := ok.begun
  have hev := ok.every
  have hfl := ok.file
  obtain ⟨ha1, ha2⟩ := hat
  unfold RefS.delete
  by_cases h1 : r.job ≠ 0
  · have h1' : ¬ (r.job : Int) = 0 := by omega
    rw [if_pos h1]
    go_enter Tryz.func90, Tryz.ntmps90
    go_wp2
    go_ret
    exact ⟨rfl, hsame⟩
  rw [if_neg h1]
  have h1' : (r.job : Int) = 0 := by omega
  clear h1
  by_cases h2 : at_ < 0 ∨ at_ ≥ (r.lines.length : Int)
  · rw [if_pos h2]
    rcases h2 with h2 | h2
    · go_enter Tryz.func90, Tryz.ntmps90
      go_wp2
      go_ret
      exact ⟨rfl, hsame⟩
    · have h2' : ¬ at_ < 0 := by omega
      go_enter Tryz.func90, Tryz.ntmps90
      go_wp2
      go_ret
      exact ⟨rfl, hsame⟩
  rw [if_neg h2]
  obtain ⟨p, rfl⟩ : ∃ p : Nat, at_ = (p : Int) := ⟨at_.toNat, by omega⟩
  have hp : p < r.lines.length := by omega
  have h2a : ¬ (p : Int) < 0 := by omega
  have h2b : ¬ (p : Int) ≥ (r.lines.length : Int) := by omega
  clear h2 ha1 ha2
  have hok2 := ok.text.delete p
  have HR : Hid (RefS.put r (r.lines.take (p : Int).toNat ++ r.lines.drop ((p : Int).toNat + 1)) = RefS.put r (r.lines.take p ++ r.lines.drop (p + 1))) := rfl
  go_enter Tryz.func90, Tryz.ntmps90
  go_wp2_with fail
  refine (ref_put h p (p + 1) _ _ rfl (by omega) (by omega) (by omega) [] _ [] (Seen.nil w) ok.text _ rfl (by simpa using hok2) (by omega) (by omega) (by omega) (by omega) (by omega)).mono ?_
  rintro e w3 ⟨rfl, hT⟩
  go_wp2
  go_ret
  refine ⟨rfl, ?_⟩
  rw [HR.out]
  simpa using hT

set_option maxRecDepth 100000 in
set_option maxHeartbeats 4000000 in
theorem replace_ref {w : World} {b : Nat} {r : RefS} {fp : List Nat} {N L : Nat} (h : RefR w b r fp) (ok : r.Ok N L) (hN : N ≤ 1000000000000) (hL : L ≤ 1000000000000) (at_ : Int) (hat : RawOk at_) (l : Str) (hl : l.length ≤ L) :
    Calls Tryz.prog 91 #[.pointer (some ⟨b, 0, none⟩), .int .i64 at_, sv l] w fun e w' => e = .returned (.int .i64 ((r.replace at_ l).1 : Int)) ∧ RefTo w w' b fp (r.replace at_ l).2 := by
  have hsame := RefTo.same h
  obtain ⟨vl, va, vq, vs, fa, fq, h, rfl⟩ := h
  obtain ⟨hc, hf⟩ := cells_of h.cells
  obtain ⟨pl, cl, rfl⟩ := h.lines.slice
  have h60 := ok.text.few
  have hsn := ok.since
  have hed := ok.edits
  have hbe := ok.begun
  have hev := ok.every
  have hfl := ok.file
  obtain ⟨ha1, ha2⟩ := hat
  unfold RefS.replace
  by_cases h1 : r.job ≠ 0
  · have h1' : ¬ (r.job : Int) = 0 := by omega
    rw [if_pos h1]
    go_enter Tryz.func91, Tryz.ntmps91
    go_wp2
    go_ret
    exact ⟨rfl, hsame⟩
  rw [if_neg h1]
  have h1' : (r.job : Int) = 0 := by omega
  clear h1
  by_cases h2 : at_ < 0 ∨ at_ ≥ (r.lines.length : Int)
  · rw [if_pos h2]
    rcases h2 with h2 | h2
    · go_enter Tryz.func91, Tryz.ntmps91
      go_wp2
      go_ret
      exact ⟨rfl, hsame⟩
    · have h2' : ¬ at_ < 0 := by omega
      go_enter Tryz.func91, Tryz.ntmps91
      go_wp2
      go_ret
      exact ⟨rfl, hsame⟩
  rw [if_neg h2]
  obtain ⟨p, rfl⟩ : ∃ p : Nat, at_ = (p : Int) := ⟨at_.toNat, by omega⟩
  have hp : p < r.lines.length := by omega
  have h2a : ¬ (p : Int) < 0 := by omega
  have h2b : ¬ (p : Int) ≥ (r.lines.length : Int) := by omega
  clear h2 ha1 ha2
  have hisl := isLine_ref l w (by omega)
  by_cases h3 : ¬ LineOk l
  · rw [if_pos h3]
    rw [decide_eq_false h3] at hisl
    go_enter Tryz.func91, Tryz.ntmps91
    go_wp2_with fail
    refine hisl.mono ?_
    rintro e w1 ⟨rfl, hw⟩
    rw [hw]
    go_wp2
    go_ret
    exact ⟨rfl, hsame⟩
  rw [if_neg h3]
  have h3' : LineOk l := Decidable.not_not.1 h3
  rw [decide_eq_true h3'] at hisl
  have hok2 := ok.text.replace p h3' (by omega)
  have HR : Hid (RefS.put r (r.lines.take (p : Int).toNat ++ l :: r.lines.drop ((p : Int).toNat + 1)) = RefS.put r (r.lines.take p ++ l :: r.lines.drop (p + 1))) := rfl
  go_enter Tryz.func91, Tryz.ntmps91
  go_wp2_with fail
  refine hisl.mono ?_
  rintro e w1 ⟨rfl, hw⟩
  rw [hw]
  clear hw hisl
  go_wp2_with fail
  obtain ⟨hn2, hsz2, hk2⟩ := new1 w (Obj.cells #[sv l] 9)
  have h2 := h.kept hk2 (fun _ _ h => h)
  generalize hG : w.heap.size = G at hn2 hsz2 ⊢
  generalize w.alloc (Obj.cells #[sv l] 9) = w2 at hn2 hsz2 hk2 h2 ⊢
  refine (ref_put h2 p (p + 1) _ _ rfl (by omega) (by omega) (by omega) [l] _ [G] (seen_one (by rw [(cells_of hn2).1]; rfl) (by decide) (by decide)) ok.text _ rfl (by simpa using hok2) (by omega) (by omega) (by omega) (by omega) (by omega)).mono ?_
  rintro e w3 ⟨rfl, hT⟩
  go_wp2
  go_ret
  refine ⟨rfl, ?_⟩
  rw [HR.out]
  have := hT.step (w := w) (fp := refFp b (.slice pl r.lines.length cl) fa fq vs) (hk2.mono (fun _ h _ => h.elim)) (fun x hx => .inl hx)
  simpa using this
end Go.Proofs.YtdpfohgkikjeaaaGreat
