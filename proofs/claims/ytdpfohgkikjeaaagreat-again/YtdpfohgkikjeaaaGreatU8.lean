/- Part 8 of the proof: see its parts. -/
import Derived.Test.YtdpfohgkikjeaaaGreatU6
import Derived.Test.YtdpfohgkikjeaaaGreatU7
/- The statements' swap, file and desk, in plain mathematics. Nothing of the program. -/
namespace Go.Proofs.YtdpfohgkikjeaaaGreat
set_option linter.unusedVariables false
set_option linter.unusedSimpArgs false

/-! ### Raw numbers -/
/-- Which of n things the raw number c speaks of. -/
def pickN (c : Int) (n : Nat) : Nat := (if c < 0 then -(c + 1) else c).toNat % n
theorem pickN_lt (c : Int) {n : Nat} (h : 0 < n) : pickN c n < n := Nat.mod_lt _ h
/-- A raw number fits. -/
def RawOk (c : Int) : Prop := -9223372036854775808 ≤ c ∧ c < 9223372036854775808

def lineByte (c : Int) (i : Nat) : UInt8 := if pickN (c.tdiv 41 + 7 * (i : Int)) 256 = 10 then 120 else UInt8.ofNat (pickN (c.tdiv 41 + 7 * (i : Int)) 256)
def lineN (c : Int) : Str := (List.range (pickN c 41)).map (lineByte c)
theorem lineN_ok (c : Int) : LineOk (lineN c) := by
  constructor
  · have := pickN_lt c (n := 41) (by decide)
    simp only [lineN, List.length_map, List.length_range]; omega
  · intro h
    simp only [lineN, List.mem_map, List.mem_range] at h
    obtain ⟨i, _, h⟩ := h
    unfold lineByte at h
    have hp := pickN_lt (c.tdiv 41 + 7 * (i : Int)) (n := 256) (by decide)
    split at h
    · exact absurd h (by decide)
    · rename_i hne
      have := congrArg UInt8.toNat h
      simp at this
      omega
def linesN (raw : List Int) : List Str := (raw.take 60).map lineN
theorem linesN_ok (raw : List Int) : TextOk (linesN raw) := by
  refine ⟨by simp only [linesN, List.length_map, List.length_take]; omega, fun l hl => ?_⟩
  simp only [linesN, List.mem_map] at hl
  obtain ⟨c, _, rfl⟩ := hl
  exact lineN_ok c

/-! ### The disk -/
structure DiskS where
  sw : List (List Str)
  file : Str
  before : Str
  renamed : Bool
  safe : Nat
  new : Str
  newSafe : Nat

namespace DiskS
def S (d : DiskS) : Sw := fun i => d.sw.getD i [[]]
def act (d : DiskS) (a : PAct) : DiskS :=
  if a.kind = 1 then { d with sw := d.sw.set a.at_ (d.sw.getD a.at_ [] ++ [a.data]) }
  else if a.kind = 2 then { d with sw := d.sw.map fun l => [lastOf l] }
  else if a.kind = 3 then { d with new := [], newSafe := 0 }
  else if a.kind = 4 then { d with new := d.new ++ a.data }
  else if a.kind = 5 then { d with newSafe := d.new.length }
  else if a.kind = 6 then { d with before := if d.renamed then d.before else d.file, renamed := true, file := d.new, safe := d.newSafe }
  else if a.kind = 7 then { d with renamed := false }
  else d
def of (secs : List Str) (file : Str) : DiskS := ⟨secs.map fun s => [s], file, [], false, 0, [], 0⟩
def now (d : DiskS) : List Str := d.sw.map lastOf

/-- What may be left of the sectors. -/
def Leaves (d : DiskS) (secs : List Str) : Prop := secs.length = d.sw.length ∧ ∀ i, i < d.sw.length → secs.getD i [] ∈ d.sw.getD i [[]]
/-- What may be left of the file. -/
def LeavesFile (d : DiskS) (f : Str) : Prop := f = d.file ∨ (d.renamed = true ∧ (f = d.before ∨ ∃ n, d.safe ≤ n ∧ n ≤ d.file.length ∧ f = d.file.take n))

theorem S_of (secs : List Str) (file : Str) : (of secs file).S = fun i => [(secs[i]?).getD []] := by
  funext i
  simp only [S, of, List.getD_eq_getElem?_getD, List.getElem?_map]
  cases secs[i]? <;> rfl

theorem S_write (d : DiskS) {a : Nat} (h : a < d.sw.length) (x : Str) : S { d with sw := d.sw.set a (d.sw.getD a [] ++ [x]) } = d.S.write a x := by
  funext i
  unfold S Sw.write
  simp only [List.getD_eq_getElem?_getD, List.getElem?_set]
  by_cases e : a = i
  · subst e; simp [h]
  · simp [e, Ne.symm e]

theorem S_sync (d : DiskS) : S { d with sw := d.sw.map fun l => [lastOf l] } = d.S.sync := by
  funext i
  unfold S Sw.sync
  simp only [List.getD_eq_getElem?_getD, List.getElem?_map]
  cases d.sw[i]? <;> rfl

/-- How long all of a disk may be. -/
structure Lens (d : DiskS) (N L : Nat) : Prop where
  sw : d.sw.length = 400
  rows : ∀ r ∈ d.sw, r.length ≤ N
  some : ∀ r ∈ d.sw, r ≠ []
  size : ∀ r ∈ d.sw, ∀ s ∈ r, s.length = 64
  file : d.file.length ≤ L
  before : d.before.length ≤ L
  new : d.new.length ≤ L
  safe : d.renamed = true → d.safe ≤ d.file.length
  newSafe : d.newSafe ≤ d.new.length
end DiskS

theorem Sized.of_lens {d : DiskS} {N L : Nat} (h : d.Lens N L) : Sized d.S := by
  have hg : ∀ i, i < 400 → d.S i ∈ d.sw := fun i hi => by
    have h1 : i < d.sw.length := by rw [h.sw]; exact hi
    show d.sw.getD i [[]] ∈ d.sw
    simp [List.getD_eq_getElem?_getD, h1]
  exact ⟨fun i hi => h.some _ (hg i hi), fun i hi => h.size _ (hg i hi)⟩

theorem lastOf_mem' {r : List Str} (h : r ≠ []) : lastOf r ∈ r := lastOf_mem h

theorem DiskS.Lens.mono {d : DiskS} {N M L : Nat} (h : d.Lens N L) (hm : N ≤ M) : d.Lens M L := ⟨h.sw, fun r hr => Nat.le_trans (h.rows r hr) hm, h.some, h.size, h.file, h.before, h.new, h.safe, h.newSafe⟩

/-- An act that may be done. -/
def RightA (a : PAct) : Prop := (a.kind = 1 ∧ a.at_ < 400 ∧ a.data.length = 64) ∨ (a.kind = 4 ∧ a.at_ = 0) ∨ ((a.kind = 2 ∨ a.kind = 3 ∨ a.kind = 5 ∨ a.kind = 6 ∨ a.kind = 7) ∧ a.at_ = 0 ∧ a.data = [])

theorem ActOk.right {a : PAct} (h : ActOk a) : RightA a := by
  rcases h with rfl | ⟨h1, h2, h3⟩
  · exact .inr (.inr ⟨.inl rfl, rfl, rfl⟩)
  · exact .inl ⟨h1, h2, h3⟩

theorem DiskS.Lens.act {d : DiskS} {N L : Nat} (h : d.Lens N L) {a : PAct} (hr : RightA a) (hn : a.kind = 4 → d.new.length + a.data.length ≤ L) (hs : 1 ≤ N) : (d.act a).Lens (N + 1) L := by
  have hm := h.mono (Nat.le_succ N)
  unfold DiskS.act
  rcases hr with ⟨hk, h1, h2⟩ | ⟨hk, h1⟩ | ⟨hk, h1, h2⟩
  · rw [if_pos hk]
    have hlt : a.at_ < d.sw.length := by rw [h.sw]; exact h1
    have hmem : d.sw.getD a.at_ [] ∈ d.sw := by simp [List.getD_eq_getElem?_getD, hlt]
    have hset : ∀ r, r ∈ d.sw.set a.at_ (d.sw.getD a.at_ [] ++ [a.data]) → r ∈ d.sw ∨ r = d.sw.getD a.at_ [] ++ [a.data] := fun r hr => List.mem_or_eq_of_mem_set hr
    refine ⟨by rw [List.length_set]; exact h.sw, fun r hr => ?_, fun r hr => ?_, fun r hr s hs => ?_, hm.file, hm.before, hm.new, hm.safe, hm.newSafe⟩
    · rcases hset r hr with hr | rfl
      · exact hm.rows r hr
      · have := h.rows _ hmem; simp only [List.length_append, List.length_cons, List.length_nil]; omega
    · rcases hset r hr with hr | rfl
      · exact h.some r hr
      · simp
    · rcases hset r hr with hr | rfl
      · exact h.size r hr s hs
      · rcases List.mem_append.1 hs with hs | hs
        · exact h.size _ hmem s hs
        · simp at hs; rw [hs]; exact h2
  · simp only [hk]
    refine ⟨hm.sw, hm.rows, hm.some, hm.size, hm.file, hm.before, ?_, hm.safe, ?_⟩
    · have := hn hk; simpa using this
    · have := h.newSafe; show d.newSafe ≤ (d.new ++ a.data).length; simp only [List.length_append]; omega
  · rcases hk with hk | hk | hk | hk | hk
    · simp only [hk]
      refine ⟨by simpa using h.sw, fun r hr => ?_, fun r hr => ?_, fun r hr s hs => ?_, hm.file, hm.before, hm.new, hm.safe, hm.newSafe⟩
      · obtain ⟨l, _, rfl⟩ := List.mem_map.1 (show r ∈ d.sw.map (fun l => [lastOf l]) from hr); simp
      · obtain ⟨l, _, rfl⟩ := List.mem_map.1 (show r ∈ d.sw.map (fun l => [lastOf l]) from hr); simp
      · obtain ⟨l, hl, rfl⟩ := List.mem_map.1 (show r ∈ d.sw.map (fun l => [lastOf l]) from hr)
        simp only [List.mem_cons, List.not_mem_nil, or_false] at hs
        rw [hs]; exact h.size l hl _ (lastOf_mem (h.some l hl))
    · simp only [hk]; exact ⟨hm.sw, hm.rows, hm.some, hm.size, hm.file, hm.before, Nat.zero_le _, hm.safe, Nat.le_refl _⟩
    · simp only [hk]; exact ⟨hm.sw, hm.rows, hm.some, hm.size, hm.file, hm.before, hm.new, hm.safe, Nat.le_refl _⟩
    · simp only [hk]; exact ⟨hm.sw, hm.rows, hm.some, hm.size, hm.new, by show (if d.renamed then d.before else d.file).length ≤ L; split; exact hm.before; exact hm.file, hm.new, fun _ => hm.newSafe, hm.newSafe⟩
    · simp only [hk]; exact ⟨hm.sw, hm.rows, hm.some, hm.size, hm.file, hm.before, hm.new, fun h => (by cases h), hm.newSafe⟩

theorem DiskS.act_sw {d : DiskS} {a : PAct} (hr : RightA a) (h : d.sw.length = 400) : (d.act a).S = d.S.act a := by
  unfold DiskS.act Sw.act
  rcases hr with ⟨hk, h1, h2⟩ | ⟨hk, h1⟩ | ⟨hk, h1, h2⟩
  · rw [if_pos hk, if_pos hk]; exact DiskS.S_write d (by omega) _
  · simp only [hk]; rfl
  · rcases hk with hk | hk | hk | hk | hk
    · simp only [hk]; exact DiskS.S_sync d
    all_goals (simp only [hk]; rfl)

/-! ### The file -/
def FileOk (d : DiskS) (files : List Str) : Prop := d.file ∈ files ∧ (d.renamed = true → d.before ∈ files ∧ d.safe = d.file.length)

theorem FileOk.leaves {d : DiskS} {files : List Str} (h : FileOk d files) {f : Str} (hf : d.LeavesFile f) : f ∈ files := by
  rcases hf with rfl | ⟨hr, rfl | ⟨n, h1, h2, rfl⟩⟩
  · exact h.1
  · exact (h.2 hr).1
  · rw [(h.2 hr).2] at h1
    rw [List.take_of_length_le h1]
    exact h.1

theorem FileOk.more {d : DiskS} {files : List Str} (h : FileOk d files) (x : Str) : FileOk d (files ++ [x]) :=
  ⟨List.mem_append.2 (.inl h.1), fun hr => ⟨List.mem_append.2 (.inl (h.2 hr).1), (h.2 hr).2⟩⟩

/-- How far a Save has come: the acts R are left. -/
def SaveProg (k : DiskS) (t : Str) (R : List PAct) : Prop :=
  R = saveActs t ∨ (k.new = [] ∧ t ≠ [] ∧ R = [⟨4, 0, t⟩, ⟨5, 0, []⟩, ⟨6, 0, []⟩, ⟨7, 0, []⟩]) ∨ (k.new = t ∧ R = [⟨5, 0, []⟩, ⟨6, 0, []⟩, ⟨7, 0, []⟩]) ∨
  (k.new = t ∧ k.newSafe = t.length ∧ R = [⟨6, 0, []⟩, ⟨7, 0, []⟩]) ∨ (k.file = t ∧ R = [⟨7, 0, []⟩])

/-- An act of a Save is done. -/
theorem save_step {k : DiskS} {t : Str} {files : List Str} {a : PAct} {R : List PAct} (hf : FileOk k files) (ht : t ∈ files) (hp : SaveProg k t (a :: R)) :
    RightA a ∧ FileOk (k.act a) files ∧ (a.kind = 4 → k.new.length + a.data.length = t.length) ∧ (R ≠ [] → SaveProg (k.act a) t R) ∧ (R = [] → FileOk (k.act a) [t]) ∧ (k.act a).sw = k.sw := by
  rcases hp with h | ⟨hn, hne, h⟩ | ⟨hn, h⟩ | ⟨hn, hs, h⟩ | ⟨hff, h⟩
  · unfold saveActs at h
    obtain ⟨rfl, h2⟩ := List.cons_eq_cons.1 h
    refine ⟨.inr (.inr ⟨by decide, rfl, rfl⟩), hf, fun h => absurd h (by decide), fun _ => ?_, fun e => by subst e; split at h2 <;> simp at h2, rfl⟩
    by_cases e : t = []
    · subst e; rw [if_pos rfl] at h2; exact .inr (.inr (.inl ⟨rfl, h2⟩))
    · rw [if_neg e] at h2; exact .inr (.inl ⟨rfl, e, h2⟩)
  · obtain ⟨rfl, rfl⟩ := List.cons_eq_cons.1 h
    exact ⟨.inr (.inl ⟨rfl, rfl⟩), hf, fun _ => by simp [hn], fun _ => .inr (.inr (.inl ⟨by simp [DiskS.act, hn], rfl⟩)), (fun e => by cases e), rfl⟩
  · obtain ⟨rfl, rfl⟩ := List.cons_eq_cons.1 h
    exact ⟨.inr (.inr ⟨by decide, rfl, rfl⟩), hf, fun h => absurd h (by decide), fun _ => .inr (.inr (.inr (.inl ⟨hn, by simp [DiskS.act, hn], rfl⟩))), (fun e => by cases e), rfl⟩
  · obtain ⟨rfl, rfl⟩ := List.cons_eq_cons.1 h
    refine ⟨.inr (.inr ⟨by decide, rfl, rfl⟩), ⟨?_, fun _ => ⟨?_, ?_⟩⟩, fun h => absurd h (by decide), fun _ => .inr (.inr (.inr (.inr ⟨hn, rfl⟩))), (fun e => by cases e), rfl⟩
    · show k.new ∈ files; rw [hn]; exact ht
    · show (if k.renamed then k.before else k.file) ∈ files
      split
      · rename_i hr; exact (hf.2 hr).1
      · exact hf.1
    · show k.newSafe = k.new.length; rw [hs, hn]
  · obtain ⟨rfl, rfl⟩ := List.cons_eq_cons.1 h
    refine ⟨.inr (.inr ⟨by decide, rfl, rfl⟩), ⟨hf.1, fun e => (by cases e)⟩, fun h => absurd h (by decide), fun e => absurd rfl e, fun _ => ⟨?_, fun e => by cases e⟩, rfl⟩
    show k.file ∈ [t]; rw [hff]; simp

/-- Acts of a sync leave the file alone. -/
theorem act_file {k : DiskS} {a : PAct} (h : ActOk a) : (k.act a).file = k.file ∧ (k.act a).before = k.before ∧ (k.act a).renamed = k.renamed ∧ (k.act a).safe = k.safe ∧ (k.act a).new = k.new ∧ (k.act a).newSafe = k.newSafe := by
  rcases h with rfl | ⟨h1, _, _⟩
  · exact ⟨rfl, rfl, rfl, rfl, rfl, rfl⟩
  · unfold DiskS.act; rw [if_pos h1]; exact ⟨rfl, rfl, rfl, rfl, rfl, rfl⟩
end Go.Proofs.YtdpfohgkikjeaaaGreat
/- A desk of the statements, in plain mathematics: a document, a disk, what may be read back. Nothing of the program. -/
namespace Go.Proofs.YtdpfohgkikjeaaaGreat
set_option linter.unusedVariables false
set_option linter.unusedSimpArgs false

def lastOne {α : Type} (l : List α) : List α := l.drop (l.length - 1)
theorem lastOne_eq {α : Type} {l : List α} {x : α} (h : l.getLast? = some x) : lastOne l = [x] := by
  obtain ⟨ys, rfl⟩ := List.getLast?_eq_some_iff.1 h
  simp [lastOne]
theorem lastOne_length {α : Type} (l : List α) : (lastOne l).length ≤ l.length := by simp [lastOne]

theorem lastOne_ne {α : Type} {l : List α} (h : l ≠ []) : lastOne l ≠ [] := by
  intro e
  have h1 := List.length_pos_iff.2 h
  have := congrArg List.length e
  simp [lastOne] at this
  omega

theorem DocS.Ok.mk1 {d : DocS} (ok : d.Ok) {acts : List PAct} (hk : d.kind ≠ 0) (ha : acts ≠ []) : DocS.Ok { d with acts := acts } :=
  ⟨⟨ok.text, ok.every1, ok.every2, ok.half, ok.number, ok.sum, ok.len0, ok.len1⟩, ok.counted, ok.kind, ⟨fun _ => ha, fun _ => hk⟩⟩
theorem DocS.Ok.mk0 {d : DocS} (ok : d.Ok) : DocS.Ok { d with kind := 0, acts := [] } :=
  ⟨⟨ok.text, ok.every1, ok.every2, ok.half, ok.number, ok.sum, ok.len0, ok.len1⟩, ok.counted, Nat.zero_le _, by simp⟩
theorem DocS.Ok.succ {d : DocS} (ok : d.Ok) : d.succeeded.Ok := by
  unfold DocS.succeeded
  split
  · have := ok.text.length
    exact ⟨⟨ok.text, ok.every1, ok.every2, ok.half, ok.number, crc_lt _, by simp only [markOf, DocS.text]; omega, by simp only [markOf, DocS.text]; omega⟩, ok.counted, Nat.zero_le _, by simp⟩
  · exact ⟨⟨ok.text, ok.every1, ok.every2, by show 1 - d.wr.half ≤ 1; omega, fits_next d.wr, ok.sum, ok.len0, ok.len1⟩, ok.counted, Nat.zero_le _, by simp⟩
theorem DocS.Ok.done {d : DocS} (ok : d.Ok) (good : Bool) : (d.done good).Ok := by
  unfold DocS.done
  split
  · rename_i h
    have hne : d.acts ≠ [] := fun e => by rw [e] at h; simp at h
    refine ok.mk1 (ok.acts.2 hne) (fun e => ?_)
    have := congrArg List.length e
    simp only [List.length_tail, List.length_nil] at this
    omega
  · split
    · exact ok.succ
    · exact ok.mk0

structure DeskS where
  doc : DocS
  disk : DiskS
  ch : List (Str × Mark)
  files : List Str
  most : Nat
  mf : List Str
  mt : List Str

/-- What holds of a desk; its sizes: N things, L bytes. -/
structure DeskS.Ok (D : DeskS) (N L : Nat) : Prop where
  doc : D.doc.Ok
  lens : D.disk.Lens N L
  swok : ∃ t0 f0, SwOk D.disk.S D.doc.wr t0 f0 (fun t f => (t, f) ∈ D.ch)
  ch : D.ch.length ≤ N
  fl : D.files.length ≤ N
  file : FileOk D.disk D.files
  sync : D.doc.kind = 1 → Prog D.disk.S D.doc.wr D.doc.text D.doc.file D.doc.acts ∧ D.ch.getLast? = some (D.doc.text, D.doc.file)
  save : D.doc.kind = 2 → SaveProg D.disk D.doc.text D.doc.acts ∧ D.files.getLast? = some D.doc.text
  edits : D.doc.edits ≤ N
  most : D.most ≤ D.doc.every
  one : 1 ≤ N
  big : 2460 ≤ L
  few : D.doc.acts.length ≤ 100
  mf0 : D.mf ≠ []
  mfN : D.mf.length ≤ N
  mt0 : D.mt ≠ []
  mtN : D.mt.length ≤ N

namespace DeskS
/-- The act that is to be done is done, or fails. -/
def step (D : DeskS) (good all : Bool) : DeskS :=
  match D.doc.acts with
  | [] => D
  | a :: _ =>
    { D with
      disk := if good || all then D.disk.act a else D.disk
      doc := D.doc.done good
      ch := if good = true ∧ (D.doc.done good).kind = 0 ∧ D.doc.kind = 1 then lastOne D.ch else D.ch
      files := if good = true ∧ (D.doc.done good).kind = 0 ∧ D.doc.kind ≠ 1 then lastOne D.files else D.files
      mf := if good = true ∧ (D.doc.done good).kind = 0 ∧ D.doc.kind ≠ 1 then lastOne D.mf else D.mf
      mt := if good = true ∧ (D.doc.done good).kind = 0 ∧ D.doc.kind = 1 then lastOne D.mt else D.mt }

def work : Nat → Nat → Int → Bool → DeskS → DeskS
  | 0, _, _, _, D => D
  | n + 1, i, fail, all, D => if D.doc.kind = 0 then D else work n (i + 1) fail all (D.step (decide ((i : Int) ≠ fail)) all)

def begun (D : DeskS) : DeskS := if D.doc.kind = 1 then { D with ch := D.ch ++ [(D.doc.text, D.doc.file)], mt := D.mt ++ [D.doc.text] } else D
end DeskS

theorem SwOk.more {S wr t0 f0} {ch : List (Str × Mark)} (h : SwOk S wr t0 f0 (fun t f => (t, f) ∈ ch)) (x : Str × Mark) : SwOk S wr t0 f0 (fun t f => (t, f) ∈ ch ++ [x]) :=
  h.mono fun t f hm => List.mem_append.2 (.inl hm)

theorem succeeded_kind (d : DocS) : d.succeeded.kind = 0 := by unfold DocS.succeeded; split <;> rfl

theorem done_on_eq {d : DocS} {a : PAct} {R : List PAct} (ha : d.acts = a :: R) (hR : R ≠ []) : d.done true = { d with acts := R } := by
  unfold DocS.done
  rw [ha, if_pos ⟨rfl, by cases R with | nil => exact absurd rfl hR | cons x r => simp⟩]
  rfl
theorem done_last_eq {d : DocS} {a : PAct} (ha : d.acts = [a]) : d.done true = d.succeeded := by
  unfold DocS.done
  rw [ha, if_neg (by simp), if_pos rfl]
theorem done_fail_eq (d : DocS) : d.done false = { d with kind := 0, acts := [] } := by
  unfold DocS.done
  rw [if_neg (by simp), if_neg (by simp)]

/-- An act, one way or another. -/
theorem DeskS.Ok.step {D : DeskS} {N L : Nat} (h : D.Ok N L) {a : PAct} {R : List PAct} (ha : D.doc.acts = a :: R) (good all : Bool) : RightA a ∧ (D.step good all).Ok (N + 1) L := by
  have hd' := h.doc.done good
  have hkne : D.doc.kind ≠ 0 := h.doc.acts.2 (by rw [ha]; simp)
  have hk2 := h.doc.kind
  have hone := h.one
  have hbig := h.big
  have hlm := h.lens.mono (Nat.le_succ N)
  have hch := h.ch
  have hfl := h.fl
  have hed := h.edits
  have hmo := h.most
  have hmf : D.mf.length ≤ N + 1 := Nat.le_succ_of_le h.mfN
  have hmfl : (lastOne D.mf).length ≤ N + 1 := Nat.le_trans (lastOne_length _) hmf
  have hmt : D.mt.length ≤ N + 1 := Nat.le_succ_of_le h.mtN
  have hmtl : (lastOne D.mt).length ≤ N + 1 := Nat.le_trans (lastOne_length _) hmt
  have hfew : R.length ≤ 100 := by have := h.few; rw [ha] at this; simp only [List.length_cons] at this; omega
  rcases (by omega : D.doc.kind = 1 ∨ D.doc.kind = 2) with hk | hk
  · -- of a sync
    obtain ⟨hp, hlast⟩ := h.sync hk
    obtain ⟨t0, f0, hsw⟩ := h.swok
    rw [ha] at hp
    obtain ⟨hao, hs1, hs2, hs3⟩ := prog_step hsw ⟨_, h.doc.text, rfl⟩ ⟨h.doc.sum, h.doc.len0, h.doc.len1⟩ (List.mem_of_getLast? hlast) hp
    have hr := hao.right
    have hl' : (D.disk.act a).Lens (N + 1) L := h.lens.act hr (fun e => by rcases hao with rfl | ⟨e1, _⟩ <;> simp_all) hone
    have hS : (D.disk.act a).S = D.disk.S.act a := DiskS.act_sw hr h.lens.sw
    obtain ⟨ef, eb, er, es, _, _⟩ := act_file (k := D.disk) hao
    have hfo : FileOk (D.disk.act a) D.files := by
      unfold FileOk
      rw [ef, eb, er, es]
      exact h.file
    refine ⟨hr, ?_⟩
    cases good with
    | false =>
      have e : D.step false all = { D with disk := if all then D.disk.act a else D.disk, doc := { D.doc with kind := 0, acts := [] } } := by
        unfold DeskS.step
        rw [ha]
        simp [done_fail_eq]
      rw [e]
      cases all with
      | false => exact ⟨h.doc.mk0, hlm, h.swok, by show D.ch.length ≤ _; omega, by show D.files.length ≤ _; omega, h.file, (fun e => by cases e), (fun e => by cases e), by show D.doc.edits ≤ _; omega, hmo, by omega, hbig, by first | exact Nat.zero_le _ | exact hfew, by first | exact h.mf0 | exact lastOne_ne h.mf0, by first | exact hmf | exact hmfl, by first | exact h.mt0 | exact lastOne_ne h.mt0, by first | exact hmt | exact hmtl⟩
      | true => exact ⟨h.doc.mk0, hl', ⟨t0, f0, by show SwOk (D.disk.act a).S _ _ _ _; rw [hS]; exact hs1⟩, by show D.ch.length ≤ _; omega, by show D.files.length ≤ _; omega, hfo, (fun e => by cases e), (fun e => by cases e), by show D.doc.edits ≤ _; omega, hmo, by omega, hbig, by first | exact Nat.zero_le _ | exact hfew, by first | exact h.mf0 | exact lastOne_ne h.mf0, by first | exact hmf | exact hmfl, by first | exact h.mt0 | exact lastOne_ne h.mt0, by first | exact hmt | exact hmtl⟩
    | true =>
      by_cases hR : R = []
      · subst hR
        have e : D.step true all = { D with disk := D.disk.act a, doc := D.doc.succeeded, ch := lastOne D.ch, mt := lastOne D.mt } := by
          unfold DeskS.step
          rw [ha]
          simp [done_last_eq ha, succeeded_kind, hk]
        rw [e, lastOne_eq hlast]
        have e2 : D.doc.succeeded = { D.doc with kind := 0, acts := [], wr := D.doc.wr.written, edits := 0 } := by unfold DocS.succeeded; rw [if_neg (by omega)]
        rw [e2]
        have hok := h.doc.succ
        rw [e2] at hok
        refine ⟨hok, hl', ⟨D.doc.text, D.doc.file, ?_⟩, by simp, by show D.files.length ≤ _; omega, hfo, (fun e => by cases e), (fun e => by cases e), Nat.zero_le _, hmo, by omega, hbig, by first | exact Nat.zero_le _ | exact hfew, by first | exact h.mf0 | exact lastOne_ne h.mf0, by first | exact hmf | exact hmfl, by first | exact h.mt0 | exact lastOne_ne h.mt0, by first | exact hmt | exact hmtl⟩
        show SwOk (D.disk.act a).S _ _ _ _
        rw [hS]
        exact (hs3 rfl).2.mono fun t f ⟨h1, h2⟩ => by subst h1; subst h2; exact List.mem_singleton.2 rfl
      · have e : D.step true all = { D with disk := D.disk.act a, doc := { D.doc with acts := R } } := by
          unfold DeskS.step
          rw [ha]
          simp [done_on_eq ha hR, hk]
        rw [e]
        refine ⟨h.doc.mk1 hkne hR, hl', ⟨t0, f0, by show SwOk (D.disk.act a).S _ _ _ _; rw [hS]; exact hs1⟩, by show D.ch.length ≤ _; omega, by show D.files.length ≤ _; omega, hfo, fun _ => ⟨?_, hlast⟩, (fun e => by rw [hk] at e; cases e), by show D.doc.edits ≤ _; omega, hmo, by omega, hbig, by first | exact Nat.zero_le _ | exact hfew, by first | exact h.mf0 | exact lastOne_ne h.mf0, by first | exact hmf | exact hmfl, by first | exact h.mt0 | exact lastOne_ne h.mt0, by first | exact hmt | exact hmtl⟩
        show Prog (D.disk.act a).S _ _ _ _
        rw [hS]
        exact hs2 hR
  · -- of a Save
    obtain ⟨hp, hlast⟩ := h.save hk
    rw [ha] at hp
    obtain ⟨hr, hf1, hn, hp2, hf2, hsw'⟩ := save_step h.file (List.mem_of_getLast? hlast) hp
    have htl := h.doc.text.length
    have hl' : (D.disk.act a).Lens (N + 1) L := h.lens.act hr (fun e => by have := hn e; have : D.doc.text.length ≤ 2460 := htl; omega) hone
    have hS : (D.disk.act a).S = D.disk.S := by unfold DiskS.S; rw [hsw']
    have hswok : ∃ t0 f0, SwOk (D.disk.act a).S D.doc.wr t0 f0 (fun t f => (t, f) ∈ D.ch) := by rw [hS]; exact h.swok
    refine ⟨hr, ?_⟩
    cases good with
    | false =>
      have e : D.step false all = { D with disk := if all then D.disk.act a else D.disk, doc := { D.doc with kind := 0, acts := [] } } := by
        unfold DeskS.step
        rw [ha]
        simp [done_fail_eq]
      rw [e]
      cases all with
      | false => exact ⟨h.doc.mk0, hlm, h.swok, by show D.ch.length ≤ _; omega, by show D.files.length ≤ _; omega, h.file, (fun e => by cases e), (fun e => by cases e), by show D.doc.edits ≤ _; omega, hmo, by omega, hbig, by first | exact Nat.zero_le _ | exact hfew, by first | exact h.mf0 | exact lastOne_ne h.mf0, by first | exact hmf | exact hmfl, by first | exact h.mt0 | exact lastOne_ne h.mt0, by first | exact hmt | exact hmtl⟩
      | true => exact ⟨h.doc.mk0, hl', hswok, by show D.ch.length ≤ _; omega, by show D.files.length ≤ _; omega, hf1, (fun e => by cases e), (fun e => by cases e), by show D.doc.edits ≤ _; omega, hmo, by omega, hbig, by first | exact Nat.zero_le _ | exact hfew, by first | exact h.mf0 | exact lastOne_ne h.mf0, by first | exact hmf | exact hmfl, by first | exact h.mt0 | exact lastOne_ne h.mt0, by first | exact hmt | exact hmtl⟩
    | true =>
      by_cases hR : R = []
      · subst hR
        have e : D.step true all = { D with disk := D.disk.act a, doc := D.doc.succeeded, files := lastOne D.files, mf := lastOne D.mf } := by
          unfold DeskS.step
          rw [ha]
          simp [done_last_eq ha, succeeded_kind, hk]
        rw [e, lastOne_eq hlast]
        have e2 : D.doc.succeeded = { D.doc with kind := 0, acts := [], file := markOf D.doc.text } := by unfold DocS.succeeded; rw [if_pos hk]
        rw [e2]
        have hok := h.doc.succ
        rw [e2] at hok
        exact ⟨hok, hl', hswok, by show D.ch.length ≤ _; omega, by simp, hf2 rfl, (fun e => by cases e), (fun e => by cases e), by show D.doc.edits ≤ _; omega, hmo, by omega, hbig, by first | exact Nat.zero_le _ | exact hfew, by first | exact h.mf0 | exact lastOne_ne h.mf0, by first | exact hmf | exact hmfl, by first | exact h.mt0 | exact lastOne_ne h.mt0, by first | exact hmt | exact hmtl⟩
      · have e : D.step true all = { D with disk := D.disk.act a, doc := { D.doc with acts := R } } := by
          unfold DeskS.step
          rw [ha]
          simp [done_on_eq ha hR, hk]
        rw [e]
        exact ⟨h.doc.mk1 hkne hR, hl', hswok, by show D.ch.length ≤ _; omega, by show D.files.length ≤ _; omega, hf1, (fun e => by rw [hk] at e; cases e), fun _ => ⟨hp2 hR, hlast⟩, by show D.doc.edits ≤ _; omega, hmo, by omega, hbig, by first | exact Nat.zero_le _ | exact hfew, by first | exact h.mf0 | exact lastOne_ne h.mf0, by first | exact hmf | exact hmfl, by first | exact h.mt0 | exact lastOne_ne h.mt0, by first | exact hmt | exact hmtl⟩

theorem DeskS.Ok.mono {D : DeskS} {N M L : Nat} (h : D.Ok N L) (hm : N ≤ M) : D.Ok M L :=
  ⟨h.doc, h.lens.mono hm, h.swok, Nat.le_trans h.ch hm, Nat.le_trans h.fl hm, h.file, h.sync, h.save, Nat.le_trans h.edits hm, h.most, Nat.le_trans h.one hm, h.big, h.few, h.mf0, Nat.le_trans h.mfN hm, h.mt0, Nat.le_trans h.mtN hm⟩

/-- A job is going on: it has an act. -/
theorem DeskS.Ok.next {D : DeskS} {N L : Nat} (h : D.Ok N L) (hk : D.doc.kind ≠ 0) : ∃ a R, D.doc.acts = a :: R := by
  cases ha : D.doc.acts with
  | nil => exact absurd ha (h.doc.acts.1 hk)
  | cons a R => exact ⟨a, R, rfl⟩

theorem DeskS.Ok.work {L : Nat} {fail : Int} {all : Bool} : ∀ (n i : Nat) {D : DeskS} {N : Nat}, D.Ok N L → (D.work n i fail all).Ok (N + n) L
  | 0, i, D, N, h => h
  | n + 1, i, D, N, h => by
    unfold DeskS.work
    split
    · exact h.mono (by omega)
    · rename_i hk
      obtain ⟨a, R, ha⟩ := h.next hk
      have := Ok.work (fail := fail) (all := all) n (i + 1) (h.step ha (decide ((i : Int) ≠ fail)) all).2
      rw [show N + (n + 1) = N + 1 + n by omega]
      exact this

/-- What a job never turns. -/
theorem step_same (D : DeskS) (good all : Bool) : (D.step good all).doc.lines = D.doc.lines ∧ (D.step good all).doc.every = D.doc.every ∧ (D.step good all).doc.counted = D.doc.counted ∧ (D.step good all).most = D.most ∧ (D.doc.wr.known = true → (D.step good all).doc.wr.known = true) := by
  have hd : (D.doc.done good).lines = D.doc.lines ∧ (D.doc.done good).every = D.doc.every ∧ (D.doc.done good).counted = D.doc.counted ∧ (D.doc.wr.known = true → (D.doc.done good).wr.known = true) := by
    unfold DocS.done DocS.succeeded
    split
    · exact ⟨rfl, rfl, rfl, id⟩
    · split
      · split
        · exact ⟨rfl, rfl, rfl, id⟩
        · exact ⟨rfl, rfl, rfl, fun _ => rfl⟩
      · exact ⟨rfl, rfl, rfl, id⟩
  unfold DeskS.step
  split
  · exact ⟨rfl, rfl, rfl, rfl, id⟩
  · exact ⟨hd.1, hd.2.1, hd.2.2.1, rfl, hd.2.2.2⟩

theorem work_same (fail : Int) (all : Bool) : ∀ (n i : Nat) (D : DeskS), (D.work n i fail all).doc.lines = D.doc.lines ∧ (D.work n i fail all).doc.every = D.doc.every ∧ (D.work n i fail all).doc.counted = D.doc.counted ∧ (D.work n i fail all).most = D.most ∧ (D.doc.wr.known = true → (D.work n i fail all).doc.wr.known = true)
  | 0, i, D => ⟨rfl, rfl, rfl, rfl, id⟩
  | n + 1, i, D => by
    unfold DeskS.work
    split
    · exact ⟨rfl, rfl, rfl, rfl, id⟩
    · have h1 := step_same D (decide ((i : Int) ≠ fail)) all
      have h2 := work_same fail all n (i + 1) (D.step (decide ((i : Int) ≠ fail)) all)
      exact ⟨h2.1.trans h1.1, h2.2.1.trans h1.2.1, h2.2.2.1.trans h1.2.2.1, h2.2.2.2.1.trans h1.2.2.2.1, fun hk => h2.2.2.2.2 (h1.2.2.2.2 hk)⟩

theorem step_mf {D : DeskS} (h : D.mf = D.files) (good all : Bool) : (D.step good all).mf = (D.step good all).files := by
  unfold DeskS.step
  split
  · exact h
  · dsimp only; rw [h]

theorem work_mf (fail : Int) (all : Bool) : ∀ (n i : Nat) {D : DeskS}, D.mf = D.files → (D.work n i fail all).mf = (D.work n i fail all).files
  | 0, i, D, h => h
  | n + 1, i, D, h => by
    unfold DeskS.work
    split
    · exact h
    · exact work_mf fail all n (i + 1) (step_mf h _ _)

theorem map_lastOne {α β : Type} (f : α → β) (l : List α) : (lastOne l).map f = lastOne (l.map f) := by simp [lastOne]
theorem step_mt {D : DeskS} (h : D.mt = D.ch.map (·.1)) (good all : Bool) : (D.step good all).mt = (D.step good all).ch.map (·.1) := by
  unfold DeskS.step
  split
  · exact h
  · dsimp only
    split
    · rw [h, map_lastOne]
    · exact h

theorem work_mt (fail : Int) (all : Bool) : ∀ (n i : Nat) {D : DeskS}, D.mt = D.ch.map (·.1) → (D.work n i fail all).mt = (D.work n i fail all).ch.map (·.1)
  | 0, i, D, h => h
  | n + 1, i, D, h => by
    unfold DeskS.work
    split
    · exact h
    · exact work_mt fail all n (i + 1) (step_mt h _ _)

theorem work_idle {D : DeskS} (h : D.doc.kind = 0) (n i : Nat) (fail : Int) (all : Bool) : D.work n i fail all = D := by
  cases n with
  | zero => rfl
  | succ n => unfold DeskS.work; rw [if_pos h]

/-- All acts of a job are done. -/
theorem work_all {fail : Int} {all : Bool} : ∀ (n i : Nat) (D : DeskS), D.doc.kind ≠ 0 → D.doc.acts ≠ [] → D.doc.acts.length ≤ n → fail < (i : Int) ∨ ((i + D.doc.acts.length : Nat) : Int) ≤ fail →
    D.work n i fail all = { D with disk := D.doc.acts.foldl DiskS.act D.disk, doc := D.doc.succeeded, ch := if D.doc.kind = 1 then lastOne D.ch else D.ch, files := if D.doc.kind ≠ 1 then lastOne D.files else D.files, mf := if D.doc.kind ≠ 1 then lastOne D.mf else D.mf, mt := if D.doc.kind = 1 then lastOne D.mt else D.mt }
  | 0, i, D, hk, hne, hl, hf => by
    exact absurd (List.eq_nil_of_length_eq_zero (by omega)) hne
  | n + 1, i, D, hk, hne, hl, hf => by
    unfold DeskS.work
    rw [if_neg hk]
    cases ha : D.doc.acts with
    | nil => exact absurd ha hne
    | cons a R =>
      rw [ha] at hl hf
      simp only [List.length_cons] at hl hf
      have hg : decide ((i : Int) ≠ fail) = true := by simp only [decide_eq_true_eq]; omega
      rw [hg]
      by_cases hR : R = []
      · subst hR
        have e : D.step true all = { D with disk := D.disk.act a, doc := D.doc.succeeded, ch := if D.doc.kind = 1 then lastOne D.ch else D.ch, files := if D.doc.kind ≠ 1 then lastOne D.files else D.files, mf := if D.doc.kind ≠ 1 then lastOne D.mf else D.mf, mt := if D.doc.kind = 1 then lastOne D.mt else D.mt } := by
          unfold DeskS.step
          rw [ha]
          simp [done_last_eq ha, succeeded_kind]
        rw [e]
        exact work_idle (succeeded_kind _) _ _ _ _
      · have e : D.step true all = { D with disk := D.disk.act a, doc := { D.doc with acts := R } } := by
          unfold DeskS.step
          rw [ha]
          simp [done_on_eq ha hR, hk]
        rw [e]
        rw [work_all n (i + 1) { D with disk := D.disk.act a, doc := { D.doc with acts := R } } hk hR (by show R.length ≤ n; omega) (by show fail < ((i + 1 : Nat) : Int) ∨ ((i + 1 + R.length : Nat) : Int) ≤ fail; omega)]
        have e2 : DocS.succeeded { D.doc with acts := R } = D.doc.succeeded := by unfold DocS.succeeded; rfl
        rw [e2]
        rfl
end Go.Proofs.YtdpfohgkikjeaaaGreat
/- The swap and the file of the statements: the small functions. -/
namespace Go.Proofs.YtdpfohgkikjeaaaGreat
open Go.RowKit
set_option linter.unusedVariables false
set_option linter.unusedSimpArgs false

def iv (c : Int) : Value := .int .i64 c

/-- Numbers that are read: in blocks below B. -/
structure IntsAt (w : World) (B : Nat) (v : Value) (l : List Int) : Prop where
  fits : ∀ x ∈ l, RawOk x
  few : l.length ≤ 9223372036854775807
  low : B ≤ w.heap.size
  at_ : (∃ a c, v = .slice a 0 c ∧ l = []) ∨ ∃ b o c, v = .slice (some ⟨b, o, none⟩) l.length c ∧ b < B ∧ ∀ j x, l[j]? = some x → w.cell? ⟨b, o + j, none⟩ = some (iv x)

theorem IntsAt.kept {S : Blocks} {w w' : World} {B v l} (h : IntsAt w B v l) (k : Kept S w w') (hn : ∀ x, S x → B ≤ x) : IntsAt w' B v l := by
  refine ⟨h.fits, h.few, Nat.le_trans h.low k.size, ?_⟩
  rcases h.at_ with h1 | ⟨b, o, c, hv, hb, hc⟩
  · exact .inl h1
  · refine .inr ⟨b, o, c, hv, hb, fun j x hx => ?_⟩
    have hb2 := h.low
    rw [World.cell?_of_block (w := w) (k.block b (by omega) (fun hs => by have := hn b hs; omega))]
    exact hc j x hx

theorem number_any {w : World} {B : Nat} {v : Value} {l : List Int} (hr : IntsAt w B v l) (i : Nat) (iI : Int) (hi : iI = (i : Int)) (hsm : i ≤ 9223372036854775807) :
    Calls Tryz.prog 17 #[v, .int .i64 iI] w fun e w' => e = .returned (.int .i64 (l.getD i 0)) ∧ w' = w := by
  subst hi
  by_cases hlt : i < l.length
  · rcases hr.at_ with ⟨a, c, rfl, rfl⟩ | ⟨b, o, c, rfl, hb, hc⟩
    · simp at hlt
    have hcj := hc i l[i] (by simp [hlt])
    clear hc
    have e1 : l.getD i 0 = l[i] := by simp [hlt]
    rw [e1]
    generalize l[i] = x at hcj ⊢
    unfold iv at hcj
    clear e1 hr
    generalize l.length = n at *
    go_enter Tryz.func17, Tryz.ntmps17
    go_wp2
    go_ret
    exact ⟨rfl, rfl⟩
  · have e1 : l.getD i 0 = 0 := by simp [Nat.le_of_not_lt hlt]
    rw [e1]
    obtain ⟨pv, n, cv, rfl, hn⟩ : ∃ pv n cv, v = .slice pv n cv ∧ n ≤ i := by
      rcases hr.at_ with ⟨a, c, rfl, rfl⟩ | ⟨b, o, c, rfl, hb, hc⟩
      · exact ⟨_, _, _, rfl, Nat.zero_le _⟩
      · exact ⟨_, _, _, rfl, by omega⟩
    clear hr hlt e1
    go_enter Tryz.func17, Tryz.ntmps17
    go_wp2
    go_ret
    exact ⟨rfl, rfl⟩

/-- The raw number at a place, round and round. -/
def rawN (l : List Int) (i : Nat) : Int := l.getD (i % l.length) 0

theorem rawN_ok {l : List Int} (h : ∀ x ∈ l, RawOk x) (i : Nat) : RawOk (rawN l i) := by
  unfold rawN
  rw [List.getD_eq_getElem?_getD]
  cases hx : l[i % l.length]? with
  | none => exact ⟨by decide, by decide⟩
  | some x => exact h x (List.mem_of_getElem? hx)

theorem raw_any {w : World} {B : Nat} {v : Value} {l : List Int} (hr : IntsAt w B v l) (i : Nat) (iI : Int) (hi : iI = (i : Int)) (hsm : i ≤ 9223372036854775807) :
    Calls Tryz.prog 39 #[v, .int .i64 iI] w fun e w' => e = .returned (.int .i64 (rawN l i)) ∧ w' = w := by
  subst hi
  have hfew := hr.few
  by_cases hlt : 0 < l.length
  · rcases hr.at_ with ⟨a, c, rfl, rfl⟩ | ⟨b, o, c, rfl, hb, hc⟩
    · simp at hlt
    have hj : i % l.length < l.length := Nat.mod_lt _ hlt
    have hcj := hc (i % l.length) l[i % l.length] (by simp [hj])
    clear hc
    have e1 : rawN l i = l[i % l.length] := by simp [rawN, hj]
    rw [e1]
    clear e1
    generalize l[i % l.length] = x at hcj ⊢
    unfold iv at hcj
    clear hr
    have hj2 : Nat.lt (i % l.length) l.length := hj
    clear hj
    generalize hn : l.length = n at *
    have hj3 : i % n < n := hj2
    clear hj2
    generalize hm : i % n = m at *
    have hmI : (i : Int).tmod (n : Int) = (m : Int) := by rw [Int.tmod_eq_emod_of_nonneg (by omega)]; omega
    have hmE : (i : Int) % (n : Int) = (m : Int) := by omega
    have hb : ((n : Int) == 0) = false := by rw [beq_eq_false_iff_ne]; omega
    have hn0 : ¬ (n : Int) = 0 := by omega
    have hm1 : (m : Int) < (n : Int) := by omega
    have hm0 : ¬ (m : Int) < 0 := by omega
    clear hm hn
    go_enter Tryz.func39, Tryz.ntmps39
    go_wp2
    go_ret
    exact ⟨rfl, rfl⟩
  · have e0 : l = [] := List.eq_nil_of_length_eq_zero (by omega)
    subst e0
    obtain ⟨pv, cv, rfl⟩ : ∃ pv cv, v = .slice pv 0 cv := by
      rcases hr.at_ with ⟨a, c, rfl, _⟩ | ⟨b, o, c, rfl, hb, hc⟩
      · exact ⟨_, _, rfl⟩
      · exact ⟨_, _, rfl⟩
    clear hr
    go_enter Tryz.func39, Tryz.ntmps39
    go_wp2
    go_ret
    exact ⟨rfl, rfl⟩

theorem pick_eq (c : Int) (n : Nat) (hc : RawOk c) (h0 : 0 < n) : ((pickN c n : Nat) : Int) = if c < 0 then (-(c + 1)) % (n : Int) else c % (n : Int) := by
  obtain ⟨hc1, hc2⟩ := hc
  unfold pickN
  split
  · rw [Int.natCast_emod, Int.toNat_of_nonneg (by omega)]
  · rw [Int.natCast_emod, Int.toNat_of_nonneg (by omega)]

theorem neg_mod {c n : Int} (h : c < 0) : (-(c + 1)) % n = -((c + 1).tmod n) := by rw [← Int.neg_tmod, Int.tmod_eq_emod_of_nonneg (by omega)]

theorem pick_fs (c : Int) (n : Nat) (nI : Int) (hn : nI = (n : Int)) (hc : RawOk c) (h0 : 0 < n) (hsm : n ≤ 9223372036854775807) (w : World) :
    Calls Tryz.prog 38 #[.int .i64 c, .int .i64 nI] w fun e w' => e = .returned (.int .i64 (pickN c n : Nat)) ∧ w' = w := by
  subst hn
  have he := pick_eq c n hc h0
  obtain ⟨hc1, hc2⟩ := hc
  by_cases h : c < 0
  · rw [if_pos h] at he
    have HE : Hid (((pickN c n : Nat) : Int) = (-(c + 1)) % (n : Int)) := he
    clear he
    have hz : ((n : Int) == 0) = false := by rw [beq_eq_false_iff_ne]; omega
    go_enter Tryz.func38, Tryz.ntmps38
    go_wp2
    go_ret
    exact ⟨by rw [HE.out, neg_mod h]; rfl, rfl⟩
  · rw [if_neg h] at he
    have HE : Hid (((pickN c n : Nat) : Int) = c % (n : Int)) := he
    clear he
    have hz : ((n : Int) == 0) = false := by rw [beq_eq_false_iff_ne]; omega
    go_enter Tryz.func38, Tryz.ntmps38
    go_wp2
    go_ret
    exact ⟨by rw [HE.out]; rfl, rfl⟩

theorem pick_keep (c : Int) (n : Nat) (nI : Int) (hn : nI = (n : Int)) (hc : RawOk c) (h0 : 0 < n) (hsm : n ≤ 9223372036854775807) (w : World) :
    Calls Tryz.prog 23 #[.int .i64 c, .int .i64 nI] w fun e w' => e = .returned (.int .i64 (pickN c n : Nat)) ∧ w' = w := by
  subst hn
  have he := pick_eq c n hc h0
  obtain ⟨hc1, hc2⟩ := hc
  by_cases h : c < 0
  · rw [if_pos h] at he
    have HE : Hid (((pickN c n : Nat) : Int) = (-(c + 1)) % (n : Int)) := he
    clear he
    have hz : ((n : Int) == 0) = false := by rw [beq_eq_false_iff_ne]; omega
    go_enter Tryz.func23, Tryz.ntmps23
    go_wp2
    go_ret
    exact ⟨by rw [HE.out, neg_mod h]; rfl, rfl⟩
  · rw [if_neg h] at he
    have HE : Hid (((pickN c n : Nat) : Int) = c % (n : Int)) := he
    clear he
    have hz : ((n : Int) == 0) = false := by rw [beq_eq_false_iff_ne]; omega
    go_enter Tryz.func23, Tryz.ntmps23
    go_wp2
    go_ret
    exact ⟨by rw [HE.out]; rfl, rfl⟩
end Go.Proofs.YtdpfohgkikjeaaaGreat
