/- Part 3 of the proof: see its parts. -/
import Derived.WalkKit
import Derived.ProofKit
import Derived.BigQuiet
import Derived.Outline
import Derived.WalkSmall
import Derived.Maps.AppendAt
import Derived.OwnWalk
import Derived.Laws.BytesString
import Derived.Laws.CopyRow
import Derived.Deep.WholeRow
import Derived.Test.YtdpfohgkikjeaaaGreatV1
import Derived.Test.YtdpfohgkikjeaaaGreatV2
/- A desk of the statements, in plain mathematics: a document, a disk, what may be read back. Nothing of the program. -/
namespace Go.Proofs.YtdpfohgkikjeaaaGreat
set_option linter.unusedVariables false
set_option linter.unusedSimpArgs false

def lastOne {α : Type} (l : List α) : List α := l.drop (l.length - 1)
theorem lastOne_eq {α : Type} {l : List α} {x : α} (h : l.getLast? = some x) : lastOne l = [x] := by
  obtain ⟨ys, rfl⟩ := List.getLast?_eq_some_iff.1 h
  simp [lastOne]
theorem lastOne_length {α : Type} (l : List α) : (lastOne l).length ≤ l.length := by simp [lastOne]

theorem lastOne_ne {α : Type} {l : List α} (h : l ≠ []) : lastOne l ≠ [] := by
  intro e
  have h1 := List.length_pos_iff.2 h
  have := congrArg List.length e
  simp [lastOne] at this
  omega

theorem DocS.Ok.mk1 {d : DocS} (ok : d.Ok) {acts : List PAct} (hk : d.kind ≠ 0) (ha : acts ≠ []) : DocS.Ok { d with acts := acts } :=
  ⟨⟨ok.text, ok.every1, ok.every2, ok.half, ok.number, ok.sum, ok.len0, ok.len1⟩, ok.counted, ok.kind, ⟨fun _ => ha, fun _ => hk⟩⟩
theorem DocS.Ok.mk0 {d : DocS} (ok : d.Ok) : DocS.Ok { d with kind := 0, acts := [] } :=
  ⟨⟨ok.text, ok.every1, ok.every2, ok.half, ok.number, ok.sum, ok.len0, ok.len1⟩, ok.counted, Nat.zero_le _, by simp⟩
theorem DocS.Ok.succ {d : DocS} (ok : d.Ok) : d.succeeded.Ok := by
  unfold DocS.succeeded
  split
  · have := ok.text.length
    exact ⟨⟨ok.text, ok.every1, ok.every2, ok.half, ok.number, crc_lt _, by simp only [markOf, DocS.text]; omega, by simp only [markOf, DocS.text]; omega⟩, ok.counted, Nat.zero_le _, by simp⟩
  · exact ⟨⟨ok.text, ok.every1, ok.every2, by show 1 - d.wr.half ≤ 1; omega, fits_next d.wr, ok.sum, ok.len0, ok.len1⟩, ok.counted, Nat.zero_le _, by simp⟩
theorem DocS.Ok.done {d : DocS} (ok : d.Ok) (good : Bool) : (d.done good).Ok := by
  unfold DocS.done
  split
  · rename_i h
    have hne : d.acts ≠ [] := fun e => by rw [e] at h; simp at h
    refine ok.mk1 (ok.acts.2 hne) (fun e => ?_)
    have := congrArg List.length e
    simp only [List.length_tail, List.length_nil] at this
    omega
  · split
    · exact ok.succ
    · exact ok.mk0

structure DeskS where
  doc : DocS
  disk : DiskS
  ch : List (Str × Mark)
  files : List Str
  most : Nat
  mf : List Str
  mt : List Str

/-- What holds of a desk; its sizes: N things, L bytes. -/
structure DeskS.Ok (D : DeskS) (N L : Nat) : Prop where
  doc : D.doc.Ok
  lens : D.disk.Lens N L
  swok : ∃ t0 f0, SwOk D.disk.S D.doc.wr t0 f0 (fun t f => (t, f) ∈ D.ch)
  ch : D.ch.length ≤ N
  fl : D.files.length ≤ N
  file : FileOk D.disk D.files
  sync : D.doc.kind = 1 → Prog D.disk.S D.doc.wr D.doc.text D.doc.file D.doc.acts ∧ D.ch.getLast? = some (D.doc.text, D.doc.file)
  save : D.doc.kind = 2 → SaveProg D.disk D.doc.text D.doc.acts ∧ D.files.getLast? = some D.doc.text
  edits : D.doc.edits ≤ N
  most : D.most ≤ D.doc.every
  one : 1 ≤ N
  big : 2460 ≤ L
  few : D.doc.acts.length ≤ 100
  mf0 : D.mf ≠ []
  mfN : D.mf.length ≤ N
  mt0 : D.mt ≠ []
  mtN : D.mt.length ≤ N

namespace DeskS
/-- The act that is to be done is done, or fails. -/
def step (D : DeskS) (good all : Bool) : DeskS :=
  match D.doc.acts with
  | [] => D
  | a :: _ =>
    { D with
      disk := if good || all then D.disk.act a else D.disk
      doc := D.doc.done good
      ch := if good = true ∧ (D.doc.done good).kind = 0 ∧ D.doc.kind = 1 then lastOne D.ch else D.ch
      files := if good = true ∧ (D.doc.done good).kind = 0 ∧ D.doc.kind ≠ 1 then lastOne D.files else D.files
      mf := if good = true ∧ (D.doc.done good).kind = 0 ∧ D.doc.kind ≠ 1 then lastOne D.mf else D.mf
      mt := if good = true ∧ (D.doc.done good).kind = 0 ∧ D.doc.kind = 1 then lastOne D.mt else D.mt }

def work : Nat → Nat → Int → Bool → DeskS → DeskS
  | 0, _, _, _, D => D
  | n + 1, i, fail, all, D => if D.doc.kind = 0 then D else work n (i + 1) fail all (D.step (decide ((i : Int) ≠ fail)) all)

def begun (D : DeskS) : DeskS := if D.doc.kind = 1 then { D with ch := D.ch ++ [(D.doc.text, D.doc.file)], mt := D.mt ++ [D.doc.text] } else D
end DeskS

theorem SwOk.more {S wr t0 f0} {ch : List (Str × Mark)} (h : SwOk S wr t0 f0 (fun t f => (t, f) ∈ ch)) (x : Str × Mark) : SwOk S wr t0 f0 (fun t f => (t, f) ∈ ch ++ [x]) :=
  h.mono fun t f hm => List.mem_append.2 (.inl hm)

theorem succeeded_kind (d : DocS) : d.succeeded.kind = 0 := by unfold DocS.succeeded; split <;> rfl

theorem done_on_eq {d : DocS} {a : PAct} {R : List PAct} (ha : d.acts = a :: R) (hR : R ≠ []) : d.done true = { d with acts := R } := by
  unfold DocS.done
  rw [ha, if_pos ⟨rfl, by cases R with | nil => exact absurd rfl hR | cons x r => simp⟩]
  rfl
theorem done_last_eq {d : DocS} {a : PAct} (ha : d.acts = [a]) : d.done true = d.succeeded := by
  unfold DocS.done
  rw [ha, if_neg (by simp), if_pos rfl]
theorem done_fail_eq (d : DocS) : d.done false = { d with kind := 0, acts := [] } := by
  unfold DocS.done
  rw [if_neg (by simp), if_neg (by simp)]

/-- An act, one way or another. -/
theorem DeskS.Ok.step {D : DeskS} {N L : Nat} (h : D.Ok N L) {a : PAct} {R : List PAct} (ha : D.doc.acts = a :: R) (good all : Bool) : RightA a ∧ (D.step good all).Ok (N + 1) L := by
  have hd' := h.doc.done good
  have hkne : D.doc.kind ≠ 0 := h.doc.acts.2 (by rw [ha]; simp)
  have hk2 := h.doc.kind
  have hone := h.one
  have hbig := h.big
  have hlm := h.lens.mono (Nat.le_succ N)
  have hch := h.ch
  have hfl := h.fl
  have hed := h.edits
  have hmo := h.most
  have hmf : D.mf.length ≤ N + 1 := Nat.le_succ_of_le h.mfN
  have hmfl : (lastOne D.mf).length ≤ N + 1 := Nat.le_trans (lastOne_length _) hmf
  have hmt : D.mt.length ≤ N + 1 := Nat.le_succ_of_le h.mtN
  have hmtl : (lastOne D.mt).length ≤ N + 1 := Nat.le_trans (lastOne_length _) hmt
  have hfew : R.length ≤ 100 := by have := h.few; rw [ha] at this; simp only [List.length_cons] at this; omega
  rcases (by omega : D.doc.kind = 1 ∨ D.doc.kind = 2) with hk | hk
  · -- of a sync
    obtain ⟨hp, hlast⟩ := h.sync hk
    obtain ⟨t0, f0, hsw⟩ := h.swok
    rw [ha] at hp
    obtain ⟨hao, hs1, hs2, hs3⟩ := prog_step hsw ⟨_, h.doc.text, rfl⟩ ⟨h.doc.sum, h.doc.len0, h.doc.len1⟩ (List.mem_of_getLast? hlast) hp
    have hr := hao.right
    have hl' : (D.disk.act a).Lens (N + 1) L := h.lens.act hr (fun e => by rcases hao with rfl | ⟨e1, _⟩ <;> simp_all) hone
    have hS : (D.disk.act a).S = D.disk.S.act a := DiskS.act_sw hr h.lens.sw
    obtain ⟨ef, eb, er, es, _, _⟩ := act_file (k := D.disk) hao
    have hfo : FileOk (D.disk.act a) D.files := by
      unfold FileOk
      rw [ef, eb, er, es]
      exact h.file
    refine ⟨hr, ?_⟩
    cases good with
    | false =>
      have e : D.step false all = { D with disk := if all then D.disk.act a else D.disk, doc := { D.doc with kind := 0, acts := [] } } := by
        unfold DeskS.step
        rw [ha]
        simp [done_fail_eq]
      rw [e]
      cases all with
      | false => exact ⟨h.doc.mk0, hlm, h.swok, by show D.ch.length ≤ _; omega, by show D.files.length ≤ _; omega, h.file, (fun e => by cases e), (fun e => by cases e), by show D.doc.edits ≤ _; omega, hmo, by omega, hbig, by first | exact Nat.zero_le _ | exact hfew, by first | exact h.mf0 | exact lastOne_ne h.mf0, by first | exact hmf | exact hmfl, by first | exact h.mt0 | exact lastOne_ne h.mt0, by first | exact hmt | exact hmtl⟩
      | true => exact ⟨h.doc.mk0, hl', ⟨t0, f0, by show SwOk (D.disk.act a).S _ _ _ _; rw [hS]; exact hs1⟩, by show D.ch.length ≤ _; omega, by show D.files.length ≤ _; omega, hfo, (fun e => by cases e), (fun e => by cases e), by show D.doc.edits ≤ _; omega, hmo, by omega, hbig, by first | exact Nat.zero_le _ | exact hfew, by first | exact h.mf0 | exact lastOne_ne h.mf0, by first | exact hmf | exact hmfl, by first | exact h.mt0 | exact lastOne_ne h.mt0, by first | exact hmt | exact hmtl⟩
    | true =>
      by_cases hR : R = []
      · subst hR
        have e : D.step true all = { D with disk := D.disk.act a, doc := D.doc.succeeded, ch := lastOne D.ch, mt := lastOne D.mt } := by
          unfold DeskS.step
          rw [ha]
          simp [done_last_eq ha, succeeded_kind, hk]
        rw [e, lastOne_eq hlast]
        have e2 : D.doc.succeeded = { D.doc with kind := 0, acts := [], wr := D.doc.wr.written, edits := 0 } := by unfold DocS.succeeded; rw [if_neg (by omega)]
        rw [e2]
        have hok := h.doc.succ
        rw [e2] at hok
        refine ⟨hok, hl', ⟨D.doc.text, D.doc.file, ?_⟩, by simp, by show D.files.length ≤ _; omega, hfo, (fun e => by cases e), (fun e => by cases e), Nat.zero_le _, hmo, by omega, hbig, by first | exact Nat.zero_le _ | exact hfew, by first | exact h.mf0 | exact lastOne_ne h.mf0, by first | exact hmf | exact hmfl, by first | exact h.mt0 | exact lastOne_ne h.mt0, by first | exact hmt | exact hmtl⟩
        show SwOk (D.disk.act a).S _ _ _ _
        rw [hS]
        exact (hs3 rfl).2.mono fun t f ⟨h1, h2⟩ => by subst h1; subst h2; exact List.mem_singleton.2 rfl
      · have e : D.step true all = { D with disk := D.disk.act a, doc := { D.doc with acts := R } } := by
          unfold DeskS.step
          rw [ha]
          simp [done_on_eq ha hR, hk]
        rw [e]
        refine ⟨h.doc.mk1 hkne hR, hl', ⟨t0, f0, by show SwOk (D.disk.act a).S _ _ _ _; rw [hS]; exact hs1⟩, by show D.ch.length ≤ _; omega, by show D.files.length ≤ _; omega, hfo, fun _ => ⟨?_, hlast⟩, (fun e => by rw [hk] at e; cases e), by show D.doc.edits ≤ _; omega, hmo, by omega, hbig, by first | exact Nat.zero_le _ | exact hfew, by first | exact h.mf0 | exact lastOne_ne h.mf0, by first | exact hmf | exact hmfl, by first | exact h.mt0 | exact lastOne_ne h.mt0, by first | exact hmt | exact hmtl⟩
        show Prog (D.disk.act a).S _ _ _ _
        rw [hS]
        exact hs2 hR
  · -- of a Save
    obtain ⟨hp, hlast⟩ := h.save hk
    rw [ha] at hp
    obtain ⟨hr, hf1, hn, hp2, hf2, hsw'⟩ := save_step h.file (List.mem_of_getLast? hlast) hp
    have htl := h.doc.text.length
    have hl' : (D.disk.act a).Lens (N + 1) L := h.lens.act hr (fun e => by have := hn e; have : D.doc.text.length ≤ 2460 := htl; omega) hone
    have hS : (D.disk.act a).S = D.disk.S := by unfold DiskS.S; rw [hsw']
    have hswok : ∃ t0 f0, SwOk (D.disk.act a).S D.doc.wr t0 f0 (fun t f => (t, f) ∈ D.ch) := by rw [hS]; exact h.swok
    refine ⟨hr, ?_⟩
    cases good with
    | false =>
      have e : D.step false all = { D with disk := if all then D.disk.act a else D.disk, doc := { D.doc with kind := 0, acts := [] } } := by
        unfold DeskS.step
        rw [ha]
        simp [done_fail_eq]
      rw [e]
      cases all with
      | false => exact ⟨h.doc.mk0, hlm, h.swok, by show D.ch.length ≤ _; omega, by show D.files.length ≤ _; omega, h.file, (fun e => by cases e), (fun e => by cases e), by show D.doc.edits ≤ _; omega, hmo, by omega, hbig, by first | exact Nat.zero_le _ | exact hfew, by first | exact h.mf0 | exact lastOne_ne h.mf0, by first | exact hmf | exact hmfl, by first | exact h.mt0 | exact lastOne_ne h.mt0, by first | exact hmt | exact hmtl⟩
      | true => exact ⟨h.doc.mk0, hl', hswok, by show D.ch.length ≤ _; omega, by show D.files.length ≤ _; omega, hf1, (fun e => by cases e), (fun e => by cases e), by show D.doc.edits ≤ _; omega, hmo, by omega, hbig, by first | exact Nat.zero_le _ | exact hfew, by first | exact h.mf0 | exact lastOne_ne h.mf0, by first | exact hmf | exact hmfl, by first | exact h.mt0 | exact lastOne_ne h.mt0, by first | exact hmt | exact hmtl⟩
    | true =>
      by_cases hR : R = []
      · subst hR
        have e : D.step true all = { D with disk := D.disk.act a, doc := D.doc.succeeded, files := lastOne D.files, mf := lastOne D.mf } := by
          unfold DeskS.step
          rw [ha]
          simp [done_last_eq ha, succeeded_kind, hk]
        rw [e, lastOne_eq hlast]
        have e2 : D.doc.succeeded = { D.doc with kind := 0, acts := [], file := markOf D.doc.text } := by unfold DocS.succeeded; rw [if_pos hk]
        rw [e2]
        have hok := h.doc.succ
        rw [e2] at hok
        exact ⟨hok, hl', hswok, by show D.ch.length ≤ _; omega, by simp, hf2 rfl, (fun e => by cases e), (fun e => by cases e), by show D.doc.edits ≤ _; omega, hmo, by omega, hbig, by first | exact Nat.zero_le _ | exact hfew, by first | exact h.mf0 | exact lastOne_ne h.mf0, by first | exact hmf | exact hmfl, by first | exact h.mt0 | exact lastOne_ne h.mt0, by first | exact hmt | exact hmtl⟩
      · have e : D.step true all = { D with disk := D.disk.act a, doc := { D.doc with acts := R } } := by
          unfold DeskS.step
          rw [ha]
          simp [done_on_eq ha hR, hk]
        rw [e]
        exact ⟨h.doc.mk1 hkne hR, hl', hswok, by show D.ch.length ≤ _; omega, by show D.files.length ≤ _; omega, hf1, (fun e => by rw [hk] at e; cases e), fun _ => ⟨hp2 hR, hlast⟩, by show D.doc.edits ≤ _; omega, hmo, by omega, hbig, by first | exact Nat.zero_le _ | exact hfew, by first | exact h.mf0 | exact lastOne_ne h.mf0, by first | exact hmf | exact hmfl, by first | exact h.mt0 | exact lastOne_ne h.mt0, by first | exact hmt | exact hmtl⟩

theorem DeskS.Ok.mono {D : DeskS} {N M L : Nat} (h : D.Ok N L) (hm : N ≤ M) : D.Ok M L :=
  ⟨h.doc, h.lens.mono hm, h.swok, Nat.le_trans h.ch hm, Nat.le_trans h.fl hm, h.file, h.sync, h.save, Nat.le_trans h.edits hm, h.most, Nat.le_trans h.one hm, h.big, h.few, h.mf0, Nat.le_trans h.mfN hm, h.mt0, Nat.le_trans h.mtN hm⟩

/-- A job is going on: it has an act. -/
theorem DeskS.Ok.next {D : DeskS} {N L : Nat} (h : D.Ok N L) (hk : D.doc.kind ≠ 0) : ∃ a R, D.doc.acts = a :: R := by
  cases ha : D.doc.acts with
  | nil => exact absurd ha (h.doc.acts.1 hk)
  | cons a R => exact ⟨a, R, rfl⟩

theorem DeskS.Ok.work {L : Nat} {fail : Int} {all : Bool} : ∀ (n i : Nat) {D : DeskS} {N : Nat}, D.Ok N L → (D.work n i fail all).Ok (N + n) L
  | 0, i, D, N, h => h
  | n + 1, i, D, N, h => by
    unfold DeskS.work
    split
    · exact h.mono (by omega)
    · rename_i hk
      obtain ⟨a, R, ha⟩ := h.next hk
      have := Ok.work (fail := fail) (all := all) n (i + 1) (h.step ha (decide ((i : Int) ≠ fail)) all).2
      rw [show N + (n + 1) = N + 1 + n by omega]
      exact this

/-- What a job never turns. -/
theorem step_same (D : DeskS) (good all : Bool) : (D.step good all).doc.lines = D.doc.lines ∧ (D.step good all).doc.every = D.doc.every ∧ (D.step good all).doc.counted = D.doc.counted ∧ (D.step good all).most = D.most ∧ (D.doc.wr.known = true → (D.step good all).doc.wr.known = true) := by
  have hd : (D.doc.done good).lines = D.doc.lines ∧ (D.doc.done good).every = D.doc.every ∧ (D.doc.done good).counted = D.doc.counted ∧ (D.doc.wr.known = true → (D.doc.done good).wr.known = true) := by
    unfold DocS.done DocS.succeeded
    split
    · exact ⟨rfl, rfl, rfl, id⟩
    · split
      · split
        · exact ⟨rfl, rfl, rfl, id⟩
        · exact ⟨rfl, rfl, rfl, fun _ => rfl⟩
      · exact ⟨rfl, rfl, rfl, id⟩
  unfold DeskS.step
  split
  · exact ⟨rfl, rfl, rfl, rfl, id⟩
  · exact ⟨hd.1, hd.2.1, hd.2.2.1, rfl, hd.2.2.2⟩

theorem work_same (fail : Int) (all : Bool) : ∀ (n i : Nat) (D : DeskS), (D.work n i fail all).doc.lines = D.doc.lines ∧ (D.work n i fail all).doc.every = D.doc.every ∧ (D.work n i fail all).doc.counted = D.doc.counted ∧ (D.work n i fail all).most = D.most ∧ (D.doc.wr.known = true → (D.work n i fail all).doc.wr.known = true)
  | 0, i, D => ⟨rfl, rfl, rfl, rfl, id⟩
  | n + 1, i, D => by
    unfold DeskS.work
    split
    · exact ⟨rfl, rfl, rfl, rfl, id⟩
    · have h1 := step_same D (decide ((i : Int) ≠ fail)) all
      have h2 := work_same fail all n (i + 1) (D.step (decide ((i : Int) ≠ fail)) all)
      exact ⟨h2.1.trans h1.1, h2.2.1.trans h1.2.1, h2.2.2.1.trans h1.2.2.1, h2.2.2.2.1.trans h1.2.2.2.1, fun hk => h2.2.2.2.2 (h1.2.2.2.2 hk)⟩

theorem step_mf {D : DeskS} (h : D.mf = D.files) (good all : Bool) : (D.step good all).mf = (D.step good all).files := by
  unfold DeskS.step
  split
  · exact h
  · dsimp only; rw [h]

theorem work_mf (fail : Int) (all : Bool) : ∀ (n i : Nat) {D : DeskS}, D.mf = D.files → (D.work n i fail all).mf = (D.work n i fail all).files
  | 0, i, D, h => h
  | n + 1, i, D, h => by
    unfold DeskS.work
    split
    · exact h
    · exact work_mf fail all n (i + 1) (step_mf h _ _)

theorem map_lastOne {α β : Type} (f : α → β) (l : List α) : (lastOne l).map f = lastOne (l.map f) := by simp [lastOne]
theorem step_mt {D : DeskS} (h : D.mt = D.ch.map (·.1)) (good all : Bool) : (D.step good all).mt = (D.step good all).ch.map (·.1) := by
  unfold DeskS.step
  split
  · exact h
  · dsimp only
    split
    · rw [h, map_lastOne]
    · exact h

theorem work_mt (fail : Int) (all : Bool) : ∀ (n i : Nat) {D : DeskS}, D.mt = D.ch.map (·.1) → (D.work n i fail all).mt = (D.work n i fail all).ch.map (·.1)
  | 0, i, D, h => h
  | n + 1, i, D, h => by
    unfold DeskS.work
    split
    · exact h
    · exact work_mt fail all n (i + 1) (step_mt h _ _)

theorem work_idle {D : DeskS} (h : D.doc.kind = 0) (n i : Nat) (fail : Int) (all : Bool) : D.work n i fail all = D := by
  cases n with
  | zero => rfl
  | succ n => unfold DeskS.work; rw [if_pos h]

/-- All acts of a job are done. -/
theorem work_all {fail : Int} {all : Bool} : ∀ (n i : Nat) (D : DeskS), D.doc.kind ≠ 0 → D.doc.acts ≠ [] → D.doc.acts.length ≤ n → fail < (i : Int) ∨ ((i + D.doc.acts.length : Nat) : Int) ≤ fail →
    D.work n i fail all = { D with disk := D.doc.acts.foldl DiskS.act D.disk, doc := D.doc.succeeded, ch := if D.doc.kind = 1 then lastOne D.ch else D.ch, files := if D.doc.kind ≠ 1 then lastOne D.files else D.files, mf := if D.doc.kind ≠ 1 then lastOne D.mf else D.mf, mt := if D.doc.kind = 1 then lastOne D.mt else D.mt }
  | 0, i, D, hk, hne, hl, hf => by
    exact absurd (List.eq_nil_of_length_eq_zero (by omega)) hne
  | n + 1, i, D, hk, hne, hl, hf => by
    unfold DeskS.work
    rw [if_neg hk]
    cases ha : D.doc.acts with
    | nil => exact absurd ha hne
    | cons a R =>
      rw [ha] at hl hf
      simp only [List.length_cons] at hl hf
      have hg : decide ((i : Int) ≠ fail) = true := by simp only [decide_eq_true_eq]; omega
      rw [hg]
      by_cases hR : R = []
      · subst hR
        have e : D.step true all = { D with disk := D.disk.act a, doc := D.doc.succeeded, ch := if D.doc.kind = 1 then lastOne D.ch else D.ch, files := if D.doc.kind ≠ 1 then lastOne D.files else D.files, mf := if D.doc.kind ≠ 1 then lastOne D.mf else D.mf, mt := if D.doc.kind = 1 then lastOne D.mt else D.mt } := by
          unfold DeskS.step
          rw [ha]
          simp [done_last_eq ha, succeeded_kind]
        rw [e]
        exact work_idle (succeeded_kind _) _ _ _ _
      · have e : D.step true all = { D with disk := D.disk.act a, doc := { D.doc with acts := R } } := by
          unfold DeskS.step
          rw [ha]
          simp [done_on_eq ha hR, hk]
        rw [e]
        rw [work_all n (i + 1) { D with disk := D.disk.act a, doc := { D.doc with acts := R } } hk hR (by show R.length ≤ n; omega) (by show fail < ((i + 1 : Nat) : Int) ∨ ((i + 1 + R.length : Nat) : Int) ≤ fail; omega)]
        have e2 : DocS.succeeded { D.doc with acts := R } = D.doc.succeeded := by unfold DocS.succeeded; rfl
        rw [e2]
        rfl
end Go.Proofs.YtdpfohgkikjeaaaGreat
/- The document's own answer as plain data. Nothing of the program. -/
namespace Go.Proofs.YtdpfohgkikjeaaaGreat
set_option linter.unusedVariables false
set_option linter.unusedSimpArgs false

structure RefS where
  lines : List Str
  file : Str
  every : Nat
  begun : Nat
  edits : Nat
  idle : Bool
  job : Nat
  acts : List PAct
  saved : Str
  last : List (Str × Mark)
  since : List (Str × Mark)

namespace RefS
def text (r : RefS) : Str := textOf r.lines
def chance (r : RefS) : Str × Mark := (r.text, markOf r.file)
def sync (r : RefS) : RefS := { r with job := 1, begun := 0, since := r.since ++ [r.chance] }
def edit (r : RefS) : RefS := if r.every ≤ r.begun + 1 then sync { r with edits := r.edits + 1, begun := r.begun + 1, idle := false } else { r with edits := r.edits + 1, begun := r.begun + 1, idle := false }
def put (r : RefS) (ls : List Str) : RefS := edit { r with lines := ls }
def insert (r : RefS) (at_ : Int) (l : Str) : Nat × RefS :=
  if r.job ≠ 0 then (5, r) else if at_ < 0 ∨ at_ > (r.lines.length : Int) then (1, r) else if ¬ LineOk l then (3, r) else if r.lines.length = 60 then (4, r)
  else (0, r.put (r.lines.take at_.toNat ++ l :: r.lines.drop at_.toNat))
def delete (r : RefS) (at_ : Int) : Nat × RefS :=
  if r.job ≠ 0 then (5, r) else if at_ < 0 ∨ at_ ≥ (r.lines.length : Int) then (1, r)
  else (0, r.put (r.lines.take at_.toNat ++ r.lines.drop (at_.toNat + 1)))
def replace (r : RefS) (at_ : Int) (l : Str) : Nat × RefS :=
  if r.job ≠ 0 then (5, r) else if at_ < 0 ∨ at_ ≥ (r.lines.length : Int) then (1, r) else if ¬ LineOk l then (3, r)
  else (0, r.put (r.lines.take at_.toNat ++ l :: r.lines.drop (at_.toNat + 1)))
def syncC (r : RefS) : Nat × RefS := if r.job ≠ 0 then (5, r) else if r.idle = true then (6, r) else (0, r.sync)
def save (r : RefS) : Nat × RefS := if r.job ≠ 0 then (5, r) else (0, { r with job := 2, saved := r.text, acts := saveActs r.text })
def over (r : RefS) (done : Bool) : RefS :=
  if r.job = 1 ∧ done = true then { r with last := lastOne r.since, since := [], edits := 0, idle := true, job := 0, acts := [] }
  else if r.job = 2 ∧ done = true then { r with file := r.saved, job := 0, acts := [] }
  else { r with job := 0, acts := [] }
end RefS

/-- The acts of a Save that are left, one less. -/
def RefS.tick (r : RefS) (good : Bool) : RefS := if r.job = 2 ∧ good = true then { r with acts := r.acts.tail } else r

/-- The texts that may be read back, of which this one is, with what it tells of the file. -/
def RefS.keeps (r : RefS) (t : Str) (file : Str) (same : Bool) : List (Str × Mark) := (r.last ++ r.since).filter fun c => c.1 == t && (decide (c.2.len = (file.length : Int) ∧ c.2.sum = crc file) == same)
def RefS.recovered (r : RefS) (ls : List Str) (file : Str) (same : Bool) (n : Nat) : RefS := ⟨ls, file, n, 0, 0, true, 0, [], [], r.keeps (textOf ls) file same, []⟩
end Go.Proofs.YtdpfohgkikjeaaaGreat
/- What the other texts of this claim stand on: a frame for memory (Kept), what a block holds, rows that are owned; no function of the program. -/
namespace Go.Proofs.YtdpfohgkikjeaaaGreat
open Go.RowKit

/-- A set of block numbers. -/
abbrev Blocks := Nat → Prop

/-- But for the blocks of S, all that was there is as it was; nothing has gone. -/
structure Kept (S : Blocks) (w w' : World) : Prop where
  os : w'.os = w.os
  tape : w'.tape = w.tape
  output : w'.output = w.output
  size : w.heap.size ≤ w'.heap.size
  block : ∀ k, k < w.heap.size → ¬ S k → w'.heap[k]? = w.heap[k]?

theorem Kept.refl (S : Blocks) (w : World) : Kept S w w := ⟨rfl, rfl, rfl, Nat.le_refl _, fun _ _ _ => rfl⟩

theorem Kept.trans {S T U : Blocks} {a b c : World} (h : Kept S a b) (k : Kept T b c) (hS : ∀ i, S i → i < a.heap.size → U i) (hT : ∀ i, T i → i < a.heap.size → U i) : Kept U a c :=
  ⟨k.os.trans h.os, k.tape.trans h.tape, k.output.trans h.output, Nat.le_trans h.size k.size, fun i hi hn =>
    (k.block i (Nat.lt_of_lt_of_le hi h.size) (fun hh => hn (hT i hh hi))).trans (h.block i hi (fun hh => hn (hS i hh hi)))⟩

/-- Two steps within one set. -/
theorem Kept.step {S : Blocks} {a b c : World} (h : Kept S a b) (k : Kept S b c) : Kept S a c := h.trans k (fun _ h _ => h) (fun _ h _ => h)

/-- A step whose set, as far as it was there at the beginning, lies within S. -/
theorem Kept.step' {S T : Blocks} {a b c : World} (h : Kept S a b) (k : Kept T b c) (hT : ∀ i, T i → i < a.heap.size → S i) : Kept S a c := h.trans k (fun _ h _ => h) hT

theorem Kept.mono {S T : Blocks} {a b : World} (h : Kept S a b) (hS : ∀ i, S i → i < a.heap.size → T i) : Kept T a b :=
  ⟨h.os, h.tape, h.output, h.size, fun i hi hn => h.block i hi (fun hh => hn (hS i hh hi))⟩

theorem Kept.drewN {S : Blocks} {a b : World} (h : Kept S a b) (n : Nat) : Kept S a (b.drewN n) := ⟨h.os, h.tape, h.output, h.size, h.block⟩
theorem Kept.drew {S : Blocks} {a b : World} (h : Kept S a b) : Kept S a b.drew := ⟨h.os, h.tape, h.output, h.size, h.block⟩
theorem Kept.of_drewN {S : Blocks} {a b : World} {n : Nat} (h : Kept S (a.drewN n) b) : Kept S a b := ⟨h.os, h.tape, h.output, h.size, h.block⟩
theorem Kept.of_drew {S : Blocks} {a b : World} (h : Kept S a.drew b) : Kept S a b := ⟨h.os, h.tape, h.output, h.size, h.block⟩

theorem Kept.alloc {S : Blocks} {a b : World} (h : Kept S a b) (o : Obj) : Kept S a (b.alloc o) :=
  h.step ⟨rfl, rfl, rfl, by simp, fun k hk _ => Below.heap_alloc _ _ _ hk⟩

theorem Kept.setCell {S : Blocks} {a b : World} (h : Kept S a b) {p : Addr} (hp : p.block < a.heap.size → S p.block) (u : Value) : Kept S a (b.setCell p u) :=
  h.step' (T := fun k => k = p.block) ⟨rfl, rfl, rfl, by simp, fun k _ hk => Below.heap_setCell _ _ _ _ hk⟩ (fun i e hi => by cases e; exact hp hi)

/-- A store into a block that was not there at the beginning. -/
theorem Kept.setNew {S : Blocks} {a b : World} (h : Kept S a b) {p : Addr} (hp : a.heap.size ≤ p.block) (u : Value) : Kept S a (b.setCell p u) := h.setCell (fun hh => absurd hh (Nat.not_lt.2 hp)) u

theorem Kept.of_below {w w' : World} (h : Below w.heap.size w w') (S : Blocks) : Kept S w w' := ⟨h.os, h.tape, h.output, h.size, fun k hk _ => h.block k hk⟩

theorem Kept.to_below {S : Blocks} {w w' : World} (h : Kept S w w') (hS : ∀ i, S i → w.heap.size ≤ i) : Below w.heap.size w w' :=
  ⟨h.os, h.tape, h.output, h.size, fun k hk => h.block k hk (fun hh => by have := hS k hh; omega)⟩

theorem Kept.of_grown {w w' : World} {row : Option Nat} (h : w.grownBy w' row) {S : Blocks} (hr : ∀ k, row = some k → k < w.heap.size → S k) : Kept S w w' :=
  ⟨h.os, h.tape, h.output, h.size, fun k hk hn => h.block k hk (fun e => hn (hr k e.symm hk))⟩

theorem lt_of_heap {w : World} {b : Nat} {o : Obj} (h : w.heap[b]? = some o) : b < w.heap.size := (Array.getElem?_eq_some_iff.1 h).1

/-- What is not in the set still lies there. -/
theorem Kept.get {S : Blocks} {w w' : World} {b : Nat} {o : Obj} (h : Kept S w w') (hb : w.heap[b]? = some o) (hn : ¬ S b) : w'.heap[b]? = some o :=
  (h.block b (lt_of_heap hb) hn).trans hb

/-! ### What a block holds -/

theorem cells_of {w : World} {b : Nat} {cs : Array Value} {T : TypeId} (h : w.heap[b]? = some (.cells cs T (0, 0))) :
    (∀ k, w.cell? ⟨b, k, none⟩ = cs[k]?) ∧ (∀ k, w.frozen? ⟨b, k, none⟩ = false) := by
  constructor
  · intro k; simp [World.cell?, h]
  · intro k; simp [World.frozen?, h]

/-- The same, whatever of the block is frozen. -/
theorem cells_of' {w : World} {b : Nat} {cs : Array Value} {T : TypeId} {f : Nat × Nat} (h : w.heap[b]? = some (.cells cs T f)) :
    ∀ k, w.cell? ⟨b, k, none⟩ = cs[k]? := by
  intro k; simp [World.cell?, h]

def setIn (o : Nat) (v : Value) : Obj → Obj
  | .cells c e f => .cells (c.setIfInBounds o v) e f
  | x => x

theorem heap_setCell {w : World} {b o k : Nat} {v : Value} : (w.setCell ⟨b, o, none⟩ v).heap[k]? = if b = k then (w.heap[k]?).map (setIn o v) else w.heap[k]? := by
  simp only [World.setCell, Array.getElem?_modify]
  split
  · rename_i h; subst h
    cases w.heap[b]? with
    | none => rfl
    | some x => cases x <;> rfl
  · rfl

theorem heap_set_same {w : World} {b o : Nat} {v : Value} {c : Array Value} {e : TypeId} {f : Nat × Nat} (h : w.heap[b]? = some (.cells c e f)) :
    (w.setCell ⟨b, o, none⟩ v).heap[b]? = some (.cells (c.setIfInBounds o v) e f) := by
  rw [heap_setCell, if_pos rfl, h]; rfl

theorem heap_set_other {w : World} {b o k : Nat} {v : Value} (h : b ≠ k) : (w.setCell ⟨b, o, none⟩ v).heap[k]? = w.heap[k]? := by
  rw [heap_setCell, if_neg h]

theorem heap_alloc_at {w : World} {o : Obj} {k : Nat} : (w.alloc o).heap[k]? = if k = w.heap.size then some o else w.heap[k]? := by
  show (w.heap.push o)[k]? = _
  rw [Array.getElem?_push]

theorem heap_alloc_same {w : World} {o : Obj} : (w.alloc o).heap[w.heap.size]? = some o := by
  rw [heap_alloc_at, if_pos rfl]

theorem heap_alloc_lt {w : World} {o : Obj} {k : Nat} (h : k < w.heap.size) : (w.alloc o).heap[k]? = w.heap[k]? := by
  rw [heap_alloc_at, if_neg (by omega)]

/-- Nothing of what was there is turned. -/
abbrev no : Blocks := fun _ => False

theorem new1 (w : World) (o : Obj) : (w.alloc o).heap[w.heap.size]? = some o ∧ (w.alloc o).heap.size = w.heap.size + 1 ∧ Kept no w (w.alloc o) :=
  ⟨heap_alloc_same, by simp, (Kept.refl _ _).alloc _⟩

theorem new2 (w : World) (o p : Obj) : ((w.alloc o).alloc p).heap[w.heap.size]? = some o ∧ ((w.alloc o).alloc p).heap[w.heap.size + 1]? = some p ∧ ((w.alloc o).alloc p).heap.size = w.heap.size + 2 ∧ Kept no w ((w.alloc o).alloc p) := by
  refine ⟨(heap_alloc_lt (by simp)).trans heap_alloc_same, ?_, by simp, ((Kept.refl _ _).alloc _).alloc _⟩
  have h := heap_alloc_same (w := w.alloc o) (o := p)
  simpa using h

/-! ### Rows that are owned -/

/-- The slice v owns a row: n elements, their cells xs. (The library's own word, from the first block on.) -/
abbrev Row (w : World) (e : TypeId) (size : Nat) (v : Value) (n : Nat) (xs : List Value) : Prop := w.ownsRow 0 e size v n xs

/-- The block of a slice. -/
def fpv (v : Value) : List Nat := v.ownBlock.toList

theorem mem_fpv {v : Value} {k : Nat} : k ∈ fpv v ↔ v.ownBlock = some k := by
  unfold fpv
  cases v.ownBlock <;> simp [eq_comm]

theorem fpv_nil : fpv (.slice none 0 0) = [] := rfl
theorem fpv_some {g o n c : Nat} : fpv (.slice (some ⟨g, o, none⟩) n c) = [g] := rfl

theorem Row.lt {w : World} {e : TypeId} {size n : Nat} {v : Value} {xs : List Value} (h : Row w e size v n xs) : ∀ k, k ∈ fpv v → k < w.heap.size := fun k hk =>
  (World.ownsRow.lt h k (mem_fpv.1 hk)).2

/-- A row lies where it lay if its block was not turned. -/
theorem Row.kept {S : Blocks} {w w' : World} {e : TypeId} {size n : Nat} {v : Value} {xs : List Value} (h : Row w e size v n xs) (k : Kept S w w') (hn : ∀ b, b ∈ fpv v → ¬ S b) : Row w' e size v n xs := by
  refine ⟨h.1, ?_⟩
  rcases h.2 with h0 | ⟨g, cap, cur, rfl, hg, hh, r⟩
  · exact .inl h0
  · exact .inr ⟨g, cap, cur, rfl, hg, k.get hh (hn g (by simp [fpv_some])), r⟩

/-- A row of one-cell elements, its cells. -/
theorem Row.cell {w : World} {e : TypeId} {size n : Nat} {xs : List Value} {g o c : Nat} (h : Row w e size (.slice (some ⟨g, o, none⟩) n c) n xs) : o = 0 ∧ n ≤ c ∧ c ≤ maxLen ∧ ∀ j u, xs[j]? = some u → w.cell? ⟨g, j, none⟩ = some u := by
  rcases h.2 with ⟨h0, _⟩ | ⟨g', cap, cur, hv, _, hh, h1, h2, h3, h4⟩
  · cases h0
  · simp only [Value.slice.injEq, Option.some.injEq, Addr.mk.injEq, and_true, true_and] at hv
    obtain ⟨⟨rfl, rfl⟩, rfl⟩ := hv
    refine ⟨rfl, h1, h2, fun j u hu => ?_⟩
    rw [cells_of' hh]
    rw [← h4, List.getElem?_take] at hu
    split at hu
    · simpa using hu
    · cases hu

/-- The two shapes of a row. -/
theorem Row.shape {w : World} {e : TypeId} {size n : Nat} {v : Value} {xs : List Value} (h : Row w e size v n xs) :
    (v = .slice none 0 0 ∧ n = 0 ∧ xs = []) ∨ ∃ g c, v = .slice (some ⟨g, 0, none⟩) n c ∧ n ≤ c ∧ c ≤ maxLen := by
  rcases h.2 with ⟨rfl, rfl⟩ | ⟨g, cap, cur, rfl, _, _, h1, h2, _⟩
  · exact .inl ⟨rfl, rfl, List.eq_nil_of_length_eq_zero (by simpa using h.1)⟩
  · exact .inr ⟨g, cap, rfl, h1, h2⟩

theorem Row.len {w : World} {e : TypeId} {n : Nat} {v : Value} {xs : List Value} (h : Row w e 1 v n xs) : xs.length = n := by simpa using h.1

end Go.Proofs.YtdpfohgkikjeaaaGreat
/- Rows of bytes: copied into, made of a string, made a string of. -/
namespace Go.Proofs.YtdpfohgkikjeaaaGreat
open Go.RowKit
set_option linter.unusedVariables false
set_option linter.unusedSimpArgs false

theorem bytes_eq {a b : ByteArray} (h : a.data.toList = b.data.toList) : a = b := ByteArray.ext (Array.toList_inj.1 h)
theorem bytes_eta (s : ByteArray) : (⟨s.data.toList.toArray⟩ : ByteArray) = s := rfl
theorem extract_list (s : ByteArray) (i j : Nat) : s.extract i j = ⟨((s.data.toList.take j).drop i).toArray⟩ := by
  apply bytes_eq
  rw [ByteArray.data_extract]
  simp [List.drop_take, List.extract_eq_take_drop]

/-- The cells of bytes. -/
def bcells (l : Str) : List Value := l.map fun b => Value.int .u8 (b.toNat : Int)

theorem bcells_length (l : Str) : (bcells l).length = l.length := by simp [bcells]
theorem bcells_one (l : Str) : ∀ v ∈ bcells l, v.oneCell' = true := by
  intro v hv
  simp only [bcells, List.mem_map] at hv
  obtain ⟨b, _, rfl⟩ := hv
  rfl
theorem bcells_append (a b : Str) : bcells (a ++ b) = bcells a ++ bcells b := by simp [bcells]
theorem bcells_drop (l : Str) (k : Nat) : bcells (l.drop k) = (bcells l).drop k := by simp [bcells]
theorem bcells_take (l : Str) (k : Nat) : bcells (l.take k) = (bcells l).take k := by simp [bcells]
theorem bcells_get {l : Str} {j : Nat} {v : Value} (h : (bcells l)[j]? = some v) : ∃ b, l[j]? = some b ∧ v = .int .u8 (b.toNat : Int) := by
  simp only [bcells, List.getElem?_map, Option.map_eq_some_iff] at h
  obtain ⟨b, hb, rfl⟩ := h
  exact ⟨b, hb, rfl⟩

theorem add_at (g o j : Nat) : (⟨g, o, none⟩ : Addr).add j = ⟨g, o + j, none⟩ := by unfold Addr.add; split <;> simp_all

/-- A block whose cells, from o on, are some bytes. -/
def BytesAt (w : World) (g o : Nat) (l : Str) : Prop := ∀ j v, (bcells l)[j]? = some v → w.cell? ⟨g, o + j, none⟩ = some v

section
variable {P : Program}

/-- 'copy' of a string into a row. -/
theorem run_copy_str (w : World) (dT sT ty elem : TypeId) (g o dLen dCap : Nat) (s : ByteArray) (cur : Array Value) (t : TypeId)
    (hu : P.underlying dT = some (.slice elem)) (hs : (P.info? elem).map (·.size) = some 1)
    (hg : w.heap[g]? = some (.cells cur t (0, 0))) (hn : s.size ≤ dLen) (hfit : o + s.size ≤ cur.size) :
    (Builtin.copy_ #[dT, sT] ty #[.slice (some ⟨g, o, none⟩) dLen dCap, .string s]).run P w =
      .ok (goInt s.size) (w.setRow g (cur.toList.take o ++ bcells s.data.toList ++ cur.toList.drop (o + s.size)).toArray) := by
  have hl : (bcells s.data.toList).length = s.size := by rw [bcells_length, Array.length_toList]; rfl
  have hst := run_storeCells_at P g o t (bcells s.data.toList) 0 cur w hg (by rw [hl]; simpa using hfit) (bcells_one _)
  rw [hl] at hst
  simp only [Nat.add_zero] at hst
  cases hq : P.info? elem with
  | none => simp [hq] at hs
  | some i =>
    have hi : i.size = 1 := by simpa [hq] using hs
    have hm : Nat.min s.size dLen = s.size := Nat.min_eq_left hn
    have hx : List.take s.size (List.map (fun (b : UInt8) => Value.int IntKind.u8 (b.toNat : Int)) s.data.toList) = bcells s.data.toList :=
      List.take_of_length_le (by rw [List.length_map, Array.length_toList]; exact Nat.le_refl _)
    simp [Builtin.copy_, run_underlying hu, Builtin.lenOf, Builtin.firstCells, sizeOf, typeInfo, hq, hm, hx, hst]

theorem foldl_bytes (l : Str) (s : ByteArray) : ((l.map fun b => (b.toNat : Int)).foldl (fun r n => r.push (UInt8.ofNat n.toNat)) s) = ⟨s.data ++ l.toArray⟩ := by
  induction l generalizing s with
  | nil => simp
  | cons b l ih =>
    simp only [List.map_cons, List.foldl_cons]
    rw [ih]
    congr 1
    simp [ByteArray.push]

/-- A slice of bytes made a string. -/
theorem run_bytes_str (w : World) (src dst e : TypeId) (g o cap : Nat) (l : Str) (hs : P.underlying src = some (.slice e)) (he : P.underlying e = some (.int .u8)) (hd : P.underlying dst = some .string)
    (h : BytesAt w g o l) : (convert src dst (.slice (some ⟨g, o, none⟩) l.length cap)).run P w = .ok (.string ⟨l.toArray⟩) w := by
  rw [run_convert_bytes_string w src dst e _ _ _ hs he hd]
  have hl := run_loadCells_list (P := P) w ⟨g, o, none⟩ (bcells l) (fun j v hv => by rw [add_at]; exact h j v hv)
  rw [bcells_length] at hl
  have e1 : (bcells l).toArray = ((l.map fun b => (b.toNat : Int)).map (Value.int .u8)).toArray := by simp [bcells, Function.comp_def]
  rw [e1] at hl
  rw [run_bytesToString w _ _ cap _ hl, foldl_bytes]
  simp
end

theorem BytesAt.of_row {w : World} {g o : Nat} {t : TypeId} {f : Nat × Nat} {cs : List Value} {l : Str} (h : w.heap[g]? = some (.cells cs.toArray t f)) (hc : ∀ j v, (bcells l)[j]? = some v → cs[o + j]? = some v) : BytesAt w g o l := by
  intro j v hv
  rw [cells_of' h]
  simpa using hc j v hv

theorem heap_setRow_same {w : World} {g : Nat} {old cs : Array Value} {t : TypeId} {f : Nat × Nat} (h : w.heap[g]? = some (.cells old t f)) : (w.setRow g cs).heap[g]? = some (.cells cs t f) := setRow_heap w g old cs t f h

theorem Kept.setRow {S : Blocks} {a b : World} (h : Kept S a b) {g : Nat} (hg : g < a.heap.size → S g) (cs : Array Value) : Kept S a (b.setRow g cs) :=
  h.step' (T := fun k => k = g) ⟨rfl, rfl, rfl, by simp, fun k _ hk => setRow_other b g k cs hk⟩ (fun i e hi => by cases e; exact hg hi)

/-- '[]byte("..")' of a constant: the row gets a mark behind its end. -/
theorem run_mark {P : Program} (V : World) (t e : TypeId) (g n c : Nat) (C : Array Value) (ht : P.underlying t = some (.slice e)) (he : P.underlying e = some (.int .u8)) (h : V.heap[g]? = some (.cells C e (0, 0))) :
    (convert t t (.slice (some ⟨g, 0, none⟩) n c)).run P V = .ok (.slice (some ⟨g, 0, none⟩) n c) (V.freeze ⟨g, C.size, none⟩ 1) := by
  have hsh : V.shape? g = some (e, C.size) := by simp [World.shape?, h]
  simp [convert, run_underlying ht, run_underlying he, markStringish, hsh]

theorem heap_freeze {w : World} {g o n k : Nat} : (w.freeze ⟨g, o, none⟩ n).heap[k]? = if n = 0 ∨ g ≠ k then w.heap[k]? else
    (w.heap[k]?).map fun | .cells c elem (lo, hi) => .cells c elem (if lo == hi then (o, o + n) else (min lo o, max hi (o + n))) | x => x := by
  unfold World.freeze
  by_cases hn : n = 0
  · simp [hn]
  · rw [if_neg hn]
    simp only [Array.getElem?_modify]
    by_cases hg : g = k
    · subst hg; simp [hn]; cases w.heap[g]? with
      | none => rfl
      | some x => cases x <;> rfl
    · simp [hg]

theorem heap_freeze_other {w : World} {g o n k : Nat} (h : g ≠ k) : (w.freeze ⟨g, o, none⟩ n).heap[k]? = w.heap[k]? := by
  rw [heap_freeze, if_pos (.inr h)]

theorem heap_mark {V : World} {g : Nat} {C : Array Value} {e : TypeId} (h : V.heap[g]? = some (.cells C e (0, 0))) : (V.freeze ⟨g, C.size, none⟩ 1).heap[g]? = some (.cells C e (C.size, C.size + 1)) := by
  rw [heap_freeze, if_neg (by simp), h]; rfl

theorem size_freeze (w : World) (a : Addr) (n : Nat) : (w.freeze a n).heap.size = w.heap.size := by
  unfold World.freeze
  split <;> simp

theorem Kept.freeze {S : Blocks} {a b : World} (h : Kept S a b) {p : Addr} (hp : a.heap.size ≤ p.block) (hs : p.spot = none) (n : Nat) : Kept S a (b.freeze p n) := by
  obtain ⟨g, o, s⟩ := p
  subst hs
  refine h.step' (T := fun k => k = g) ⟨?_, ?_, ?_, by rw [size_freeze]; exact Nat.le_refl _, fun k _ hk => ?_⟩ (fun i e hi => ?_)
  · unfold World.freeze; split <;> rfl
  · unfold World.freeze; split <;> rfl
  · unfold World.freeze; split <;> rfl
  · rw [heap_freeze, if_pos (.inr (fun e => hk e.symm))]
  · dsimp only at *; omega

end Go.Proofs.YtdpfohgkikjeaaaGreat
