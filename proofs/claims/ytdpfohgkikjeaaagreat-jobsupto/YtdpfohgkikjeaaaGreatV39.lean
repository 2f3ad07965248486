/- Part 39 of the proof: see its parts. -/
import Derived.Test.YtdpfohgkikjeaaaGreatV30
import Derived.Test.YtdpfohgkikjeaaaGreatV32
import Derived.Test.YtdpfohgkikjeaaaGreatV33
import Derived.Test.YtdpfohgkikjeaaaGreatV34
import Derived.Test.YtdpfohgkikjeaaaGreatV35
import Derived.Test.YtdpfohgkikjeaaaGreatV36
import Derived.Test.YtdpfohgkikjeaaaGreatV37
import Derived.Test.YtdpfohgkikjeaaaGreatV38
/- The statements' own: a step, what it leaves; done and again, whole. -/
namespace Go.Proofs.YtdpfohgkikjeaaaGreat
open Go.RowKit
set_option linter.unusedVariables false
set_option linter.unusedSimpArgs false

theorem leavesFile_le {d : DiskS} {N L : Nat} (h : d.Lens N L) {f : Str} (hf : d.LeavesFile f) : f.length ≤ L := by
  have h1 := h.file
  have h2 := h.before
  rcases hf with rfl | ⟨_, rfl | ⟨n, _, _, rfl⟩⟩
  · exact h1
  · exact h2
  · rw [List.length_take]; omega
theorem DocS.Ok.begins {d : DocS} (ok : d.Ok) : d.beginSync.Ok :=
  ⟨⟨ok.text, ok.every1, ok.every2, ok.half, ok.number, ok.sum, ok.len0, ok.len1⟩, by show 0 < d.every; have := ok.every1; omega, by show 1 ≤ 2; decide, ⟨fun _ => acts_ne _ _ _, fun _ => by show 1 ≠ 0; decide⟩⟩
theorem DocS.Ok.saves {d : DocS} (ok : d.Ok) (hk : d.kind = 0) : d.save.2.Ok := by
  have e : d.save.2 = { d with kind := 2, acts := saveActs d.text } := by unfold DocS.save; rw [if_neg (by omega)]
  rw [e]
  exact ⟨⟨ok.text, ok.every1, ok.every2, ok.half, ok.number, ok.sum, ok.len0, ok.len1⟩, ok.counted, by show 2 ≤ 2; decide, ⟨fun _ => by unfold saveActs; simp, fun _ => by show 2 ≠ 0; decide⟩⟩

/-- All twins are well. -/
def AllOk (l : TwL) (N L : Nat) : Prop := ∀ (i : Nat) (t : Nat × TwinS × List Nat), l[i]? = some t → t.2.1.Ok N L
theorem AllOk.mono {l : TwL} {N M L : Nat} (h : AllOk l N L) (hm : N ≤ M) : AllOk l M L := fun i t hi => (h i t hi).mono hm
theorem AllOk.set {l : TwL} {N M L : Nat} (h : AllOk l N L) (hm : N ≤ M) {i : Nat} {t : Nat × TwinS × List Nat} (ok : t.2.1.Ok M L) : AllOk (l.set i t) M L := fun j t' hj => by
  by_cases e : i = j
  · subst e
    rw [List.getElem?_set] at hj
    simp only [if_true] at hj
    split at hj
    · obtain rfl := Option.some.inj hj; exact ok
    · cases hj
  · rw [List.getElem?_set_ne e] at hj
    exact (h j t' hj).mono hm

/-- What a step leaves of a world. -/
def PlayTo (w w' : World) (b : Nat) (fp : List Nat) (l : TwL) (M N L : Nat) : Prop := ∃ l', WorldTo w w' b fp l' M ∧ l'.length = l.length ∧ AllOk l' N L

theorem PlayTo.same {w w' : World} {b l M fp N N' L} (h : WorldR w b l M fp) (k : Kept no w w') (all : AllOk l N L) (hN : N ≤ N') : PlayTo w w' b fp l (M + 1) N' L := ⟨l, (WorldTo.same h k).mono (Nat.le_succ M), rfl, all.mono hN⟩

theorem PlayTo.twin {w w1 w' : World} {b : Nat} {l : TwL} {M : Nat} {fp : List Nat} {N N' L : Nat} (hk : Kept no w w1) (h : WorldR w1 b l M fp) (all : AllOk l N L) (hN : N ≤ N') {i bt : Nat} {T : TwinS} {ft : List Nat} (hi : l[i]? = some (bt, T, ft)) {T' : TwinS} (hT : TwinTo w1 w' bt ft T') (ok : T'.Ok N' L) : PlayTo w w' b fp l (M + 1) N' L := by
  obtain ⟨fT, hW⟩ := h.twin hi hT
  exact ⟨_, (hW.after hk).mono (Nat.le_succ M), List.length_set, all.set hN ok⟩

theorem WorldTo.step {w w1 w2 : World} {b : Nat} {fp fp1 : List Nat} {l' : TwL} {M : Nat} (hx : ∀ x ∈ fp1, x ∈ fp ∨ w.heap.size ≤ x) (hk : Kept (fun x => x ∈ fp) w w1) (h : WorldTo w1 w2 b fp1 l' M) : WorldTo w w2 b fp l' M := by
  obtain ⟨⟨fp2, hr, hx2⟩, hk2⟩ := h
  refine ⟨⟨fp2, hr, fun x hx' => ?_⟩, hk.step' hk2 (fun x hx' hlt => (hx x hx').resolve_right (by omega))⟩
  rcases hx2 x hx' with h1 | h1
  · exact hx x h1
  · have := hk.size; exact .inr (by omega)

/-- done, whatever there is to be done. -/
theorem done_t {w : World} {b : Nat} {T : TwinS} {fp : List Nat} {N L : Nat} (h : TwinR w b T fp) (ok : T.Ok N L) (hN : N ≤ 1000000000000) (hL : L ≤ 1000000000000) (good all : Bool) :
    Calls Tryz.prog 67 #[ptrV b, .bool good, .bool all] w fun e w' => e = .returned (.bool true) ∧ ∃ T', TwinTo w w' b fp T' ∧ T'.Ok (N + 1) L := by
  by_cases hk : T.D.doc.kind = 0
  · exact (done_t_no h ok hk good all).mono fun e w' ⟨h1, h2⟩ => ⟨h1, T, h2, ok.mono (Nat.le_succ N)⟩
  · obtain ⟨a, A, ha⟩ := ok.ok.next hk
    have hk2 := ok.ok.doc.kind
    have okS := (ok.step ha good all).1
    have hfin : ∀ e w', (e = Ending.returned (.bool true) ∧ TwinTo w w' b fp (T.step good all)) → e = .returned (.bool true) ∧ ∃ T', TwinTo w w' b fp T' ∧ T'.Ok (N + 1) L := fun e w' ⟨h1, h2⟩ => ⟨h1, _, h2, okS⟩
    cases good with
    | false =>
      rcases (by omega : T.D.doc.kind = 1 ∨ T.D.doc.kind = 2) with e | e
      · exact (done_t_1bad h ok hN hL e ha all).mono hfin
      · exact (done_t_2bad h ok hN hL e ha all).mono hfin
    | true =>
      by_cases hA : A = []
      · rcases (by omega : T.D.doc.kind = 1 ∨ T.D.doc.kind = 2) with e | e
        · exact (done_t_1last h ok hN hL e ha hA all).mono hfin
        · exact (done_t_2last h ok hN hL e ha hA all).mono hfin
      · rcases (by omega : T.D.doc.kind = 1 ∨ T.D.doc.kind = 2) with e | e
        · exact (done_t_1more h ok hN hL e ha hA all).mono hfin
        · exact (done_t_2more h ok hN hL e ha hA all).mono hfin

/-- again, whatever is left. -/
theorem again_w {w : World} {b : Nat} {l : TwL} {M : Nat} {fp : List Nat} (h : WorldR w b l M fp) (hM : M ≤ 1000000000000) {i : Nat} {bt : Nat} {T : TwinS} {ft : List Nat} (hi : l[i]? = some (bt, T, ft)) {N L : Nat} (all : AllOk l N L) (hN : N ≤ 1000000000000) (hLL : L ≤ 1000000000000) {bk : Nat} {k : DiskS} {fk : List Nat} (hd : DiskR w bk k fk) {N' L' : Nat} (hL : k.Lens N' L') (hN' : N' ≤ 1000000000000) (hlv : T.D.disk.Leaves k.now) (file : Str) (hfl : file.length ≤ L) (a : Int) :
    Calls Tryz.prog 72 #[ptrV b, ptrV bt, ptrV bk, sv file, .int .i64 a] w fun e w' => e = .returned (.bool true) ∧ PlayTo w w' b fp l (M + 1) N L := by
  by_cases ha : a < 1 ∨ 20 < a
  · exact (again_arg h hM bt hd hL hN' file a ha).mono fun e w' ⟨h1, h2⟩ => ⟨h1, l, h2, rfl, all⟩
  · obtain ⟨n, rfl⟩ : ∃ n : Nat, a = (n : Int) := ⟨a.toNat, by omega⟩
    by_cases hlast : T.R.last = []
    · exact (again_free h hM hi hlast hd hL hN' file (by omega) n (by omega) (by omega)).mono fun e w' ⟨h1, h2⟩ => ⟨h1, l, h2, rfl, all⟩
    · exact (again_yes h hM hi (all i _ hi) hN hLL hlast hd hL hN' hlv file hfl n (by omega) (by omega)).mono fun e w' ⟨h1, T', fT, ok, h2⟩ => ⟨h1, _, h2, List.length_set, all.set (Nat.le_refl N) ok⟩
end Go.Proofs.YtdpfohgkikjeaaaGreat
