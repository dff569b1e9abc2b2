import PyProof.Rows.All
import Wide.All
import OpenK.AllK
import Wide.FinOn
import PySem.Challenge.RW_ownlog_k31_tallies
import HandS.ForMost
import HandS.Wide
import HandS.ForExc
import HandS.CallSlots
import HandS.Style
import HandS.RaiseMore
import HandS.Conv
import HandS.IsInst
import PyProof.ReprLen
import PyProof.StrLawsRepr
import HandS.SortInts
import HandS.ExcInit
import HandS.ExcField
import HandS.ExcIs
import KE.KExcIs
import KE.KIsAll
import HandS.ExcOwn
import HandS.Flow
import HandS.Rev
import HandS.RevTup
import HandS.MapJoin
import HandS.Strs
import PyProof.JoinWalk
import KE.GoesEnum
import KE.SortData
import HandS.SetFor
import HandS.WordsDict
import HandS.Small
import HandS.Iter
import HandS.SetKeys
import HandS.ListItems
import HandS.Deep
import HandS.TryOnly
import HandS.Comp
import KE.DataMinMax
import HandS.Sort
import KE.GoesMore
import HandS.TupAny
set_option Elab.async false
set_option linter.all false
set_option maxRecDepth 100000
set_option maxHeartbeats 4000000
/-! Data layer over HandS: programs whose values are data; heaps and addresses are dealt with once. -/
namespace DL
open PySem PySem.Spec L2

/-- the keys of a dict -/
abbrev DK := Sum Int (List Nat)
def DK.key : DK → Key
  | .inl i => .inl i
  | .inr s => .inr ⟨s.toArray⟩
inductive D where
  | non | bl (b : Bool) | int (i : Int) | str (s : List Nat) | lst (xs : List D) | tup (xs : List D) | ins (C : Addr) (ks : List Str) (xs : List D) | dct (ks : List DK) (xs : List D)

/-- an error: its class, its fields -/
structure Er where
  cls : Addr
  fs : List (Str × D)

mutual
inductive Rep (K : PySem.W.Frag) (G : Hp) : V → D → Prop
  | non : Rep K G .non .non
  | bl (b : Bool) : Rep K G (.bl b) (.bl b)
  | int (i : Int) : Rep K G (.int i) (.int i)
  | str (s : List Nat) : Rep K G (.str ⟨s.toArray⟩) (.str s)
  | lst {a : Addr} {xs : List V} {ds : List D} : G a = some (.lst xs) → Reps K G xs ds → Rep K G (.ref a) (.lst ds)
  | tup {a : Addr} {xs : List V} {ds : List D} : G a = some (.tup xs) → Reps K G xs ds → Rep K G (.ref a) (.tup ds)
  | ins {a C dx : Addr} {fs : List (Str × V)} {ds : List D} : G a = some (.ins C dx fs) → Reps K G (fs.map (·.2)) ds → Rep K G (.ref a) (.ins C (fs.map (·.1)) ds)
  | dct {a : Addr} {od : Obj} {kvs : List (Key × V)} {ks : List DK} {ds : List D} : G a = some (.frz od (.dK kvs)) → kvs.map (·.1) = ks.map DK.key → Reps K G (kvs.map (·.2)) ds → ks ≠ [] → Rep K G (.ref a) (.dct ks ds)
  | dct0 {a : Addr} : G a = some (.dK []) → Rep K G (.ref a) (.dct [] [])
inductive Reps (K : PySem.W.Frag) (G : Hp) : List V → List D → Prop
  | nil : Reps K G [] []
  | cons {v : V} {vs : List V} {d : D} {ds : List D} : Rep K G v d → Reps K G vs ds → Reps K G (v :: vs) (d :: ds)
end

section
variable {K : PySem.W.Frag} {G G' H H' : Hp}
mutual
theorem Rep.mono (g : Same G G') : ∀ {d : D} {v : V}, Rep K G v d → Rep K G' v d
  | .non, _, h => by cases h; exact .non
  | .bl _, _, h => by cases h; exact .bl _
  | .int _, _, h => by cases h; exact .int _
  | .str _, _, h => by cases h; exact .str _
  | .lst _, _, h => by cases h with | lst a b => exact .lst (g _ _ a) (Reps.mono g b)
  | .tup _, _, h => by cases h with | tup a b => exact .tup (g _ _ a) (Reps.mono g b)
  | .ins _ _ _, _, h => by cases h with | ins a b => exact .ins (g _ _ a) (Reps.mono g b)
  | .dct _ _, _, h => by cases h with
    | dct a k b n => exact .dct (g _ _ a) k (Reps.mono g b) n
    | dct0 a => exact .dct0 (g _ _ a)
theorem Reps.mono (g : Same G G') : ∀ {ds : List D} {vs : List V}, Reps K G vs ds → Reps K G' vs ds
  | [], _, h => by cases h; exact .nil
  | _ :: _, _, h => by cases h with | cons a b => exact .cons (Rep.mono g a) (Reps.mono g b)
end
theorem Reps.length : ∀ {vs : List V} {ds : List D}, Reps K G vs ds → vs.length = ds.length
  | _, _, .nil => rfl
  | _, _, .cons _ t => congrArg (· + 1) (Reps.length t)
theorem Reps.get : ∀ {vs : List V} {ds : List D} {i : Nat} {d : D}, Reps K G vs ds → ds[i]? = some d → ∃ v, vs[i]? = some v ∧ Rep K G v d
  | _, _, _, _, .nil, e => by simp at e
  | _, _, 0, _, .cons r _, e => by simp at e; subst e; exact ⟨_, rfl, r⟩
  | _, _, i + 1, d, .cons _ t, e => by
    obtain ⟨u, h1, h2⟩ := Reps.get (i := i) (d := d) t (by simpa using e)
    exact ⟨u, by simpa using h1, h2⟩
theorem Reps.append : ∀ {vs ws : List V} {ds es : List D}, Reps K G vs ds → Reps K G ws es → Reps K G (vs ++ ws) (ds ++ es)
  | _, _, _, _, .nil, s => s
  | _, _, _, _, .cons r t, s => .cons r (Reps.append t s)
theorem Reps.take : ∀ {vs : List V} {ds : List D} (n : Nat), Reps K G vs ds → Reps K G (vs.take n) (ds.take n)
  | _, _, 0, _ => .nil
  | _, _, _ + 1, .nil => .nil
  | _, _, n + 1, .cons r t => .cons r (Reps.take n t)
theorem Reps.drop : ∀ {vs : List V} {ds : List D} (n : Nat), Reps K G vs ds → Reps K G (vs.drop n) (ds.drop n)
  | _, _, 0, r => r
  | _, _, _ + 1, .nil => .nil
  | _, _, n + 1, .cons _ t => Reps.drop n t
theorem Reps.set {v : V} {d : D} (r : Rep K G v d) : ∀ {vs : List V} {ds : List D} (n : Nat), Reps K G vs ds → Reps K G (vs.set n v) (ds.set n d)
  | _, _, _, .nil => .nil
  | _, _, 0, .cons _ t => .cons r t
  | _, _, n + 1, .cons q t => .cons q (Reps.set r n t)
theorem Reps.reverse {vs : List V} {ds : List D} (h : Reps K G vs ds) : Reps K G vs.reverse ds.reverse := by
  induction vs generalizing ds with
  | nil => cases h; exact .nil
  | cons v vs ih =>
    cases h with
    | cons a b =>
      simp only [List.reverse_cons]
      exact (ih b).append (.cons a .nil)
theorem Reps.flat {vs : List V} {ds : List D} (h : Reps K G vs ds) : ∀ k : Nat, Reps K G (List.replicate k vs).flatten (List.replicate k ds).flatten
  | 0 => .nil
  | k + 1 => by
    simp only [List.replicate_succ, List.flatten_cons]
    exact h.append (Reps.flat h k)
end

/-! ### no list of it is old -/
mutual
/-- no list, no dict, no instance within -/
def nol : D → Bool
  | .lst _ => false
  | .ins _ _ _ => false
  | .dct _ _ => false
  | .tup xs => nols xs
  | _ => true
def nols : List D → Bool
  | [] => true
  | x :: xs => nol x && nols xs
end
mutual
inductive DN (K : PySem.W.Frag) (H0 G : Hp) : V → D → Prop
  | flat {v : V} {d : D} : nol d = true → DN K H0 G v d
  | lst {a : Addr} {xs : List V} {ds : List D} : H0 a = none → G a = some (.lst xs) → DNs K H0 G xs ds → DN K H0 G (.ref a) (.lst ds)
  | tup {a : Addr} {xs : List V} {ds : List D} : G a = some (.tup xs) → DNs K H0 G xs ds → DN K H0 G (.ref a) (.tup ds)
inductive DNs (K : PySem.W.Frag) (H0 G : Hp) : List V → List D → Prop
  | nil : DNs K H0 G [] []
  | cons {v : V} {vs : List V} {d : D} {ds : List D} : DN K H0 G v d → DNs K H0 G vs ds → DNs K H0 G (v :: vs) (d :: ds)
end
section
variable {K : PySem.W.Frag} {H0 H1 G G' : Hp}
mutual
theorem DN.mono (h : ∀ a, H1 a = none → H0 a = none) (g : Same G G') : ∀ {d : D} {v : V}, DN K H1 G v d → DN K H0 G' v d
  | .lst _, _, h' => by cases h' with
    | flat f => cases f
    | lst a b c => exact .lst (h _ a) (g _ _ b) (DNs.mono h g c)
  | .tup _, _, h' => by cases h' with
    | flat f => exact .flat f
    | tup b c => exact .tup (g _ _ b) (DNs.mono h g c)
  | .non, _, _ => .flat rfl
  | .bl _, _, _ => .flat rfl
  | .int _, _, _ => .flat rfl
  | .str _, _, _ => .flat rfl
  | .ins _ _ _, _, h' => by cases h' with | flat f => cases f
  | .dct _ _, _, h' => by cases h' with | flat f => cases f
theorem DNs.mono (h : ∀ a, H1 a = none → H0 a = none) (g : Same G G') : ∀ {ds : List D} {vs : List V}, DNs K H1 G vs ds → DNs K H0 G' vs ds
  | [], _, h' => by cases h'; exact .nil
  | _ :: _, _, h' => by cases h' with | cons a b => exact .cons (DN.mono h g a) (DNs.mono h g b)
end
theorem DNs.flat : ∀ {vs : List V} {ds : List D}, vs.length = ds.length → nols ds = true → DNs K H0 G vs ds
  | [], [], _, _ => .nil
  | _ :: _, _ :: _, l, h => by
    simp only [nols, Bool.and_eq_true] at h
    exact .cons (.flat h.1) (DNs.flat (by simpa using l) h.2)
  | [], _ :: _, l, _ => by simp at l
  | _ :: _, [], l, _ => by simp at l
theorem DNs.append : ∀ {vs ws : List V} {ds es : List D}, DNs K H0 G vs ds → DNs K H0 G ws es → DNs K H0 G (vs ++ ws) (ds ++ es)
  | _, _, _, _, .nil, s => s
  | _, _, _, _, .cons r t, s => .cons r (DNs.append t s)
end
theorem nols_iff : ∀ {ds : List D}, nols ds = true ↔ ∀ d ∈ ds, nol d = true
  | [] => by simp [nols]
  | d :: ds => by simp only [nols, Bool.and_eq_true, List.forall_mem_cons, nols_iff (ds := ds)]

/-! ### the state against the entry -/
/-- the bag of draws -/
def Bag (G H : Hp) (b : Addr) : Prop := G b = none ∧ ∃ (n s i : Int) (c : Addr) (cells : List Int),
  H b = some (.lst [.int n, .int s, .int i, .ref c]) ∧ G c = some (.lst (cells.map V.int)) ∧ 0 ≤ n ∧ 0 ≤ s ∧ s < 2147483647 ∧ 0 ≤ i ∧ (∀ x ∈ cells, 0 ≤ x) ∧ cells.length ≤ 63
def BagO (B : Option Addr) (G H : Hp) : Prop := ∀ b, B = some b → Bag G H b
/-- where the bag's cells lie -/
def bagC (H : Hp) (b : Addr) : Option V := match H b with
  | some (.lst l) => l[3]?
  | _ => none
structure Stt (B : Option Addr) (G0 H0 G H : Hp) : Prop where
  gg : Same G0 G
  gh : Same G H
  hh : ∀ a o, some a ≠ B → H0 a = some o → H a = some o
  fr : ∀ a o, G a = some o → G0 a = some o ∨ H0 a = none
  bag : BagO B G H
  bc : ∀ b, B = some b → bagC H b = bagC H0 b
section
variable {B : Option Addr} {G0 H0 G H G' H' G2 H2 : Hp}
theorem Stt.refl (gh : Same G H) (bag : BagO B G H) : Stt B G H G H := ⟨Same.refl _, gh, fun _ _ _ h => h, fun _ _ h => .inl h, bag, fun _ _ => rfl⟩
theorem Stt.here (s : Stt B G0 H0 G H) : Stt B G H G H := .refl s.gh s.bag
theorem Stt.b0 (s : Stt B G0 H0 G H) {b : Addr} (e : B = some b) : G b = none := (s.bag b e).1
theorem Stt.trans (s : Stt B G0 H0 G H) (t : Stt B G H G' H') : Stt B G0 H0 G' H' :=
  ⟨s.gg.trans t.gg, t.gh, fun a o n h => t.hh a o n (s.hh a o n h), (fun a o h => by
    rcases t.fr a o h with q | q
    · exact s.fr a o q
    · cases z : H0 a with
      | none => exact .inr rfl
      | some u =>
        by_cases n : some a = B
        · have := t.b0 n.symm
          rw [h] at this; cases this
        · rw [s.hh a u n z] at q; cases q), t.bag, fun b e => (t.bc b e).trans (s.bc b e)⟩
/-- a new object that stays -/
theorem Stt.new (s : Stt B G0 H0 G H) {p : Addr} {o : HO} (hp : H p = none) : Stt B G H (upd G p o) (upd H p o) := by
  have gp : G p = none := by
    cases z : G p with
    | none => rfl
    | some u => rw [s.gh p u z] at hp; cases hp
  have pb : ∀ b, B = some b → b ≠ p := fun b e z => by
    obtain ⟨_, _, _, _, _, _, h, _⟩ := s.bag b e
    rw [z, hp] at h; cases h
  refine ⟨fun a u h => ?_, fun a u h => ?_, fun a u _ h => ?_, fun a u h => ?_, fun b e => ?_, fun b e => by unfold bagC; rw [upd_ne (pb b e)]⟩
  · rw [upd_ne (ne_of_none h gp)]; exact h
  · by_cases e : a = p
    · subst e; rw [upd_same] at h ⊢; exact h
    · rw [upd_ne e] at h ⊢; exact s.gh a u h
  · rw [upd_ne (ne_of_none h hp)]; exact h
  · by_cases e : a = p
    · subst e; exact .inr hp
    · rw [upd_ne e] at h; exact .inl h
  · obtain ⟨h0, n, sd, i, c, cells, h1, h2, r⟩ := s.bag b e
    refine ⟨by rw [upd_ne (pb b e)]; exact h0, n, sd, i, c, cells, by rw [upd_ne (pb b e)]; exact h1, by rw [upd_ne (ne_of_none h2 gp)]; exact h2, r⟩
/-- a new object that is not yet part of what stays -/
theorem Stt.laid (s : Stt B G0 H0 G H) {p : Addr} {o : HO} (hp : H p = none) : Stt B G H G (upd H p o) := by
  have pb : ∀ b, B = some b → b ≠ p := fun b e z => by
    obtain ⟨_, _, _, _, _, _, h, _⟩ := s.bag b e
    rw [z, hp] at h; cases h
  refine ⟨Same.refl _, fun a u h => ?_, fun a u _ h => ?_, fun a u h => .inl h, fun b e => ?_, fun b e => by unfold bagC; rw [upd_ne (pb b e)]⟩
  · rw [upd_ne (ne_of_none (s.gh a u h) hp)]; exact s.gh a u h
  · rw [upd_ne (ne_of_none h hp)]; exact h
  · obtain ⟨h0, n, sd, i, c, cells, h1, h2, r⟩ := s.bag b e
    exact ⟨h0, n, sd, i, c, cells, by rw [upd_ne (pb b e)]; exact h1, h2, r⟩
theorem Stt.gfree (s : Stt B G0 H0 G H) {p : Addr} (hp : H p = none) : G p = none := by
  cases z : G p with
  | none => rfl
  | some u => rw [s.gh p u z] at hp; cases hp
end

/-! ### slots -/
inductive Sl where
  | un | dd (d : D) | bg | own (ds : List D) | fz (p : Addr) (ds : List D) | ex (a : Addr) (d : Option Addr) (er : Er) | pin (v : V) (d : D) | nw (d : D) | odk (ks : List DK) (xs : List D)
inductive SlOk (K : PySem.W.Frag) (B : Option Addr) (H0 G H : Hp) : Option V → Sl → Prop
  | un {o : Option V} : SlOk K B H0 G H o .un
  | dd {v : V} {d : D} : Rep K G v d → SlOk K B H0 G H (some v) (.dd d)
  | bg {b : Addr} : B = some b → SlOk K B H0 G H (some (.ref b)) .bg
  | own {p : Addr} {vs : List V} {ds : List D} : H p = some (.lst vs) → Reps K G vs ds → G p = none → H0 p = none → B ≠ some p → SlOk K B H0 G H (some (.ref p)) (.own ds)
  | ex {a : Addr} {d : Option Addr} {er : Er} : (er.fs = [] ∨ ∃ dx fs, d = some dx ∧ G dx = some (.xd fs) ∧ fs.map (·.1) = er.fs.map (·.1) ∧ Reps K G (fs.map (·.2)) (er.fs.map (·.2))) → SlOk K B H0 G H (some (.ref a)) (.ex a d er)
  | nw {v : V} {d : D} : Rep K G v d → DN K H0 G v d → SlOk K B H0 G H (some v) (.nw d)
  | pin {v : V} {d : D} : Rep K G v d → SlOk K B H0 G H (some v) (.pin v d)
  | odk {p : Addr} {kvs : List (Key × V)} {ks : List DK} {ds : List D} : H p = some (.dK kvs) → kvs.map (·.1) = ks.map DK.key → Reps K G (kvs.map (·.2)) ds → G p = none → H0 p = none → B ≠ some p → SlOk K B H0 G H (some (.ref p)) (.odk ks ds)
  | fz {p : Addr} {vs : List V} {ds : List D} : G p = some (.lst vs) → Reps K G vs ds → H0 p = none → B ≠ some p → SlOk K B H0 G H (some (.ref p)) (.fz p ds)
structure En (K : PySem.W.Frag) (B : Option Addr) (G0 H0 G H : Hp) (σ : St) (ρ : List Sl) : Prop where
  st : Stt B G0 H0 G H
  sl : Paired (SlOk K B H0 G H) σ ρ
  ap : ∀ (i j : Nat) (p : Addr) (x y : List D), ρ[i]? = some (Sl.own x) → ρ[j]? = some (Sl.own y) → σ[i]? = some (some (.ref p)) → σ[j]? = some (some (.ref p)) → i = j

theorem pget {α β : Type} {F : α → β → Prop} : ∀ {l : List α} {r : List β} {i : Nat} {b : β}, Paired F l r → r[i]? = some b → ∃ a, l[i]? = some a ∧ F a b
  | _, _, _, _, .nil, e => by simp at e
  | _, _, 0, _, .cons r _, e => by simp at e; subst e; exact ⟨_, rfl, r⟩
  | _, _, i + 1, b, .cons _ t, e => by
    obtain ⟨u, h1, h2⟩ := pget (i := i) (b := b) t (by simpa using e)
    exact ⟨u, by simpa using h1, h2⟩
theorem pset {α β : Type} {F : α → β → Prop} {a : α} {b : β} (r : F a b) : ∀ {l : List α} {q : List β} (i : Nat), Paired F l q → Paired F (l.set i a) (q.set i b)
  | _, _, _, .nil => .nil
  | _, _, 0, .cons _ t => .cons r t
  | _, _, i + 1, .cons q t => .cons q (pset r i t)
theorem pmap {α β : Type} {F F' : α → β → Prop} : ∀ {l : List α} {r : List β}, Paired F l r → (∀ a b (i : Nat), l[i]? = some a → r[i]? = some b → F a b → F' a b) → Paired F' l r
  | _, _, .nil, _ => .nil
  | _, _, .cons r t, h => .cons (h _ _ 0 rfl rfl r) (pmap t fun a b i e1 e2 q => h a b (i + 1) (by simpa using e1) (by simpa using e2) q)
theorem plen {α β : Type} {F : α → β → Prop} : ∀ {l : List α} {r : List β}, Paired F l r → l.length = r.length
  | _, _, .nil => rfl
  | _, _, .cons _ t => congrArg (· + 1) (plen t)

section
variable {K : PySem.W.Frag} {B : Option Addr} {G0 H0 G H G' H' : Hp} {σ : St} {ρ : List Sl}
theorem exMono {d : Option Addr} {er : Er} (g : Same G G') (h : er.fs = [] ∨ ∃ dx fs, d = some dx ∧ G dx = some (.xd fs) ∧ fs.map (·.1) = er.fs.map (·.1) ∧ Reps K G (fs.map (·.2)) (er.fs.map (·.2))) : er.fs = [] ∨ ∃ dx fs, d = some dx ∧ G' dx = some (.xd fs) ∧ fs.map (·.1) = er.fs.map (·.1) ∧ Reps K G' (fs.map (·.2)) (er.fs.map (·.2)) :=
  h.imp id fun ⟨dx, fs, e1, e2, e3, e4⟩ => ⟨dx, fs, e1, g _ _ e2, e3, e4.mono g⟩
theorem SlOk.mono {o : Option V} {s : Sl} (t : Stt B G H G' H') (h : SlOk K B H0 G H o s) : SlOk K B H0 G' H' o s := by
  cases h with
  | un => exact .un
  | dd r => exact .dd (r.mono t.gg)
  | bg e => exact .bg e
  | fz a r h0 nb => exact .fz (t.gg _ _ a) (r.mono t.gg) h0 nb
  | ex h => exact .ex (exMono t.gg h)
  | pin r => exact .pin (r.mono t.gg)
  | nw r n => exact .nw (r.mono t.gg) (n.mono (fun _ h => h) t.gg)
  | odk a k r g h0 nb =>
    refine .odk (t.hh _ _ (fun z => nb z.symm) a) k (r.mono t.gg) ?_ h0 nb
    cases z : G' _ with
    | none => rfl
    | some u =>
      rcases t.fr _ u z with q | q
      · rw [g] at q; cases q
      · rw [a] at q; cases q
  | own a r g h0 nb =>
    refine .own (t.hh _ _ (fun z => nb z.symm) a) (r.mono t.gg) ?_ h0 nb
    cases z : G' _ with
    | none => rfl
    | some u =>
      rcases t.fr _ u z with q | q
      · rw [g] at q; cases q
      · rw [a] at q; cases q
theorem En.step (I : En K B G0 H0 G H σ ρ) (t : Stt B G H G' H') : En K B G0 H0 G' H' σ ρ :=
  ⟨I.st.trans t, pmap I.sl fun _ _ _ _ _ q => q.mono t, I.ap⟩
theorem En.var {i : Nat} {d : D} (I : En K B G0 H0 G H σ ρ) (e : ρ[i]? = some (.dd d)) : ∃ v, σ[i]? = some (some v) ∧ Rep K G v d := by
  obtain ⟨o, h1, h2⟩ := pget I.sl e
  cases h2 with
  | dd r => exact ⟨_, h1, r⟩
theorem En.bgv {i : Nat} (I : En K B G0 H0 G H σ ρ) (e : ρ[i]? = some .bg) : ∃ b, B = some b ∧ σ[i]? = some (some (.ref b)) := by
  obtain ⟨o, h1, h2⟩ := pget I.sl e
  cases h2 with
  | bg r => exact ⟨_, r, h1⟩
theorem En.owned {i : Nat} {ds : List D} (I : En K B G0 H0 G H σ ρ) (e : ρ[i]? = some (Sl.own ds)) : ∃ p vs, σ[i]? = some (some (.ref p)) ∧ H p = some (.lst vs) ∧ Reps K G vs ds ∧ G p = none ∧ H0 p = none ∧ B ≠ some p := by
  obtain ⟨o, h1, h2⟩ := pget I.sl e
  cases h2 with
  | own a b c d e => exact ⟨_, _, h1, a, b, c, d, e⟩
theorem En.set {i : Nat} {v : V} {d : D} (I : En K B G0 H0 G H σ ρ) (r : Rep K G v d) : En K B G0 H0 G H (σ.set i (some v)) (ρ.set i (.dd d)) := by
  refine ⟨I.st, pset (.dd r) i I.sl, fun j k p x y e1 e2 e3 e4 => ?_⟩
  have nj : j ≠ i := fun z => by
    subst z
    by_cases l : j < ρ.length
    · rw [List.getElem?_set_self l] at e1; cases e1
    · rw [List.getElem?_eq_none (by simpa using l)] at e1; cases e1
  have nk : k ≠ i := fun z => by
    subst z
    by_cases l : k < ρ.length
    · rw [List.getElem?_set_self l] at e2; cases e2
    · rw [List.getElem?_eq_none (by simpa using l)] at e2; cases e2
  rw [List.getElem?_set_ne nj.symm] at e1 e3
  rw [List.getElem?_set_ne nk.symm] at e2 e4
  exact I.ap j k p x y e1 e2 e3 e4
theorem En.unset {i : Nat} {o : Option V} (I : En K B G0 H0 G H σ ρ) : En K B G0 H0 G H (σ.set i o) (ρ.set i .un) := by
  refine ⟨I.st, pset .un i I.sl, fun j k p x y e1 e2 e3 e4 => ?_⟩
  have nj : j ≠ i := fun z => by
    subst z
    by_cases l : j < ρ.length
    · rw [List.getElem?_set_self l] at e1; cases e1
    · rw [List.getElem?_eq_none (by simpa using l)] at e1; cases e1
  have nk : k ≠ i := fun z => by
    subst z
    by_cases l : k < ρ.length
    · rw [List.getElem?_set_self l] at e2; cases e2
    · rw [List.getElem?_eq_none (by simpa using l)] at e2; cases e2
  rw [List.getElem?_set_ne nj.symm] at e1 e3
  rw [List.getElem?_set_ne nk.symm] at e2 e4
  exact I.ap j k p x y e1 e2 e3 e4
/-- a new owned list in a slot -/
theorem En.lay {i : Nat} {p : Addr} {vs : List V} {ds : List D} (I : En K B G0 H0 G H σ ρ) (r : Reps K G vs ds) (hp : H p = none) : En K B G0 H0 G (upd H p (.lst vs)) (σ.set i (some (.ref p))) (ρ.set i (.own ds)) := by
  have t : Stt B G H G (upd H p (.lst vs)) := I.st.laid hp
  have I' := I.step t
  have nb : B ≠ some p := fun e => by
    obtain ⟨_, _, _, _, _, _, h, _⟩ := I.st.bag p e
    rw [hp] at h; cases h
  have h0 : H0 p = none := by
    cases z : H0 p with
    | none => rfl
    | some u => rw [I.st.hh p u (fun z => nb z.symm) z] at hp; cases hp
  refine ⟨I'.st, pset (.own upd_same r (I.st.gfree hp) h0 nb) i I'.sl, fun j k q x y e1 e2 e3 e4 => ?_⟩
  have old : ∀ (j : Nat) x q, j ≠ i → (ρ.set i (Sl.own ds))[j]? = some (Sl.own x) → (σ.set i (some (.ref p)))[j]? = some (some (.ref q)) → q ≠ p := fun j x q nj e1 e3 z => by
    rw [List.getElem?_set_ne nj.symm] at e1 e3
    obtain ⟨q', vs', h1, h2, _⟩ := I.owned e1
    rw [h1] at e3
    cases e3
    rw [z, hp] at h2; cases h2
  have at_i : ∀ q, (σ.set i (some (.ref p)))[i]? = some (some (.ref q)) → q = p := fun q e => by
    by_cases l : i < σ.length
    · rw [List.getElem?_set_self l] at e; cases e; rfl
    · rw [List.getElem?_eq_none (by simpa using l)] at e; cases e
  by_cases hj : j = i
  · by_cases hk : k = i
    · rw [hj, hk]
    · subst hj
      exact absurd (at_i q e3) (old k y q hk e2 e4)
  · by_cases hk : k = i
    · subst hk
      exact absurd (at_i q e4) (old j x q hj e1 e3)
    · rw [List.getElem?_set_ne (Ne.symm hj)] at e1 e3
      rw [List.getElem?_set_ne (Ne.symm hk)] at e2 e4
      exact I.ap j k q x y e1 e2 e3 e4
/-- an owned list is written -/
theorem En.put {i : Nat} {p : Addr} {ds es : List D} {ws : List V} (I : En K B G0 H0 G H σ ρ) (e : ρ[i]? = some (Sl.own ds)) (es_ : σ[i]? = some (some (.ref p))) (r : Reps K G ws es) :
    En K B G0 H0 G (upd H p (.lst ws)) σ (ρ.set i (.own es)) := by
  obtain ⟨p', vs, h1, h2, h3, h4, h5, h6⟩ := I.owned e
  rw [h1] at es_
  cases es_
  have t : Stt B G0 H0 G (upd H p (.lst ws)) := by
    refine ⟨I.st.gg, fun a u h => ?_, fun a u n h => ?_, I.st.fr, fun b z => ?_, fun b z => by rw [← I.st.bc b z]; unfold bagC; rw [upd_ne (fun z' => h6 (by rw [z, z']))]⟩
    · rw [upd_ne (fun z => by subst z; rw [h4] at h; cases h)]; exact I.st.gh a u h
    · rw [upd_ne (fun z => by subst z; rw [h5] at h; cases h)]; exact I.st.hh a u n h
    · obtain ⟨g0, n, sd, j, c, cells, k1, k2, q⟩ := I.st.bag b z
      exact ⟨g0, n, sd, j, c, cells, by rw [upd_ne (fun z' => h6 (by rw [z, z']))]; exact k1, k2, q⟩
  have len := plen I.sl
  have il : i < ρ.length := (List.getElem?_eq_some_iff.mp e).1
  have σi : σ.set i (some (.ref p)) = σ := by
    apply List.ext_getElem?
    intro j
    by_cases hj : j = i
    · subst hj
      rw [List.getElem?_set_self (by omega), h1]
    · rw [List.getElem?_set_ne (Ne.symm hj)]
  refine ⟨t, ?_, fun j k q x y e1 e2 e3 e4 => ?_⟩
  · have P : Paired (fun o s => SlOk K B H0 G (upd H p (.lst ws)) o s) (σ.set i (some (.ref p))) (ρ.set i (.own es)) := by
      -- all others keep
      have base : ∀ {l : List (Option V)} {q : List Sl} {m : Nat}, Paired (SlOk K B H0 G H) l q → (∀ (j : Nat) o x, j ≠ m → l[j]? = some o → q[j]? = some (Sl.own x) → o ≠ some (.ref p)) → Paired (SlOk K B H0 G (upd H p (.lst ws))) (l.set m (some (.ref p))) (q.set m (.own es)) := by
        intro l q m h
        induction h generalizing m with
        | nil => intro _; exact .nil
        | cons r t' ih =>
          intro hn
          cases m with
          | zero =>
            refine .cons (.own upd_same (by assumption) h4 h5 h6) ?_
            refine pmap t' fun a b j e1 e2 q => ?_
            cases q with
            | un => exact .un
            | dd r => exact .dd r
            | bg e => exact .bg e
            | fz a' r' h0' nb' => exact .fz a' r' h0' nb'
            | ex h => exact .ex h
            | pin r => exact .pin r
            | nw r n => exact .nw r n
            | odk a' k' r' g' h0' nb' =>
              refine .odk ?_ k' r' g' h0' nb'
              rw [upd_ne (fun z => by rw [z, h2] at a'; cases a')]
              exact a'
            | own a' r' g' h0' nb' =>
              refine .own ?_ r' g' h0' nb'
              rw [upd_ne (fun z => hn (j + 1) _ _ (by omega) (by simpa using e1) (by simpa using e2) (by rw [z]))]
              exact a'
          | succ m =>
            refine .cons ?_ (ih fun j o x nj e1 e2 => hn (j + 1) o x (by omega) (by simpa using e1) (by simpa using e2))
            cases r with
            | un => exact .un
            | dd r => exact .dd r
            | bg e => exact .bg e
            | fz a' r' h0' nb' => exact .fz a' r' h0' nb'
            | ex h => exact .ex h
            | pin r => exact .pin r
            | nw r n => exact .nw r n
            | odk a' k' r' g' h0' nb' =>
              refine .odk ?_ k' r' g' h0' nb'
              rw [upd_ne (fun z => by rw [z, h2] at a'; cases a')]
              exact a'
            | own a' r' g' h0' nb' =>
              refine .own ?_ r' g' h0' nb'
              rw [upd_ne (fun z => hn 0 _ _ (by omega) rfl rfl (by rw [z]))]
              exact a'
      exact base I.sl fun j o x nj e1 e2 z => nj (I.ap j i p x ds e2 e (by rw [e1, z]) h1)
    rw [σi] at P
    exact P
  · have back : ∀ (j : Nat) x, (ρ.set i (Sl.own es))[j]? = some (Sl.own x) → ∃ x', ρ[j]? = some (Sl.own x') := fun j x e1 => by
      by_cases hj : j = i
      · subst hj; exact ⟨_, e⟩
      · rw [List.getElem?_set_ne (Ne.symm hj)] at e1; exact ⟨_, e1⟩
    obtain ⟨x', f1⟩ := back j x e1
    obtain ⟨y', f2⟩ := back k y e2
    exact I.ap j k q x' y' f1 f2 e3 e4
/-- an owned list is given up: it stays from now on -/
theorem En.freeze {i : Nat} {ds : List D} (I : En K B G0 H0 G H σ ρ) (e : ρ[i]? = some (Sl.own ds)) : ∃ G', Same G G' ∧ En K B G0 H0 G' H σ (ρ.set i (.dd (.lst ds))) := by
  obtain ⟨p, vs, h1, h2, h3, h4, h5, h6⟩ := I.owned e
  have sm : Same G (upd G p (.lst vs)) := fun a u h => by rw [upd_ne (ne_of_none h h4)]; exact h
  have t : Stt B G0 H0 (upd G p (.lst vs)) H := by
    refine ⟨I.st.gg.trans sm, fun a u h => ?_, I.st.hh, fun a u h => ?_, fun b z => ?_, I.st.bc⟩
    · by_cases q : a = p
      · subst q; rw [upd_same] at h; cases h; exact h2
      · rw [upd_ne q] at h; exact I.st.gh a u h
    · by_cases q : a = p
      · subst q; exact .inr h5
      · rw [upd_ne q] at h; exact I.st.fr a u h
    · obtain ⟨g0, n, sd, j, c, cells, k1, k2, q⟩ := I.st.bag b z
      exact ⟨by rw [upd_ne (fun z' => h6 (by rw [z, z']))]; exact g0, n, sd, j, c, cells, k1, sm _ _ k2, q⟩
  have il : i < ρ.length := (List.getElem?_eq_some_iff.mp e).1
  have len := plen I.sl
  have rp : Rep K (upd G p (.lst vs)) (.ref p) (.lst ds) := .lst upd_same (h3.mono sm)
  have σi : σ.set i (some (.ref p)) = σ := by
    apply List.ext_getElem?
    intro j
    by_cases hj : j = i
    · subst hj
      rw [List.getElem?_set_self (by omega), h1]
    · rw [List.getElem?_set_ne (Ne.symm hj)]
  refine ⟨upd G p (.lst vs), sm, t, ?_, fun j k q x y e1 e2 e3 e4 => ?_⟩
  · have base : ∀ {l : List (Option V)} {q : List Sl} {m : Nat}, Paired (SlOk K B H0 G H) l q → (∀ (j : Nat) o x, j ≠ m → l[j]? = some o → q[j]? = some (Sl.own x) → o ≠ some (.ref p)) → Paired (SlOk K B H0 (upd G p (.lst vs)) H) (l.set m (some (.ref p))) (q.set m (.dd (.lst ds))) := by
      have one : ∀ {o : Option V} {s : Sl}, SlOk K B H0 G H o s → (∀ x, s = Sl.own x → o ≠ some (.ref p)) → SlOk K B H0 (upd G p (.lst vs)) H o s := fun {o s} h hn => by
        cases h with
        | un => exact .un
        | dd r => exact .dd (r.mono sm)
        | bg e => exact .bg e
        | fz a' r' h0' nb' => exact .fz (sm _ _ a') (r'.mono sm) h0' nb'
        | ex h => exact .ex (exMono sm h)
        | pin r => exact .pin (r.mono sm)
        | nw r n => exact .nw (r.mono sm) (n.mono (fun _ h => h) sm)
        | odk a' k' r' g' h0' nb' => exact .odk a' k' (r'.mono sm) (by rw [upd_ne (fun z => by rw [z, h2] at a'; cases a')]; exact g') h0' nb'
        | own a' r' g' h0' nb' => exact .own a' (r'.mono sm) (by rw [upd_ne (fun z => hn _ rfl (by rw [z]))]; exact g') h0' nb'
      intro l q m h
      induction h generalizing m with
      | nil => intro _; exact .nil
      | cons r t' ih =>
        intro hn
        cases m with
        | zero => exact .cons (.dd rp) (pmap t' fun a b j e1 e2 q => one q fun x z => hn (j + 1) a x (by omega) (by simpa using e1) (by rw [← z]; simpa using e2))
        | succ m => exact .cons (one r fun x z => hn 0 _ x (by omega) rfl (by rw [← z]; rfl)) (ih fun j o x nj e1 e2 => hn (j + 1) o x (by omega) (by simpa using e1) (by simpa using e2))
    have P := base (m := i) I.sl fun j o x nj e1 e2 z => nj (I.ap j i p x ds e2 e (by rw [e1, z]) h1)
    rw [σi] at P
    exact P
  · have ne : ∀ (j : Nat) x, (ρ.set i (.dd (.lst ds)))[j]? = some (Sl.own x) → ρ[j]? = some (Sl.own x) := fun j x e1 => by
      by_cases hj : j = i
      · subst hj; rw [List.getElem?_set_self il] at e1; cases e1
      · rw [List.getElem?_set_ne (Ne.symm hj)] at e1; exact e1
    exact I.ap j k q x y (ne j x e1) (ne k y e2) e3 e4
end
end DL

namespace DL
open PySem PySem.Spec L2

/-! ### readings over data -/
abbrev XE := Er → Prop
abbrev DE := List Sl → XE → (D → Prop) → Prop
abbrev DT := List Sl → XE → (Bool → Prop) → Prop
abbrev DA := List Sl → XE → (List D → Prop) → Prop
abbrev DO := List Sl → XE → (Option Int → Prop) → Prop
structure DEnds where
  nx : List Sl → Prop
  rt : D → Prop
  xe : XE := fun _ => False
  bk : List Sl → Prop := fun _ => False
  ct : List Sl → Prop := fun _ => False
  rf : D → Prop := fun _ => False
abbrev DS := DEnds → List Sl → Prop
/-- a def's promise over data -/
abbrev DSp := List D → XE → (D → Prop) → Prop

def LinkX (K : PySem.W.Frag) (B : Option Addr) (G0 H0 : Hp) (E : XK) (xe : XE) : Prop :=
  ∀ (er : Er) (G' H' : Hp) (d : Option Addr), Stt B G0 H0 G' H' → (er.fs = [] ∨ ∃ dx fs, d = some dx ∧ H' dx = some (.xd fs) ∧ fs.map (·.1) = er.fs.map (·.1) ∧ Reps K G' (fs.map (·.2)) (er.fs.map (·.2)) ∧ H0 dx = none) → xe er → E (.ref er.cls) d H'

def SimE (K : PySem.W.Frag) (E : XK) (te : TE) (de : DE) : Prop :=
  ∀ (B : Option Addr) (G0 H0 G H : Hp) (σ : L2.St) (ρ : List Sl), En K B G0 H0 G H σ ρ → ∀ xe : XE, LinkX K B G0 H0 E xe → ∀ (Q : VK) (R : D → Prop),
    (∀ v G' H' d, Stt B G H G' H' → Rep K G' v d → R d → Q v H') → de ρ xe R → te σ H Q
def SimT (K : PySem.W.Frag) (E : XK) (tt : TT) (dt : DT) : Prop :=
  ∀ (B : Option Addr) (G0 H0 G H : Hp) (σ : L2.St) (ρ : List Sl), En K B G0 H0 G H σ ρ → ∀ xe : XE, LinkX K B G0 H0 E xe → ∀ (Q : Bool → Hp → Prop) (R : Bool → Prop),
    (∀ k G' H', Stt B G H G' H' → R k → Q k H') → dt ρ xe R → tt σ H Q
def SimA (K : PySem.W.Frag) (E : XK) (ta : TA) (da : DA) : Prop :=
  ∀ (B : Option Addr) (G0 H0 G H : Hp) (σ : L2.St) (ρ : List Sl), En K B G0 H0 G H σ ρ → ∀ xe : XE, LinkX K B G0 H0 E xe → ∀ (Q : List V → Hp → Prop) (R : List D → Prop),
    (∀ vs G' H' ds, Stt B G H G' H' → Reps K G' vs ds → R ds → Q vs H') → da ρ xe R → ta σ H Q
def SimO (K : PySem.W.Frag) (E : XK) (to : TO) (dO : DO) : Prop :=
  ∀ (B : Option Addr) (G0 H0 G H : Hp) (σ : L2.St) (ρ : List Sl), En K B G0 H0 G H σ ρ → ∀ xe : XE, LinkX K B G0 H0 E xe → ∀ (Q : Option Int → Hp → Prop) (R : Option Int → Prop),
    (∀ k G' H', Stt B G H G' H' → R k → Q k H') → dO ρ xe R → to σ H Q
/-- the ends of a statement -/
structure LinkS (K : PySem.W.Frag) (B : Option Addr) (G0 H0 Gs : Hp) (E : XK) (D : Ends) (C : DEnds) : Prop where
  nx : ∀ G' H' σ ρ, Same Gs G' → En K B G0 H0 G' H' σ ρ → C.nx ρ → D.nx σ H'
  bk : ∀ G' H' σ ρ, Same Gs G' → En K B G0 H0 G' H' σ ρ → C.bk ρ → D.bk σ H'
  ct : ∀ G' H' σ ρ, Same Gs G' → En K B G0 H0 G' H' σ ρ → C.ct ρ → D.ct σ H'
  rt : ∀ v d G' H', Stt B G0 H0 G' H' → Rep K G' v d → C.rt d → D.rt v H'
  xe : LinkX K B G0 H0 E C.xe
  rf : ∀ v d G' H', Stt B G0 H0 G' H' → Rep K G' v d → DN K H0 G' v d → C.rf d → D.rt v H'
def SimS (K : PySem.W.Frag) (E : XK) (ts : TS) (ds : DS) : Prop :=
  ∀ (B : Option Addr) (G0 H0 G H : Hp) (σ : L2.St) (ρ : List Sl), En K B G0 H0 G H σ ρ → ∀ Gs : Hp, Same Gs G → ∀ (D : Ends) (C : DEnds), LinkS K B G0 H0 Gs E D C → ds C ρ → ts D σ H

def cE (K : PySem.W.Frag) (E : XK) (de : DE) : TE := fun σ H Q => ∃ B G0 H0 G ρ xe R, En K B G0 H0 G H σ ρ ∧ LinkX K B G0 H0 E xe ∧ (∀ v G' H' d, Stt B G H G' H' → Rep K G' v d → R d → Q v H') ∧ de ρ xe R
def cT (K : PySem.W.Frag) (E : XK) (dt : DT) : TT := fun σ H Q => ∃ B G0 H0 G ρ xe R, En K B G0 H0 G H σ ρ ∧ LinkX K B G0 H0 E xe ∧ (∀ k G' H', Stt B G H G' H' → R k → Q k H') ∧ dt ρ xe R
def cA (K : PySem.W.Frag) (E : XK) (da : DA) : TA := fun σ H Q => ∃ B G0 H0 G ρ xe R, En K B G0 H0 G H σ ρ ∧ LinkX K B G0 H0 E xe ∧ (∀ vs G' H' ds, Stt B G H G' H' → Reps K G' vs ds → R ds → Q vs H') ∧ da ρ xe R
def cO (K : PySem.W.Frag) (E : XK) (dO : DO) : TO := fun σ H Q => ∃ B G0 H0 G ρ xe R, En K B G0 H0 G H σ ρ ∧ LinkX K B G0 H0 E xe ∧ (∀ k G' H', Stt B G H G' H' → R k → Q k H') ∧ dO ρ xe R
def cS (K : PySem.W.Frag) (E : XK) (ds : DS) : TS := fun D σ H => ∃ B G0 H0 G Gs ρ C, En K B G0 H0 G H σ ρ ∧ Same Gs G ∧ LinkS K B G0 H0 Gs E D C ∧ ds C ρ
section
variable {K : PySem.W.Frag} {E : XK}
theorem sE {de : DE} : SimE K E (cE K E de) de := fun B G0 H0 G H σ ρ I xe lx Q R k h => ⟨B, G0, H0, G, ρ, xe, R, I, lx, k, h⟩
theorem sT {dt : DT} : SimT K E (cT K E dt) dt := fun B G0 H0 G H σ ρ I xe lx Q R k h => ⟨B, G0, H0, G, ρ, xe, R, I, lx, k, h⟩
theorem sA {da : DA} : SimA K E (cA K E da) da := fun B G0 H0 G H σ ρ I xe lx Q R k h => ⟨B, G0, H0, G, ρ, xe, R, I, lx, k, h⟩
theorem sO {dO : DO} : SimO K E (cO K E dO) dO := fun B G0 H0 G H σ ρ I xe lx Q R k h => ⟨B, G0, H0, G, ρ, xe, R, I, lx, k, h⟩
theorem sS {ds : DS} : SimS K E (cS K E ds) ds := fun B G0 H0 G H σ ρ I Gs sg D C l h => ⟨B, G0, H0, G, Gs, ρ, C, I, sg, l, h⟩
end
structure XEx (X : Cx) (E : XK) (e : Expr) (de : DE) : Prop where
  pe : PE X e (cE X.K E de)
structure XT (X : Cx) (E : XK) (e : Expr) (dt : DT) : Prop where
  pt : PT X e (cT X.K E dt)
structure XW (X : Cx) (E : XK) (e : Expr) (dt : DT) : Prop where
  pw : PW X e (cT X.K E dt)
structure XA (X : Cx) (E : XK) (es : List Expr) (da : DA) : Prop where
  pa : PA X es (cA X.K E da)
structure XO (X : Cx) (E : XK) (e : Option Expr) (dO : DO) : Prop where
  po : PO X e (cO X.K E dO)
structure XS (X : Cx) (E : XK) (st : Stmt) (ds : DS) : Prop where
  ps : PS X st (cS X.K E ds)
structure XSs (X : Cx) (E : XK) (st : List Stmt) (ds : DS) : Prop where
  ps : PSs X st (cS X.K E ds)
section
variable {X : Cx} {E : XK} {e : Expr}
theorem XEx.of {te : TE} {de : DE} (h : PE X e te) (k : SimE X.K E te de) : XEx X E e de := ⟨⟨fun pins s σ H Q I ⟨B, G0, H0, G, ρ, xe, R, En, lx, kk, q⟩ => h.run pins s σ H Q I (k B G0 H0 G H σ ρ En xe lx Q R kk q)⟩⟩
theorem XT.of {te : TT} {de : DT} (h : PT X e te) (k : SimT X.K E te de) : XT X E e de := ⟨⟨fun pins s σ H Q I ⟨B, G0, H0, G, ρ, xe, R, En, lx, kk, q⟩ => h.run pins s σ H Q I (k B G0 H0 G H σ ρ En xe lx Q R kk q)⟩⟩
theorem XW.of {te : TT} {de : DT} (h : PW X e te) (k : SimT X.K E te de) : XW X E e de := ⟨⟨fun w pins s σ H Q I ⟨B, G0, H0, G, ρ, xe, R, En, lx, kk, q⟩ => h.run w pins s σ H Q I (k B G0 H0 G H σ ρ En xe lx Q R kk q)⟩⟩
theorem XA.of {es : List Expr} {te : TA} {de : DA} (h : PA X es te) (k : SimA X.K E te de) : XA X E es de := ⟨⟨fun p pins s σ H Q I ⟨B, G0, H0, G, ρ, xe, R, En, lx, kk, q⟩ => h.run p pins s σ H Q I (k B G0 H0 G H σ ρ En xe lx Q R kk q)⟩⟩
theorem XO.of {e : Option Expr} {te : TO} {de : DO} (h : PO X e te) (k : SimO X.K E te de) : XO X E e de := ⟨⟨fun pins s σ H Q I ⟨B, G0, H0, G, ρ, xe, R, En, lx, kk, q⟩ => h.run pins s σ H Q I (k B G0 H0 G H σ ρ En xe lx Q R kk q)⟩⟩
theorem XS.of {st : Stmt} {te : TS} {de : DS} (h : PS X st te) (k : SimS X.K E te de) : XS X E st de := ⟨⟨fun pins s σ H D I ⟨B, G0, H0, G, Gs, ρ, C, En, sg, l, q⟩ => h.run pins s σ H D I (k B G0 H0 G H σ ρ En Gs sg D C l q)⟩⟩
theorem XSs.of {st : List Stmt} {te : TS} {de : DS} (h : PSs X st te) (k : SimS X.K E te de) : XSs X E st de := ⟨⟨fun pins s σ H D I ⟨B, G0, H0, G, Gs, ρ, C, En, sg, l, q⟩ => h.run pins s σ H D I (k B G0 H0 G H σ ρ En Gs sg D C l q)⟩⟩
end

section
variable {X : Cx} {E : XK} {a b c e : Expr} {pos : Pos}
theorem LinkX.shift {K : PySem.W.Frag} {B : Option Addr} {G0 H0 G H : Hp} {xe : XE} (l : LinkX K B G0 H0 E xe) (s : Stt B G0 H0 G H) : LinkX K B G H E xe := fun er G' H' d t f x =>
  l er G' H' d (s.trans t) (by
    rcases f with f | ⟨dx, fs, e1, e2, e3, e4, e5⟩
    · exact .inl f
    · refine .inr ⟨dx, fs, e1, e2, e3, e4, ?_⟩
      cases z : H0 dx with
      | none => rfl
      | some u =>
        by_cases n : some dx = B
        · obtain ⟨_, _, _, _, _, _, h, _⟩ := s.bag dx n.symm
          rw [e5] at h; cases h
        · rw [s.hh dx u n z] at e5; cases e5) x

/-! ### names and constants -/
def dVar (i : Nat) : DE := fun ρ _ R => match ρ[i]? with
  | some (.dd d) => R d
  | some (.fz _ ds) => R (.lst ds)
  | some (.pin _ d) => R d
  | some (.nw d) => R d
  | _ => False
def dC (d : D) : DE := fun _ _ R => R d
theorem sim_var {K : PySem.W.Frag} {i : Nat} : SimE K E (tVar i) (dVar i) := fun B G0 H0 G H σ ρ I xe lx Q R k h => by
  unfold dVar at h
  split at h
  · rename_i d e
    obtain ⟨v, h1, h2⟩ := I.var e
    exact ⟨v, h1, k v G H d I.st.here h2 h⟩
  · rename_i p ds e
    obtain ⟨o, h1, h2⟩ := pget I.sl e
    cases h2 with
    | fz a r h0 nb => exact ⟨_, h1, k _ G H _ I.st.here (.lst a r) h⟩
  · rename_i v d e
    obtain ⟨o, h1, h2⟩ := pget I.sl e
    cases h2 with
    | pin r => exact ⟨_, h1, k _ G H _ I.st.here r h⟩
  · rename_i d e
    obtain ⟨o, h1, h2⟩ := pget I.sl e
    cases h2 with
    | nw r n => exact ⟨_, h1, k _ G H _ I.st.here r h⟩
  · exact h.elim
theorem xv (i : Nat) {x : Str} {pos : Pos} (hN : X.N[i]? = some x := by rfl) (hv : Vis X.env.scope x := by first | exact Or.inl rfl | exact Or.inr (Or.inl rfl) | exact Or.inr (Or.inr rfl)) (hd : (x == ("__debug__" : Str)) = false := by decide)
    (hcd : (x == ("__classdict__" : Str)) = false := by decide) : XEx X E (.Name x pos) (dVar i) := .of (pe_var hN hv hd hcd) sim_var
theorem sim_c {K : PySem.W.Frag} {v : V} {d : D} (r : ∀ G, Rep K G v d) : SimE K E (tC v) (dC d) := fun B G0 H0 G H σ ρ I xe lx Q R k h => k v G H d I.st.here (r G) h
theorem xe_int {i j pos} : XEx X E (.Constant (.int i) j pos) (dC (.int i)) := .of pe_int (sim_c fun _ => .int _)
theorem xe_bl {b j pos} : XEx X E (.Constant (.bool b) j pos) (dC (.bl b)) := .of pe_bl (sim_c fun _ => .bl _)
theorem xe_non {j pos} : XEx X E (.Constant .none j pos) (dC .non) := .of pe_non (sim_c fun _ => .non)
theorem xe_str {x : Str} {j pos} : XEx X E (.Constant (.str x) j pos) (dC (.str x.cps.toList)) := .of pe_str (sim_c fun _ => by
  have h : x = ⟨x.cps.toList.toArray⟩ := by cases x; simp
  have r : ∀ (G : Hp) (y : Str) (l : List Nat), y = ⟨l.toArray⟩ → Rep X.K G (.str y) (.str l) := fun G y l e => by rw [e]; exact .str _
  exact r _ _ _ h)
/-- a module's int constant -/
theorem xe_globI {x : Str} {i : Int} {t : Tok} {pos : Pos} (hg : Gl X x) (hm : X.mg x = some (.int i t)) (hd : (x == ("__debug__" : Str)) = false := by decide) : XEx X E (.Name x pos) (dC (.int i)) :=
  .of (pe_glob (v := .int i) hg hm ⟨_, rfl⟩ hd) (sim_c fun _ => .int _)

/-! ### operators by values -/
/-- what an operator does over data -/
abbrev O2 := D → D → (D → Prop) → Prop
def dOp (o : O2) (da db : DE) : DE := fun ρ xe R => da ρ xe fun x => db ρ xe fun y => o x y R
/-- r, the operator over the abstract heap, does what o says -/
def SimR (K : PySem.W.Frag) (r : R2) (o : O2) : Prop := ∀ (B : Option Addr) (G H : Hp) (x y : V) (d e : D), Stt B G H G H → Rep K G x d → Rep K G y e → ∀ (Q : VK) (R : D → Prop),
  (∀ v G' H' f, Stt B G H G' H' → Rep K G' v f → R f → Q v H') → o d e R → r x y H Q
theorem sim_op {K : PySem.W.Frag} {r : R2} {o : O2} {ta tb : TE} {da db : DE} (hr : SimR K r o) (ha : SimE K E ta da) (hb : SimE K E tb db) : SimE K E (tOp r ta tb) (dOp o da db) :=
  fun B G0 H0 G H σ ρ I xe lx Q R k h => by
    refine ha B G0 H0 G H σ ρ I xe lx _ _ (fun v G1 H1 d t1 r1 h1 => ?_) h
    refine hb B G0 H0 G1 H1 σ ρ (I.step t1) xe lx _ _ (fun u G2 H2 f t2 r2 h2 => ?_) h1
    exact hr B G2 H2 v u d f (Stt.refl t2.gh t2.bag) (r1.mono t2.gg) r2 _ _ (fun w G' H' f' t3 r3 h3 => k w G' H' f' ((t1.trans t2).trans t3) r3 h3) h2
theorem xe_op {op : Operator} {r : R2} {o : O2} {da db : DE} (ho : OpR X (binaryOp op) r) (hr : SimR X.K r o) (ha : XEx X E a da) (hb : XEx X E b db) : XEx X E (.BinOp a op b pos) (dOp o da db) :=
  .of (pe_op ho ha.pe hb.pe) (sim_op hr sE sE)
theorem xe_cmp {op : CmpOp} {r : R2} {o : O2} {da db : DE} (ho : OpR X (compareOp op) r) (hr : SimR X.K r o) (ha : XEx X E a da) (hb : XEx X E b db) (hm : behindInMarks op b = false) : XEx X E (.Compare a [op] [b] pos) (dOp o da db) :=
  .of (pe_cmpR ho ha.pe hb.pe hm) (sim_op hr sE sE)
def dTest (de : DE) : DT := fun ρ xe R => de ρ xe fun d => match d with
  | .bl k => R k
  | _ => False
theorem sim_test {K : PySem.W.Frag} {te : TE} {de : DE} (h : SimE K E te de) : SimT K E (tTest te) (dTest de) := fun B G0 H0 G H σ ρ I xe lx Q R k q =>
  h B G0 H0 G H σ ρ I xe lx _ _ (fun v G' H' d t r z => by
    split at z
    · cases r; exact ⟨_, rfl, k _ G' H' t z⟩
    · exact z.elim) q
theorem sim_B {K : PySem.W.Frag} {te : TE} {de : DE} (h : SimE K E te de) : SimT K E (tB te) (dTest de) := fun B G0 H0 G H σ ρ I xe lx Q R k q =>
  h B G0 H0 G H σ ρ I xe lx _ _ (fun v G' H' d t r z => by
    split at z
    · cases r; exact ⟨_, rfl, k _ G' H' t z⟩
    · exact z.elim) q
theorem xt_cmp {op : CmpOp} {r : R2} {o : O2} {da db : DE} (ho : OpR X (compareOp op) r) (hr : SimR X.K r o) (ha : XEx X E a da) (hb : XEx X E b db) (hm : behindInMarks op b = false) : XT X E (.Compare a [op] [b] pos) (dTest (dOp o da db)) :=
  .of (pt_cmpR ho ha.pe hb.pe hm) (sim_test (sim_op hr sE sE))
theorem xt_val {de : DE} (h : XEx X E e de) (he : ∀ whole, isTrue e X.env whole = (do let v ← whole; standAt e.pos; holding [v] (truthy v)) := by intro _; rfl) : XT X E e (dTest de) := .of (pt_val h.pe he) (sim_B sE)

/-! ints -/
def oI (g : Int → Int → D) : O2 := fun x y R => match x, y with
  | .int i, .int j => R (g i j)
  | _, _ => False
def oIC (C : Int → Int → Prop) (g : Int → Int → D) : O2 := fun x y R => match x, y with
  | .int i, .int j => C i j ∧ R (g i j)
  | _, _ => False
theorem simr_I0 {K : PySem.W.Frag} {g : Int → Int → V} {g' : Int → Int → D} (h : ∀ G i j, Rep K G (g i j) (g' i j)) : SimR K (rI0 g) (oI g') := fun B G H x y d e s rx ry Q R k q => by
  unfold oI at q
  split at q
  · cases rx; cases ry
    exact ⟨_, _, rfl, rfl, k _ G H _ s (h _ _ _) q⟩
  · exact q.elim
theorem simr_I {K : PySem.W.Frag} {C : Int → Int → Prop} {g : Int → Int → V} {g' : Int → Int → D} (h : ∀ G i j, Rep K G (g i j) (g' i j)) : SimR K (rI C g) (oIC C g') := fun B G H x y d e s rx ry Q R k q => by
  unfold oIC at q
  split at q
  · cases rx; cases ry
    exact ⟨_, _, rfl, rfl, q.1, k _ G H _ s (h _ _ _) q.2⟩
  · exact q.elim
abbrev oAdd : O2 := oI fun i j => .int (i + j)
abbrev oSub : O2 := oI fun i j => .int (i - j)
abbrev oMul : O2 := oIC CMul fun i j => .int (i * j)
abbrev oMulW : O2 := oIC CMulW fun i j => .int (i * j)
abbrev oDiv : O2 := oIC CDivW fun i j => .int (i / j)
abbrev oMod : O2 := oIC (fun _ j => 0 < j) fun i j => .int (i % j)
abbrev oPow : O2 := oIC CPow fun i j => .int (i ^ j.toNat)
abbrev oLt : O2 := oI fun i j => .bl (decide (i < j))
abbrev oLe : O2 := oI fun i j => .bl (decide (i ≤ j))
abbrev oGt : O2 := oI fun i j => .bl (decide (j < i))
abbrev oGe : O2 := oI fun i j => .bl (decide (j ≤ i))
abbrev oEqI : O2 := oI fun i j => .bl (decide (i = j))
abbrev oNeI : O2 := oI fun i j => .bl (!decide (i = j))
variable {da db dc de : DE}
theorem xAdd (ha : XEx X E a da) (hb : XEx X E b db) : XEx X E (.BinOp a .Add b pos) (dOp oAdd da db) := xe_op op_add (simr_I0 fun _ _ _ => .int _) ha hb
theorem xSub (ha : XEx X E a da) (hb : XEx X E b db) : XEx X E (.BinOp a .Sub b pos) (dOp oSub da db) := xe_op op_sub (simr_I0 fun _ _ _ => .int _) ha hb
theorem xMul (ha : XEx X E a da) (hb : XEx X E b db) : XEx X E (.BinOp a .Mult b pos) (dOp oMul da db) := xe_op op_mul (simr_I fun _ _ _ => .int _) ha hb
theorem xMulW (ha : XEx X E a da) (hb : XEx X E b db) : XEx X E (.BinOp a .Mult b pos) (dOp oMulW da db) := xe_op op_mulW (simr_I fun _ _ _ => .int _) ha hb
theorem xDiv (ha : XEx X E a da) (hb : XEx X E b db) : XEx X E (.BinOp a .FloorDiv b pos) (dOp oDiv da db) := xe_op op_fdivW (simr_I fun _ _ _ => .int _) ha hb
theorem xMod (ha : XEx X E a da) (hb : XEx X E b db) : XEx X E (.BinOp a .Mod b pos) (dOp oMod da db) := xe_op op_mod (simr_I fun _ _ _ => .int _) ha hb
theorem xPow (ha : XEx X E a da) (hb : XEx X E b db) : XEx X E (.BinOp a .Pow b pos) (dOp oPow da db) := xe_op op_pow (simr_I fun _ _ _ => .int _) ha hb
theorem simr_eqI {K : PySem.W.Frag} : SimR K rEq oEqI := fun B G H x y d e s rx ry Q R k q => by
  unfold oEqI oI at q
  split at q
  · rename_i i j
    cases rx; cases ry
    refine ⟨rfl, ?_⟩
    have e1 : decide (V.int i = V.int j) = decide (i = j) := decide_eq_decide.mpr ⟨fun z => V.int.inj z, fun z => by rw [z]⟩
    rw [e1]
    exact k _ G H _ s (.bl _) q
  · exact q.elim
theorem simr_neI {K : PySem.W.Frag} : SimR K rNe oNeI := fun B G H x y d e s rx ry Q R k q => by
  unfold oNeI oI at q
  split at q
  · rename_i i j
    cases rx; cases ry
    refine ⟨rfl, ?_⟩
    have e1 : decide (V.int i = V.int j) = decide (i = j) := decide_eq_decide.mpr ⟨fun z => V.int.inj z, fun z => by rw [z]⟩
    rw [e1]
    exact k _ G H _ s (.bl _) q
  · exact q.elim
theorem xtLt (ha : XEx X E a da) (hb : XEx X E b db) : XT X E (.Compare a [.Lt] [b] pos) (dTest (dOp oLt da db)) := xt_cmp op_lt (simr_I0 fun _ _ _ => .bl _) ha hb (nomark _)
theorem xtLe (ha : XEx X E a da) (hb : XEx X E b db) : XT X E (.Compare a [.LtE] [b] pos) (dTest (dOp oLe da db)) := xt_cmp op_le (simr_I0 fun _ _ _ => .bl _) ha hb (nomark _)
theorem xtGt (ha : XEx X E a da) (hb : XEx X E b db) : XT X E (.Compare a [.Gt] [b] pos) (dTest (dOp oGt da db)) := xt_cmp op_gt (simr_I0 fun _ _ _ => .bl _) ha hb (nomark _)
theorem xtGe (ha : XEx X E a da) (hb : XEx X E b db) : XT X E (.Compare a [.GtE] [b] pos) (dTest (dOp oGe da db)) := xt_cmp op_ge (simr_I0 fun _ _ _ => .bl _) ha hb (nomark _)
theorem xtEqI (ha : XEx X E a da) (hb : XEx X E b db) : XT X E (.Compare a [.Eq] [b] pos) (dTest (dOp oEqI da db)) := xt_cmp op_eq simr_eqI ha hb (nomark _)
theorem xtNeI (ha : XEx X E a da) (hb : XEx X E b db) : XT X E (.Compare a [.NotEq] [b] pos) (dTest (dOp oNeI da db)) := xt_cmp op_ne simr_neI ha hb (nomark _)
theorem xLt (ha : XEx X E a da) (hb : XEx X E b db) : XEx X E (.Compare a [.Lt] [b] pos) (dOp oLt da db) := xe_cmp op_lt (simr_I0 fun _ _ _ => .bl _) ha hb (nomark _)
theorem xLe (ha : XEx X E a da) (hb : XEx X E b db) : XEx X E (.Compare a [.LtE] [b] pos) (dOp oLe da db) := xe_cmp op_le (simr_I0 fun _ _ _ => .bl _) ha hb (nomark _)
theorem xGt (ha : XEx X E a da) (hb : XEx X E b db) : XEx X E (.Compare a [.Gt] [b] pos) (dOp oGt da db) := xe_cmp op_gt (simr_I0 fun _ _ _ => .bl _) ha hb (nomark _)
theorem xGe (ha : XEx X E a da) (hb : XEx X E b db) : XEx X E (.Compare a [.GtE] [b] pos) (dOp oGe da db) := xe_cmp op_ge (simr_I0 fun _ _ _ => .bl _) ha hb (nomark _)
theorem xEqI (ha : XEx X E a da) (hb : XEx X E b db) : XEx X E (.Compare a [.Eq] [b] pos) (dOp oEqI da db) := xe_cmp op_eq simr_eqI ha hb (nomark _)
theorem xNeI (ha : XEx X E a da) (hb : XEx X E b db) : XEx X E (.Compare a [.NotEq] [b] pos) (dOp oNeI da db) := xe_cmp op_ne simr_neI ha hb (nomark _)

/-! texts, lists: + and * -/
theorem Str.append_toList (a b : List Nat) : ((⟨a.toArray⟩ : Str) ++ (⟨b.toArray⟩ : Str)) = (⟨(a ++ b).toArray⟩ : Str) := by
  show (⟨a.toArray ++ b.toArray⟩ : Str) = _
  simp
def oCatS : O2 := fun x y R => match x, y with
  | .str s, .str t => s.length + t.length ≤ sizeLine ∧ R (.str (s ++ t))
  | _, _ => False
theorem simr_catS {K : PySem.W.Frag} : SimR K (fun x y H Q => ∃ i j, x = .str i ∧ y = .str j ∧ i.length + j.length ≤ sizeLine ∧ Q (.str (i ++ j)) H) oCatS := fun B G H x y d e s rx ry Q R k q => by
  unfold oCatS at q
  split at q
  · cases rx; cases ry
    refine ⟨_, _, rfl, rfl, by simpa [Str.length] using q.1, k _ G H _ s ?_ q.2⟩
    rw [Str.append_toList]; exact .str _
  · exact q.elim
theorem xCatS (ha : XEx X E a da) (hb : XEx X E b db) : XEx X E (.BinOp a .Add b pos) (dOp oCatS da db) := xe_op op_add_str simr_catS ha hb
def oCatL : O2 := fun x y R => match x, y with
  | .lst s, .lst t => s.length + t.length ≤ sizeLine ∧ R (.lst (s ++ t))
  | _, _ => False
theorem Stt.lst {K : PySem.W.Frag} {B : Option Addr} {G H : Hp} {vs : List V} {ds : List D} (s : Stt B G H G H) (r : Reps K G vs ds) {Q : VK} {R : D → Prop} (k : ∀ v G' H' f, Stt B G H G' H' → Rep K G' v f → R f → Q v H') (q : R (.lst ds)) :
    ∀ p, H p = none → Q (.ref p) (upd H p (.lst vs)) := fun p hp => by
  have t := s.new (o := .lst vs) hp
  exact k _ _ _ _ t (.lst upd_same (r.mono t.gg)) q
theorem Stt.tup {K : PySem.W.Frag} {B : Option Addr} {G H : Hp} {vs : List V} {ds : List D} (s : Stt B G H G H) (r : Reps K G vs ds) {Q : VK} {R : D → Prop} (k : ∀ v G' H' f, Stt B G H G' H' → Rep K G' v f → R f → Q v H') (q : R (.tup ds)) :
    ∀ p, H p = none → Q (.ref p) (upd H p (.tup vs)) := fun p hp => by
  have t := s.new (o := .tup vs) hp
  exact k _ _ _ _ t (.tup upd_same (r.mono t.gg)) q
theorem simr_catL {K : PySem.W.Frag} : SimR K rCat oCatL := fun B G H x y d e s rx ry Q R k q => by
  unfold oCatL at q
  split at q
  · cases rx with
    | lst a1 b1 => cases ry with
      | lst a2 b2 => exact ⟨_, _, _, _, rfl, rfl, s.gh _ _ a1, s.gh _ _ a2, by rw [b1.length, b2.length]; exact q.1, s.lst (b1.append b2) k q.2⟩
  · exact q.elim
theorem xCatL (ha : XEx X E a da) (hb : XEx X E b db) : XEx X E (.BinOp a .Add b pos) (dOp oCatL da db) := xe_op op_cat simr_catL ha hb
def oRepL : O2 := fun x y R => match x, y with
  | .lst s, .int n => -(2 ^ 63) ≤ n ∧ n < 2 ^ 63 ∧ s.length * n.toNat ≤ sizeLine ∧ R (.lst (List.replicate n.toNat s).flatten)
  | _, _ => False

/-! ### subscripts -/
def oIx : O2 := fun x y R => match x, y with
  | .lst s, .int i => ∃ d, atI s i = some d ∧ R d
  | .tup s, .int i => ∃ d, atI s i = some d ∧ R d
  | .str s, .int i => s.length ≤ sizeLine ∧ ∃ c, atI s i = some c ∧ R (.str [c])
  | _, _ => False
theorem Reps.at {K : PySem.W.Frag} {G : Hp} {vs : List V} {ds : List D} {i : Int} {d : D} (r : Reps K G vs ds) (h : atI ds i = some d) : ∃ v, atI vs i = some v ∧ Rep K G v d := by
  unfold atI at h ⊢
  rw [r.length]
  cases e : ixN ds.length i with
  | none => rw [e] at h; cases h
  | some j =>
    rw [e] at h
    exact r.get h
theorem simr_ix {K : PySem.W.Frag} : SimR K (rIx K) oIx := fun B G H x y d e s rx ry Q R k q => by
  unfold oIx at q
  split at q
  · obtain ⟨f, h1, h2⟩ := q
    cases rx with
    | lst a1 b1 =>
      cases ry
      obtain ⟨v, e1, e2⟩ := b1.at h1
      exact .inl ⟨_, _, _, v, rfl, rfl, SqL.of (s.gh _ _ a1), e1, k _ G H _ s e2 h2⟩
  · obtain ⟨f, h1, h2⟩ := q
    cases rx with
    | tup a1 b1 =>
      cases ry
      obtain ⟨v, e1, e2⟩ := b1.at h1
      exact .inr (.inl ⟨_, _, _, v, rfl, rfl, SqT.of (s.gh _ _ a1), e1, k _ G H _ s e2 h2⟩)
  · obtain ⟨h0, c, h1, h2⟩ := q
    cases rx; cases ry
    exact .inr (.inr ⟨_, _, c, rfl, rfl, by simpa [Str.length] using h0, by simpa using h1, k _ G H _ s (.str [c]) h2⟩)
  · exact q.elim
theorem xIx (ha : XEx X E a da) (hb : XEx X E b db) (hs : PlainIx b := by exact fun _ _ => rfl) : XEx X E (.Subscript a b pos) (dOp oIx da db) := .of (pe_ix ix_seq ha.pe hb.pe hs) (sim_op simr_ix sE sE)

/-! ### displays, arguments -/
def dNil : DA := fun _ _ R => R []
def dCons (de : DE) (dr : DA) : DA := fun ρ xe R => de ρ xe fun d => dr ρ xe fun ds => R (d :: ds)
theorem xa_nil : XA X E [] dNil := .of pa_nil fun B G0 H0 G H σ ρ I xe lx Q R k h => k [] G H [] I.st.here .nil h
theorem sim_cons {K : PySem.W.Frag} {te : TE} {tr : TA} {de : DE} {dr : DA} (ha : SimE K E te de) (hb : SimA K E tr dr) : SimA K E (tCons te tr) (dCons de dr) :=
  fun B G0 H0 G H σ ρ I xe lx Q R k h => by
    refine ha B G0 H0 G H σ ρ I xe lx _ _ (fun v G1 H1 d t1 r1 h1 => ?_) h
    refine hb B G0 H0 G1 H1 σ ρ (I.step t1) xe lx _ _ (fun us G2 H2 ds t2 r2 h2 => ?_) h1
    exact k _ _ _ _ (t1.trans t2) (.cons (r1.mono t2.gg) r2) h2
theorem xa_cons {es : List Expr} {dr : DA} (ha : XEx X E e de) (hr : XA X E es dr) (hs : starEach (e :: es) X.env = (false, eval e X.env) :: starEach es X.env := by rfl) : XA X E (e :: es) (dCons de dr) :=
  .of (pa_cons ha.pe hr.pa hs) (sim_cons sE sA)
def dLst (da : DA) : DE := fun ρ xe R => da ρ xe fun ds => ds.length ≤ sizeLine ∧ R (.lst ds)
def dTup (da : DA) : DE := fun ρ xe R => da ρ xe fun ds => ds.length ≤ sizeLine ∧ R (.tup ds)
theorem xLst {es : List Expr} {d : DA} (h : XA X E es d) : XEx X E (.List es pos) (dLst d) := .of (pe_lst h.pa) fun B G0 H0 G H σ ρ I xe lx Q R k q =>
  sA B G0 H0 G H σ ρ I xe lx _ _ (fun vs G' H' ds t r z => ⟨by rw [r.length]; exact z.1, (Stt.refl t.gh t.bag).lst r (fun v G2 H2 f t2 r2 q2 => k v G2 H2 f (t.trans t2) r2 q2) z.2⟩) q
theorem xTup {es : List Expr} {x1} {d : DA} (h : XA X E es d) : XEx X E (.Tuple es x1 pos) (dTup d) := .of (pe_tup h.pa) fun B G0 H0 G H σ ρ I xe lx Q R k q =>
  sA B G0 H0 G H σ ρ I xe lx _ _ (fun vs G' H' ds t r z => ⟨by rw [r.length]; exact z.1, (Stt.refl t.gh t.bag).tup r (fun v G2 H2 f t2 r2 q2 => k v G2 H2 f (t.trans t2) r2 q2) z.2⟩) q

/-! ### and, or, not, if-expressions -/
variable {dA dB : DT}
/-- one of two, by a truth value -/
def ifB (k : Bool) (a b : Prop) : Prop := match k with
  | true => a
  | false => b
theorem ifB2 {c a b : Prop} [Decidable c] (h1 : c → a) (h2 : ¬ c → b) : ifB (decide c) a b := by
  by_cases h : c
  · rw [decide_eq_true h]; exact h1 h
  · rw [decide_eq_false h]; exact h2 h
theorem ifBt {k : Bool} {a b : Prop} (e : k = true) (h : a) : ifB k a b := by subst e; exact h
theorem ifBf {k : Bool} {a b : Prop} (e : k = false) (h : b) : ifB k a b := by subst e; exact h
def dAnd (t u : DT) : DT := fun ρ xe R => t ρ xe fun k => ifB k (u ρ xe R) (R false)
def dOr (t u : DT) : DT := fun ρ xe R => t ρ xe fun k => ifB k (R true) (u ρ xe R)
def dNot (t : DT) : DT := fun ρ xe R => t ρ xe fun k => R (!k)
def dIf (t : DT) (da db : DE) : DE := fun ρ xe R => t ρ xe fun k => ifB k (da ρ xe R) (db ρ xe R)
theorem sim_and {K : PySem.W.Frag} {t u : TT} {dt du : DT} (h1 : SimT K E t dt) (h2 : SimT K E u du) : SimT K E (tAnd t u) (dAnd dt du) := fun B G0 H0 G H σ ρ I xe lx Q R k q =>
  h1 B G0 H0 G H σ ρ I xe lx _ _ (fun c G1 H1 t1 z => by
    cases c with
    | true => exact h2 B G0 H0 G1 H1 σ ρ (I.step t1) xe lx _ _ (fun c2 G2 H2 t2 z2 => k c2 G2 H2 (t1.trans t2) z2) z
    | false => exact k _ G1 H1 t1 z) q
theorem sim_or {K : PySem.W.Frag} {t u : TT} {dt du : DT} (h1 : SimT K E t dt) (h2 : SimT K E u du) : SimT K E (tOr t u) (dOr dt du) := fun B G0 H0 G H σ ρ I xe lx Q R k q =>
  h1 B G0 H0 G H σ ρ I xe lx _ _ (fun c G1 H1 t1 z => by
    cases c with
    | true => exact k _ G1 H1 t1 z
    | false => exact h2 B G0 H0 G1 H1 σ ρ (I.step t1) xe lx _ _ (fun c2 G2 H2 t2 z2 => k c2 G2 H2 (t1.trans t2) z2) z) q
theorem sim_not {K : PySem.W.Frag} {t : TT} {dt : DT} (h1 : SimT K E t dt) : SimT K E (tNot t) (dNot dt) := fun B G0 H0 G H σ ρ I xe lx Q R k q =>
  h1 B G0 H0 G H σ ρ I xe lx _ _ (fun c G1 H1 t1 z => k _ G1 H1 t1 z) q
theorem sim_if {K : PySem.W.Frag} {t : TT} {dt : DT} {ta tb : TE} {da db : DE} (h : SimT K E t dt) (h1 : SimE K E ta da) (h2 : SimE K E tb db) : SimE K E (tIf t ta tb) (dIf dt da db) := fun B G0 H0 G H σ ρ I xe lx Q R k q =>
  h B G0 H0 G H σ ρ I xe lx _ _ (fun c G1 H1 t1 z => by
    cases c with
    | true => exact h1 B G0 H0 G1 H1 σ ρ (I.step t1) xe lx _ _ (fun v G2 H2 d t2 r z2 => k v G2 H2 d (t1.trans t2) r z2) z
    | false => exact h2 B G0 H0 G1 H1 σ ρ (I.step t1) xe lx _ _ (fun v G2 H2 d t2 r z2 => k v G2 H2 d (t1.trans t2) r z2) z) q
theorem xw_and1 (ha : XT X E a dA) : XW X E (.BoolOp .And [a] pos) dA := .of (pw_and1 ha.pt) sT
theorem xw_or1 (ha : XT X E a dA) : XW X E (.BoolOp .Or [a] pos) dA := .of (pw_or1 ha.pt) sT
theorem xw_and {rest : List Expr} (ha : XT X E a dA) (hb : XW X E (.BoolOp .And (b :: rest) pos) dB) : XW X E (.BoolOp .And (a :: b :: rest) pos) (dAnd dA dB) := .of (pw_and ha.pt hb.pw) (sim_and sT sT)
theorem xw_or {rest : List Expr} (ha : XT X E a dA) (hb : XW X E (.BoolOp .Or (b :: rest) pos) dB) : XW X E (.BoolOp .Or (a :: b :: rest) pos) (dOr dA dB) := .of (pw_or ha.pt hb.pw) (sim_or sT sT)
theorem XW.xt (h : XW X E e dA) : XT X E e dA := .of h.pw.pt sT
theorem xt_not (ha : XT X E a dA) : XT X E (.UnaryOp .Not a pos) (dNot dA) := .of (pt_not ha.pt) (sim_not sT)
theorem xIf {c : Expr} (hc : XT X E c dA) (ha : XEx X E a da) (hb : XEx X E b db) : XEx X E (.IfExp c a b pos) (dIf dA da db) := .of (pe_ifExp hc.pt ha.pe hb.pe) (sim_if sT sE sE)
end
end DL

namespace DL
open PySem PySem.Spec L2
open PyProof.Rows hiding St

/-! ### defs: room, and no repr under way -/
structure RmG (k : Nat) (A : Around) : Prop where
  rm : Room k A
  gd : A.guards = some []
theorem RmG.mono {j k : Nat} {A : Around} (r : RmG k A) (h : j ≤ k) : RmG j A := ⟨r.rm.mono h, r.gd⟩
structure FnG (P : Program) (w : World) (K : PySem.W.Frag) (mg : Str → Option Value) (base : Heap) (k : Nat) (f : Addr) (fd : FuncData) (ps : List Str) (sp : Sp) : Prop where
  len : ∀ vs H Q E, sp vs H Q E → vs.length = ps.length
  go : ∀ (A : Around) (outer : List Env) (st : Shared) (H : Hp) (ar : Args) (us : List Value) (vs : List V) (Q : VK) (E : XK), RmG k A → Env0 P w K mg base A outer st H → BindsTo st fd ar (ps.zip us) → Vals vs us → sp vs H Q E →
    codeAny (model P w) A (.call (.ref f) ar) (CR (L2.CX P w) outer P w H st Q E) st
section
variable {P : Program} {w : World} {K : PySem.W.Frag} {mg : Str → Option Value} {base : Heap}
theorem FnG.mono {j k : Nat} {f : Addr} {fd : FuncData} {ps : List Str} {sp : Sp} (F : FnG P w K mg base j f fd ps sp) (h : j ≤ k) : FnG P w K mg base k f fd ps sp :=
  ⟨F.len, fun A o st H ar us vs Q E r => F.go A o st H ar us vs Q E (r.mono h)⟩
theorem Fun.okG {x qual : Str} {st : Stmt} {f : Addr} {fd : FuncData} {N ps : List Str} {k : Nat} {sp : Sp} (F : Fun K x qual st f fd) (S : FnScope N ps (defScope st)) (len : ∀ vs H Q E, sp vs H Q E → vs.length = ps.length)
    (hb : ∀ (cv : Value) (A : Around) (o : List Env) (s : Shared) (H : Hp) (vs : List V) (Q : VK) (E : XK), RmG k (A.deeper (envOfC qual (defScope st) s.heap.objs.size f cv)) → sp vs H Q E →
      ∃ t, PSs (cxOf (L2.CX P w) P w K mg base N qual (defScope st) f cv A o s H E) (defBody st) t ∧ t { nx := fun _ H' => Q .non H', rt := Q } (start N vs) H) : FnG P w K mg base (k + 1) f fd ps sp := by
  obtain ⟨oc, od, kV, doc, pm, an, cv, ct, osl, rfl, lk, hcd⟩ := F.ex
  refine ⟨len, fun A o s H ar us vs Q E rg e0 bt rv h => ?_⟩
  have n1 := len _ _ _ _ h
  have kin : K.In s.heap := e0.mod.kin.keeps fun b u z => (e0.bs b u z).1
  have nol : s.heap.NoLimit := e0.mod.nolimit.keeps fun b u z => (e0.bs b u z).1
  have kinds : ∀ y ∈ ps.zip us, (defScope st).names.lookup y.1 = some .local ∨ ((defScope st).names.lookup y.1 = some .cell ∧ ((cellsFrom (s.heap.objs.size + 1) (defScope st).names []).lookup y.1).isSome = true) := fun ⟨n, v⟩ hy =>
    (S.par n (List.of_mem_zip hy).1).elim (fun q => .inl q) fun q => .inr ⟨q, PySem.W.cellsFrom_some _ _ _ (.inl q)⟩
  refine codeAny_call_function rg.rm.depth (kin _ _ lk) rfl S.co S.gen rfl (PySem.W.codeRec_of kin hcd) (bt _ _ _ _ ?_)
  refine wpAny_newFunctionEnv_cells S.kind kinds fun env eq s1 x1 => ?_
  subst eq
  refine ⟨nol.keeps x1.toInCall.keep, codeAny_func ?_⟩
  obtain ⟨t, ht, hq⟩ := hb cv A o s H vs Q E ⟨rg.rm.deeper _, rg.gd⟩ h
  have J0 : Inv (cxOf (L2.CX P w) P w K mg base N qual (defScope st) f cv A o s H E) [] (start N vs) H s1 := inv_start S rg.rm.hd e0 n1 rv x1
  refine wpAny_mono (ht.run [] s1 (start N vs) H _ J0 hq) (fun fl s2 z => ?_) fun _ _ z => z
  match fl, z with
  | .ret u, ⟨v, σ', H', J, r2, q⟩ => exact ⟨v, H', J.os, J.bare, J.base, J.hok, r2, q⟩
  | .next, ⟨σ', H', J, q⟩ => exact ⟨V.non, H', J.os, J.bare, J.base, J.hok, rfl, q⟩
  | .brk, ⟨_, _, _, q⟩ => exact q.elim
  | .cont, ⟨_, _, _, q⟩ => exact q.elim
end

/-! ### calls -/
section
variable {X : Cx} {k : Nat} {f : Addr} {fd : FuncData} {ps : List Str} {sp : Sp} {E : XK} {x : Str} {p pos : Pos} {e : Expr} {es : List Expr} {t : TA}
theorem go_fn {pins : List (Addr × Obj)} {σ : L2.St} {H : Hp} {s : Shared} {Q : VK} {us : List Value} {vs : List V} (F : FnG X.prog X.w X.K X.mg X.base k f fd ps sp) (rg : RmG k X.A) (hb : Binds X.K fd ps []) (hx : Passes (L2.CX X.prog X.w) X E)
    (I : Inv X pins σ H s) (r : Vals vs us) (h : sp vs H Q E) : wpAny (model X.prog X.w) X.A (call (.ref f) us) (EP X pins σ Q) X.xe s := by
  have n1 : (us ++ ([] : List Value)).length = ps.length := by rw [List.append_nil, ← r.length]; exact F.len _ _ _ _ h
  have bt := hb s us I.kIn n1
  rw [List.append_nil] at bt
  refine wpAny_call (codeAny_mono (F.go X.A X.stack s H ⟨us, []⟩ us vs Q E rg I.env0 bt r h) fun res s2 z => ?_)
  match res, z with
  | .error e, z => exact hx pins σ H s e s2 I z
  | .ok (.ret u), z => exact I.after z
  | .ok .next, z => exact False.elim z
  | .ok .brk, z => exact False.elim z
  | .ok .cont, z => exact False.elim z
def tCl (sp : Sp) (E : XK) (t : TA) : TE := fun σ H Q => t σ H fun vs H1 => sp vs H1 Q E
theorem pe_cl (F : FnG X.prog X.w X.K X.mg X.base k f fd ps sp) (rg : RmG k X.A) (hg : Gl X x) (hm : X.mg x = some (.ref f)) (hk : PySem.W.keepIn X.K (.ref f) = true) (hb : Binds X.K fd ps []) (hx : Passes (L2.CX X.prog X.w) X E)
    (ha : PA X (e :: es) t) (hdb : (x == ("__debug__" : Str)) = false := by decide) (he : starEach (e :: es) X.env = (false, eval e X.env) :: starEach es X.env := by rfl) (hpl : (backTo pos (starEach es X.env)).any (·.1) = false := by rfl) :
    PE X (.Call (.Name x p) (e :: es) [] pos) (tCl sp E t) := by
  refine ⟨fun pins s σ H Q I h => wpAny_Call_Name_kw (ld_glob I hg hm ?_ hdb)⟩
  refine PySem.W.callWith_K (h₀ := X.base) I.ok.mod.kin hk (thn (ha.run pos pins s σ H _ I h) fun us s1 ⟨vs, H1, I1, r, q⟩ => ⟨I1.kIn, ?_⟩) he hpl
  exact go_fn F rg hb hx I1 r q
theorem pe_cl0 (F : FnG X.prog X.w X.K X.mg X.base k f fd ps sp) (rg : RmG k X.A) (hg : Gl X x) (hm : X.mg x = some (.ref f)) (hk : PySem.W.keepIn X.K (.ref f) = true) (hb : Binds X.K fd ps []) (hx : Passes (L2.CX X.prog X.w) X E)
    (hdb : (x == ("__debug__" : Str)) = false := by decide) : PE X (.Call (.Name x p) [] [] pos) (tCl sp E tNil) :=
  ⟨fun pins s σ H Q I h => wpAny_Call_Name_kw (ld_glob I hg hm (PySem.W.callWith_K0 I.kIn hk (go_fn (us := []) F rg hb hx I .nil h)) hdb)⟩
end

/-! ### promises over data -/
/-- a def without the bag; a def whose first argument is the bag -/
def spN (K : PySem.W.Frag) (S : DSp) : Sp := fun vs H Q E => ∃ B G ds xe R, Reps K G vs ds ∧ Stt B G H G H ∧ LinkX K B G H E xe ∧ S ds xe R ∧ ∀ v G' H' d, Stt B G H G' H' → Rep K G' v d → R d → Q v H'
def spB (K : PySem.W.Frag) (S : DSp) : Sp := fun vs H Q E => ∃ b vs' G ds xe R, vs = .ref b :: vs' ∧ Reps K G vs' ds ∧ Stt (some b) G H G H ∧ LinkX K (some b) G H E xe ∧ S ds xe R ∧ ∀ v G' H' d, Stt (some b) G H G' H' → Rep K G' v d → R d → Q v H'
def dCall (S : DSp) (da : DA) : DE := fun ρ xe R => da ρ xe fun ds => S ds xe R
/-- f(bag, ..) -/
def dCallB (i : Nat) (S : DSp) (da : DA) : DE := fun ρ xe R => ρ[i]? = some .bg ∧ da ρ xe fun ds => S ds xe R
section
variable {X : Cx} {E : XK} {k n : Nat} {f : Addr} {fd : FuncData} {ps : List Str} {S : DSp} {x bx : Str} {p pb pos : Pos} {e : Expr} {es : List Expr} {da : DA}
theorem sim_call {K : PySem.W.Frag} {ta : TA} (h : SimA K E ta da) : SimE K E (tCl (spN K S) E ta) (dCall S da) := fun B G0 H0 G H σ ρ I xe lx Q R kk q =>
  h B G0 H0 G H σ ρ I xe lx _ _ (fun vs G' H' ds t r z => ⟨B, G', ds, xe, R, r, Stt.refl t.gh t.bag, lx.shift (I.st.trans t), z, fun v G2 H2 d t2 r2 z2 => kk v G2 H2 d (t.trans t2) r2 z2⟩) q
theorem sim_callB {K : PySem.W.Frag} {ta : TA} {i : Nat} (h : SimA K E ta da) : SimE K E (tCl (spB K S) E (tCons (tVar i) ta)) (dCallB i S da) := fun B G0 H0 G H σ ρ I xe lx Q R kk q => by
  obtain ⟨q0, q⟩ := q
  obtain ⟨b, rfl, hv⟩ := I.bgv q0
  refine ⟨_, hv, ?_⟩
  exact h (some b) G0 H0 G H σ ρ I xe lx _ _ (fun vs G' H' ds t r z => ⟨b, vs, G', ds, xe, R, rfl, r, Stt.refl t.gh t.bag, lx.shift (I.st.trans t), z, fun v G2 H2 d t2 r2 z2 => kk v G2 H2 d (t.trans t2) r2 z2⟩) q
/-- f(e, ..) -/
theorem xCall (F : FnG X.prog X.w X.K X.mg X.base k f fd ps (spN X.K S)) (rg : RmG k X.A) (hg : Gl X x) (hm : X.mg x = some (.ref f)) (hk : PySem.W.keepIn X.K (.ref f) = true) (hb : Binds X.K fd ps []) (hx : Passes (L2.CX X.prog X.w) X E)
    (ha : XA X E (e :: es) da) (hdb : (x == ("__debug__" : Str)) = false := by decide) (he : starEach (e :: es) X.env = (false, eval e X.env) :: starEach es X.env := by rfl) (hpl : (backTo pos (starEach es X.env)).any (·.1) = false := by rfl) :
    XEx X E (.Call (.Name x p) (e :: es) [] pos) (dCall S da) := .of (pe_cl F rg hg hm hk hb hx ha.pa hdb he hpl) (sim_call sA)
theorem xCall0 (F : FnG X.prog X.w X.K X.mg X.base k f fd ps (spN X.K S)) (rg : RmG k X.A) (hg : Gl X x) (hm : X.mg x = some (.ref f)) (hk : PySem.W.keepIn X.K (.ref f) = true) (hb : Binds X.K fd ps []) (hx : Passes (L2.CX X.prog X.w) X E)
    (hdb : (x == ("__debug__" : Str)) = false := by decide) : XEx X E (.Call (.Name x p) [] [] pos) (dCall S dNil) := .of (pe_cl0 F rg hg hm hk hb hx hdb) (sim_call fun B G0 H0 G H σ ρ I xe lx Q R kk q => kk [] G H [] I.st.here .nil q)
theorem xCallB {i : Nat} (F : FnG X.prog X.w X.K X.mg X.base k f fd ps (spB X.K S)) (rg : RmG k X.A) (hg : Gl X x) (hm : X.mg x = some (.ref f)) (hk : PySem.W.keepIn X.K (.ref f) = true) (hb : Binds X.K fd ps []) (hx : Passes (L2.CX X.prog X.w) X E)
    (hv : PE X (.Name bx pb) (tVar i)) (ha : XA X E es da) (hdb : (x == ("__debug__" : Str)) = false := by decide) (he : starEach (.Name bx pb :: es) X.env = (false, eval (.Name bx pb) X.env) :: starEach es X.env := by rfl) (hpl : (backTo pos (starEach es X.env)).any (·.1) = false := by rfl) :
    XEx X E (.Call (.Name x p) (.Name bx pb :: es) [] pos) (dCallB i S da) := .of (pe_cl F rg hg hm hk hb hx (pa_cons hv ha.pa he) hdb he hpl) (sim_callB sA)
end

/-! ### statements -/
def dSeq (d e : DS) : DS := fun C ρ => d { C with nx := e C } ρ
def dNext : DS := fun C ρ => C.nx ρ
def dAsg (i : Nat) (de : DE) : DS := fun C ρ => de ρ C.xe fun d => C.nx (ρ.set i (.dd d))
def dDrop (de : DE) : DS := fun C ρ => de ρ C.xe fun _ => C.nx ρ
def dRet (de : DE) : DS := fun C ρ => de ρ C.xe C.rt
def dRetN : DS := fun C _ => C.rt .non
def dIfS (t : DT) (d e : DS) : DS := fun C ρ => t ρ C.xe fun k => ifB k (d C ρ) (e C ρ)
def dNever : DS := fun _ _ => False
def dBreak : DS := fun C ρ => C.bk ρ
def dCont : DS := fun C ρ => C.ct ρ
/-- an owned list is given up ahead of d -/
def dFrz (i : Nat) (d : DS) : DS := fun C ρ => match ρ[i]? with
  | some (.own ds) => d C (ρ.set i (.dd (.lst ds)))
  | _ => False
section
variable {X : Cx} {E : XK} {st : Stmt} {rest : List Stmt} {e : Expr} {pos : Pos} {ds du : DS} {de : DE} {dt : DT}
theorem LinkS.to_nx {K : PySem.W.Frag} {B : Option Addr} {G0 H0 Gs : Hp} {D : Ends} {C : DEnds} {n : L2.St → Hp → Prop} {m : List Sl → Prop} (l : LinkS K B G0 H0 Gs E D C) (h : ∀ G' H' σ ρ, Same Gs G' → En K B G0 H0 G' H' σ ρ → m ρ → n σ H') : LinkS K B G0 H0 Gs E { D with nx := n } { C with nx := m } :=
  ⟨h, l.bk, l.ct, l.rt, l.xe, l.rf⟩
theorem xss_nil : XSs X E [] dNext := .of pss_nil fun B G0 H0 G H σ ρ I Gs sg D C l q => l.nx G H σ ρ sg I q
theorem xss_cons (h1 : XS X E st ds) (h2 : XSs X E rest du) : XSs X E (st :: rest) (dSeq ds du) := .of (pss_cons h1.ps h2.ps) fun B G0 H0 G H σ ρ I Gs sg D C l q =>
  sS B G0 H0 G H σ ρ I Gs sg _ { C with nx := du C } (l.to_nx fun G' H' σ' ρ' s' I' z => sS B G0 H0 G' H' σ' ρ' I' Gs s' D C l z) q
theorem xss_one (h1 : XS X E st ds) : XSs X E [st] ds := .of (pss_one h1.ps) sS
theorem xs_pass : XS X E (.Pass pos) dNext := .of ps_pass fun B G0 H0 G H σ ρ I Gs sg D C l q => l.nx G H σ ρ sg I q
theorem xs_break : XS X E (.Break pos) dBreak := .of ps_break fun B G0 H0 G H σ ρ I Gs sg D C l q => l.bk G H σ ρ sg I q
theorem xs_cont : XS X E (.Continue pos) dCont := .of ps_continue fun B G0 H0 G H σ ρ I Gs sg D C l q => l.ct G H σ ρ sg I q
theorem xs_never : XS X E st dNever := .of ps_never fun _ _ _ _ _ _ _ _ _ _ _ _ _ q => q.elim
theorem xss_never {sts : List Stmt} : XSs X E sts dNever := .of pss_never fun _ _ _ _ _ _ _ _ _ _ _ _ _ q => q.elim
theorem xs_frz {i : Nat} (h : XS X E st ds) : XS X E st (dFrz i ds) := .of h.ps fun B G0 H0 G H σ ρ I Gs sg D C l q => by
  unfold dFrz at q
  split at q
  · rename_i es e
    obtain ⟨G', sm, I'⟩ := I.freeze e
    exact sS B G0 H0 G' H σ _ I' Gs (sg.trans sm) D C l q
  · exact q.elim
theorem xss_frz {i : Nat} (h : XSs X E rest ds) : XSs X E rest (dFrz i ds) := .of h.ps fun B G0 H0 G H σ ρ I Gs sg D C l q => by
  unfold dFrz at q
  split at q
  · rename_i es e
    obtain ⟨G', sm, I'⟩ := I.freeze e
    exact sS B G0 H0 G' H σ _ I' Gs (sg.trans sm) D C l q
  · exact q.elim
theorem sim_asg {K : PySem.W.Frag} {te : TE} {i : Nat} (h : SimE K E te de) : SimS K E (tAsg te (gName i)) (dAsg i de) := fun B G0 H0 G H σ ρ I Gs sg D C l q =>
  h B G0 H0 G H σ ρ I C.xe l.xe _ _ (fun v G' H' d t r z => l.nx G' H' _ _ (sg.trans t.gg) ((I.step t).set r) z) q
/-- name = e -/
theorem xs_set {i : Nat} {x : Str} {pos' : Pos} (hN : X.N.Nodup) (hi : X.N[i]? = some x) (hx : Loc X.env.scope x) (he : XEx X E e de) (hs : swapsWith e (some (.Name x pos')) pos.line X.env = pure false := by rfl) (hf : X.fn x = true ∨ X.env.scope.names.lookup x = some .local := by first | exact .inl rfl | exact .inr rfl | assumption) :
    XS X E (.Assign [.Name x pos'] e pos) (dAsg i de) := .of (ps_set hN hi hx he.pe hs hf) (sim_asg sE)
theorem xs_expr (he : XEx X E e de) (hs : swapsWith e none pos.line X.env = pure false := by rfl) : XS X E (.Expr e pos) (dDrop de) := .of (ps_expr he.pe hs) fun B G0 H0 G H σ ρ I Gs sg D C l q =>
  sE B G0 H0 G H σ ρ I C.xe l.xe _ _ (fun v G' H' d t r z => l.nx G' H' _ _ (sg.trans t.gg) (I.step t) z) q
theorem xs_ret (he : XEx X E e de) : XS X E (.Return (some e) pos) (dRet de) := .of (ps_ret he.pe) fun B G0 H0 G H σ ρ I Gs sg D C l q =>
  sE B G0 H0 G H σ ρ I C.xe l.xe _ _ (fun v G' H' d t r z => l.rt v d G' H' (I.st.trans t) r z) q
theorem xs_retN : XS X E (.Return none pos) dRetN := .of ps_retN fun B G0 H0 G H σ ρ I Gs sg D C l q => l.rt .non .non G H I.st .non q
theorem xs_if {c : Expr} {a b : List Stmt} (hc : XT X E c dt) (ha : XSs X E a ds) (hb : XSs X E b du) : XS X E (.If c a b pos) (dIfS dt ds du) := .of (ps_if hc.pt ha.ps hb.ps) fun B G0 H0 G H σ ρ I Gs sg D C l q =>
  sT B G0 H0 G H σ ρ I C.xe l.xe _ _ (fun k G' H' t z => by
    cases k with
    | true => exact sS B G0 H0 G' H' σ ρ (I.step t) Gs (sg.trans t.gg) D C l z
    | false => exact sS B G0 H0 G' H' σ ρ (I.step t) Gs (sg.trans t.gg) D C l z) q
/-- a, b = x, y -/
def dPar (i j : Nat) (da db : DE) : DS := fun C ρ => da ρ C.xe fun x => db ρ C.xe fun y => C.nx ((ρ.set i (.dd x)).set j (.dd y))
theorem xs_par {i j : Nat} {x y : Str} {a b : Expr} {da db : DE} {px py pt : Pos} {kt k2 pt2} (hc : X.calm = true) (hN : X.N.Nodup) (hi : X.N[i]? = some x) (hj : X.N[j]? = some y) (hij : i ≠ j)
    (hx : X.env.scope.names.lookup x = some .local) (hy : X.env.scope.names.lookup y = some .local) (ha : XEx X E a da) (hb : XEx X E b db)
    (hw : swappedStores [.Tuple [.Name x px, .Name y py] kt pt] (.Tuple [a, b] k2 pt2) X.env = pure (some [x, y]) := by rfl)
    (hs : swapsWithSole [.Tuple [.Name x px, .Name y py] kt pt] (.Tuple [a, b] k2 pt2) pos.line X.env = pure false := by rfl)
    (h1 : starEach [a, b] X.env = (false, eval a X.env) :: starEach [b] X.env := by rfl) (h2 : starEach [b] X.env = (false, eval b X.env) :: starEach [] X.env := by rfl) :
    XS X E (.Assign [.Tuple [.Name x px, .Name y py] kt pt] (.Tuple [a, b] k2 pt2) pos) (dPar i j da db) := .of (ps_par hc hN hi hj hij hx hy (pa_cons ha.pe (pa_cons hb.pe pa_nil h2) h1) hw hs) fun B G0 H0 G H σ ρ I Gs sg D C l q =>
  sE B G0 H0 G H σ ρ I C.xe l.xe _ _ (fun v G1 H1 d t r z =>
    sE B G0 H0 G1 H1 σ ρ (I.step t) C.xe l.xe _ _ (fun u G2 H2 f t2 r2 z2 => ⟨v, u, rfl, l.nx _ _ _ _ ((sg.trans t.gg).trans t2.gg) ((((I.step t).step t2).set (r.mono t2.gg)).set r2) z2⟩) z) q
/-- a, b = [], y: the first one owned -/
def dParO (i j : Nat) (db : DE) : DS := fun C ρ => db ρ C.xe fun y => C.nx ((ρ.set i (.own [])).set j (.dd y))
end
end DL

namespace DL
open PySem PySem.Spec L2
open PyProof.Rows hiding St

/-! ### reading an owned list: as if it were given up, where the result does not hold it -/
def flatD : D → Bool
  | .non => true
  | .bl _ => true
  | .int _ => true
  | .str _ => true
  | _ => false
theorem Rep.flat {K : PySem.W.Frag} {G G' : Hp} {v : V} {d : D} (h : Rep K G v d) (f : flatD d = true) : Rep K G' v d := by
  cases h with
  | non => exact .non
  | bl b => exact .bl b
  | int i => exact .int i
  | str s => exact .str s
  | lst a b => cases f
  | tup a b => cases f
  | ins a b => cases f
  | dct a k b => cases f
  | dct0 a => cases f
def minus (G : Hp) (p : Addr) : Hp := fun a => if a = p then none else G a
theorem minus_ne {G : Hp} {p a : Addr} (h : a ≠ p) : minus G p a = G a := by unfold minus; rw [if_neg h]
theorem minus_self {G : Hp} {p : Addr} : minus G p p = none := by unfold minus; rw [if_pos rfl]
/-- behind a reading in the frozen world -/
theorem Stt.thaw {B : Option Addr} {G H G1 G2 H2 : Hp} {p : Addr} {vs : List V} (hp : H p = some (.lst vs)) (gp : G p = none) (nb : B ≠ some p) (s0 : Stt B G H G H) (hG1 : ∀ a, a ≠ p → G1 a = G a) (hs : Same G G1) (t : Stt B G1 H G2 H2) (hbp : ∀ b c, B = some b → bagC H b = some (.ref c) → c ≠ p) :
    Stt B G H (minus G2 p) H2 := by
  refine ⟨fun a u h => ?_, fun a u h => ?_, t.hh, fun a u h => ?_, fun b e => ?_, t.bc⟩
  · have ne : a ≠ p := ne_of_none h gp
    rw [minus_ne ne]; exact t.gg a u (hs a u h)
  · by_cases e : a = p
    · subst e; rw [minus_self] at h; cases h
    · rw [minus_ne e] at h; exact t.gh a u h
  · by_cases e : a = p
    · subst e; rw [minus_self] at h; cases h
    · rw [minus_ne e] at h
      rcases t.fr a u h with q | q
      · rw [hG1 a e] at q; exact .inl q
      · exact .inr q
  · obtain ⟨g0, n, sd, i, c, cells, h1, h2, r⟩ := t.bag b e
    have c0 : bagC H b = some (.ref c) := by rw [← t.bc b e]; unfold bagC; rw [h1]; rfl
    have nc : c ≠ p := hbp b c e c0
    refine ⟨?_, n, sd, i, c, cells, h1, by rw [minus_ne nc]; exact h2, r⟩
    by_cases z : b = p
    · subst z; exact minus_self
    · rw [minus_ne z]; exact g0
theorem En.frozen {K : PySem.W.Frag} {B : Option Addr} {G0 H0 G H : Hp} {σ : L2.St} {ρ : List Sl} {i : Nat} {ds : List D} (I : En K B G0 H0 G H σ ρ) (e : ρ[i]? = some (.own ds)) :
    ∃ p vs G1, H p = some (.lst vs) ∧ G p = none ∧ B ≠ some p ∧ (∀ a, a ≠ p → G1 a = G a) ∧ Same G G1 ∧ En K B G0 H0 G1 H σ (ρ.set i (.dd (.lst ds))) ∧ (∀ b c, B = some b → bagC H b = some (.ref c) → c ≠ p) ∧ σ[i]? = some (some (.ref p)) ∧ Reps K G vs ds := by
  obtain ⟨p, vs, h1, h2, h3, h4, h5, h6⟩ := I.owned e
  obtain ⟨p', vs', g1, g2, g3, sm, I', eq⟩ : ∃ p' vs' G1, H p' = some (.lst vs') ∧ (∀ a, a ≠ p' → G1 a = G a) ∧ Same G G1 ∧ En K B G0 H0 G1 H σ (ρ.set i (.dd (.lst ds))) ∧ p' = p := by
    -- the same as En.freeze, told of its world
    have sm : Same G (upd G p (.lst vs)) := fun a u h => by rw [upd_ne (ne_of_none h h4)]; exact h
    refine ⟨p, vs, upd G p (.lst vs), h2, fun a n => upd_ne n, sm, ?_, rfl⟩
    have t : Stt B G0 H0 (upd G p (.lst vs)) H := by
      refine ⟨I.st.gg.trans sm, fun a u h => ?_, I.st.hh, fun a u h => ?_, fun b z => ?_, I.st.bc⟩
      · by_cases q : a = p
        · subst q; rw [upd_same] at h; cases h; exact h2
        · rw [upd_ne q] at h; exact I.st.gh a u h
      · by_cases q : a = p
        · subst q; exact .inr h5
        · rw [upd_ne q] at h; exact I.st.fr a u h
      · obtain ⟨g0, n, sd, j, c, cells, k1, k2, q⟩ := I.st.bag b z
        exact ⟨by rw [upd_ne (fun z' => h6 (by rw [z, z']))]; exact g0, n, sd, j, c, cells, k1, sm _ _ k2, q⟩
    have il : i < ρ.length := (List.getElem?_eq_some_iff.mp e).1
    have len := plen I.sl
    have rp : Rep K (upd G p (.lst vs)) (.ref p) (.lst ds) := .lst upd_same (h3.mono sm)
    have σi : σ.set i (some (.ref p)) = σ := by
      apply List.ext_getElem?
      intro j
      by_cases hj : j = i
      · subst hj
        rw [List.getElem?_set_self (by omega), h1]
      · rw [List.getElem?_set_ne (Ne.symm hj)]
    refine ⟨t, ?_, fun j k q x y e1 e2 e3 e4 => ?_⟩
    · have base : ∀ {l : List (Option V)} {q : List Sl} {m : Nat}, Paired (SlOk K B H0 G H) l q → (∀ (j : Nat) o x, j ≠ m → l[j]? = some o → q[j]? = some (Sl.own x) → o ≠ some (.ref p)) → Paired (SlOk K B H0 (upd G p (.lst vs)) H) (l.set m (some (.ref p))) (q.set m (.dd (.lst ds))) := by
        have one : ∀ {o : Option V} {s : Sl}, SlOk K B H0 G H o s → (∀ x, s = Sl.own x → o ≠ some (.ref p)) → SlOk K B H0 (upd G p (.lst vs)) H o s := fun {o s} h hn => by
          cases h with
          | un => exact .un
          | dd r => exact .dd (r.mono sm)
          | bg e => exact .bg e
          | fz a' r' h0' nb' => exact .fz (sm _ _ a') (r'.mono sm) h0' nb'
          | ex h => exact .ex (exMono sm h)
          | pin r => exact .pin (r.mono sm)
          | nw r n => exact .nw (r.mono sm) (n.mono (fun _ h => h) sm)
          | odk a' k' r' g' h0' nb' => exact .odk a' k' (r'.mono sm) (by rw [upd_ne (fun z => by rw [z, h2] at a'; cases a')]; exact g') h0' nb'
          | own a' r' g' h0' nb' => exact .own a' (r'.mono sm) (by rw [upd_ne (fun z => hn _ rfl (by rw [z]))]; exact g') h0' nb'
        intro l q m h
        induction h generalizing m with
        | nil => intro _; exact .nil
        | cons r t' ih =>
          intro hn
          cases m with
          | zero => exact .cons (.dd rp) (pmap t' fun a b j e1 e2 q => one q fun x z => hn (j + 1) a x (by omega) (by simpa using e1) (by rw [← z]; simpa using e2))
          | succ m => exact .cons (one r fun x z => hn 0 _ x (by omega) rfl (by rw [← z]; rfl)) (ih fun j o x nj e1 e2 => hn (j + 1) o x (by omega) (by simpa using e1) (by simpa using e2))
      have P := base (m := i) I.sl fun j o x nj e1 e2 z => nj (I.ap j i p x ds e2 e (by rw [e1, z]) h1)
      rw [σi] at P
      exact P
    · have ne : ∀ (j : Nat) x, (ρ.set i (.dd (.lst ds)))[j]? = some (Sl.own x) → ρ[j]? = some (Sl.own x) := fun j x e1 => by
        by_cases hj : j = i
        · subst hj; rw [List.getElem?_set_self il] at e1; cases e1
        · rw [List.getElem?_set_ne (Ne.symm hj)] at e1; exact e1
      exact I.ap j k q x y (ne j x e1) (ne k y e2) e3 e4
  subst eq
  refine ⟨p', vs, g1, h2, h4, h6, g3, sm, I', fun b c z k q => ?_, h1, h3⟩
  obtain ⟨_, n, sd, j, c', cells, k1, k2, _⟩ := I.st.bag b z
  have : bagC H b = some (.ref c') := by unfold bagC; rw [k1]; rfl
  rw [k] at this; cases this
  rw [q, h4] at k2; cases k2
def dThaw (i : Nat) (de : DE) : DE := fun ρ xe R => match ρ[i]? with
  | some (.own ds) => de (ρ.set i (.dd (.lst ds))) (fun _ => False) fun d => flatD d = true ∧ R d
  | _ => False
def dThawT (i : Nat) (dt : DT) : DT := fun ρ xe R => match ρ[i]? with
  | some (.own ds) => dt (ρ.set i (.dd (.lst ds))) (fun _ => False) R
  | _ => False
theorem noX {K : PySem.W.Frag} {B : Option Addr} {G0 H0 : Hp} {E : XK} : LinkX K B G0 H0 E (fun _ => False) := fun _ _ _ _ _ _ z => z.elim
theorem sim_thaw {K : PySem.W.Frag} {E : XK} {te : TE} {i : Nat} {de : DE} (h : SimE K E te de) : SimE K E te (dThaw i de) := fun B G0 H0 G H σ ρ I xe lx Q R k q => by
  unfold dThaw at q
  split at q
  · rename_i ds e
    obtain ⟨p, vs, G1, h1, h2, h3, h4, h5, I', h6, _, _⟩ := I.frozen e
    exact h B G0 H0 G1 H σ _ I' _ noX _ _ (fun v G' H' d t r z => k v _ H' d (Stt.thaw h1 h2 h3 I.st.here h4 h5 t h6) (r.flat z.1) z.2) q
  · exact q.elim
theorem sim_thawT {K : PySem.W.Frag} {E : XK} {te : TT} {i : Nat} {dt : DT} (h : SimT K E te dt) : SimT K E te (dThawT i dt) := fun B G0 H0 G H σ ρ I xe lx Q R k q => by
  unfold dThawT at q
  split at q
  · rename_i ds e
    obtain ⟨p, vs, G1, h1, h2, h3, h4, h5, I', h6, _, _⟩ := I.frozen e
    exact h B G0 H0 G1 H σ _ I' _ noX _ _ (fun b G' H' t z => k b _ H' (Stt.thaw h1 h2 h3 I.st.here h4 h5 t h6) z) q
  · exact q.elim
section
variable {X : Cx} {E : XK} {e : Expr} {de : DE} {dt : DT}
theorem xThaw (i : Nat) (h : XEx X E e de) : XEx X E e (dThaw i de) := .of h.pe (sim_thaw sE)
theorem xtThaw (i : Nat) (h : XT X E e dt) : XT X E e (dThawT i dt) := .of h.pt (sim_thawT sT)
end

/-! ### targets -/
abbrev DG := D → List Sl → (List Sl → Prop) → Prop
def SimG (K : PySem.W.Frag) (g : TG) (dg : DG) (vs : List Nat) : Prop := ∀ (B : Option Addr) (G0 H0 G H : Hp) (σ : L2.St) (ρ : List Sl) (v : V) (d : D), En K B G0 H0 G H σ ρ → Rep K G v d → ∀ (Q : L2.St → Hp → Prop) (R : List Sl → Prop),
  (∀ σ' ρ', En K B G0 H0 G H σ' ρ' → wipe σ' vs = wipe σ vs → R ρ' → Q σ' H) → dg d ρ R → g v σ H Q
def dgName (i : Nat) : DG := fun d ρ R => R (ρ.set i (.dd d))
def dgPair (i j : Nat) : DG := fun d ρ R => match d with
  | .tup [x, y] => R ((ρ.set i (.dd x)).set j (.dd y))
  | _ => False
theorem wipe_get {σ : L2.St} : ∀ {vs : List Nat} {i : Nat}, (wipe σ vs)[i]? = if i ∈ vs then (if i < σ.length then some none else none) else σ[i]?
  | [], i => by simp [wipe]
  | v :: vs, i => by
    unfold wipe
    by_cases h : v = i
    · subst h
      rw [if_pos (List.mem_cons_self ..)]
      by_cases l : v < σ.length
      · rw [List.getElem?_set_self (by rw [wipe_length]; exact l), if_pos l]
      · rw [List.getElem?_eq_none (by rw [List.length_set, wipe_length]; omega), if_neg l]
    · rw [List.getElem?_set_ne h, wipe_get (vs := vs)]
      by_cases m : i ∈ vs
      · rw [if_pos m, if_pos (List.mem_cons_of_mem _ m)]
      · rw [if_neg m, if_neg (by simp only [List.mem_cons, not_or]; exact ⟨fun z => h z.symm, m⟩)]
theorem wipe_set {σ : L2.St} {vs : List Nat} {i : Nat} {o : Option V} (h : i ∈ vs) : wipe (σ.set i o) vs = wipe σ vs := by
  apply List.ext_getElem?
  intro j
  rw [wipe_get, wipe_get, List.length_set]
  by_cases m : j ∈ vs
  · rw [if_pos m, if_pos m]
  · rw [if_neg m, if_neg m, List.getElem?_set_ne (fun z => m (by rw [← z]; exact h))]
theorem wipe_wipe {σ : L2.St} {vs : List Nat} : wipe (wipe σ vs) vs = wipe σ vs := by
  apply List.ext_getElem?
  intro j
  rw [wipe_get, wipe_length]
  by_cases m : j ∈ vs
  · rw [if_pos m, wipe_get, if_pos m]
  · rw [if_neg m]
theorem simg_name {K : PySem.W.Frag} {i : Nat} {vs : List Nat} (h : i ∈ vs) : SimG K (gName i) (dgName i) vs := fun B G0 H0 G H σ ρ v d I r Q R k q => k _ _ (I.set r) (wipe_set h) q
theorem simg_pair {K : PySem.W.Frag} {i j : Nat} {vs : List Nat} (h : i ∈ vs) (h' : j ∈ vs) : SimG K (gTup K 2 (gCons (gName i) (gCons (gName j) gNil))) (dgPair i j) vs := fun B G0 H0 G H σ ρ v d I r Q R k q => by
  unfold dgPair at q
  split at q
  · cases r with
    | tup a b =>
      cases b with
      | cons r1 b =>
        cases b with
        | cons r2 b =>
          cases b
          refine ⟨_, _, rfl, SqT.of (I.st.gh _ _ a), rfl, _, _, rfl, _, _, rfl, rfl, ?_⟩
          exact k _ _ ((I.set r1).set r2) (by rw [wipe_set h', wipe_set h]) q
  · exact q.elim

/-! ### what is walked -/
abbrev DI := List Sl → XE → (List D → Prop) → Prop
def JOk (K : PySem.W.Frag) (B : Option Addr) (J : It) (items : List D) (G H : Hp) : Prop := ∀ G' H', Same G G' → Same G' H' → BagO B G' H' → ∀ i : Nat,
  (∀ d, items[i]? = some d → J.go i H' ∧ ∀ x H'', J.yld i H' x H'' → ∃ G'', Stt B G' H' G'' H'' ∧ Rep K G'' x d) ∧ (items.length ≤ i → J.stop i H')
def SimI (K : PySem.W.Frag) (E : XK) (wi : TI) (di : DI) : Prop := ∀ (B : Option Addr) (G0 H0 G H : Hp) (σ : L2.St) (ρ : List Sl), En K B G0 H0 G H σ ρ → ∀ xe : XE, LinkX K B G0 H0 E xe → ∀ (R : It → Hp → Prop) (RR : List D → Prop),
  (∀ J G' H' items, Stt B G H G' H' → JOk K B J items G' H' → RR items → R J H') → di ρ xe RR → wi σ H R
def dItems (de : DE) : DI := fun ρ xe R => de ρ xe fun d => match d with
  | .lst xs => R xs
  | _ => False
def dItemsT (de : DE) : DI := fun ρ xe R => de ρ xe fun d => match d with
  | .tup xs => R xs
  | _ => False
def dSigns (de : DE) : DI := fun ρ xe R => de ρ xe fun d => match d with
  | .str s => R (s.map fun c => .str [c])
  | _ => False
/-- lo, lo + 1, .. -/
def span (lo : Int) (n : Nat) : List D := (List.range n).map fun (i : Nat) => D.int (lo + (i : Int))
def dRng1 (da : DA) : DI := fun ρ xe R => da ρ xe fun ds => match ds with
  | [.int j] => -(2 ^ 62) ≤ j ∧ j < 2 ^ 62 ∧ R (span 0 j.toNat)
  | _ => False
def dRng2 (da : DA) : DI := fun ρ xe R => da ρ xe fun ds => match ds with
  | [.int i, .int j] => (-(2 ^ 62) ≤ i ∧ i < 2 ^ 62 ∧ -(2 ^ 62) ≤ j ∧ j < 2 ^ 62) ∧ R (span i (j - i).toNat)
  | _ => False
theorem span_get {lo : Int} {n i : Nat} {d : D} (h : (span lo n)[i]? = some d) : i < n ∧ d = .int (lo + (i : Int)) := by
  unfold span at h
  rw [List.getElem?_map] at h
  by_cases l : i < n
  · rw [List.getElem?_range l] at h
    exact ⟨l, (Option.some.inj h).symm⟩
  · rw [List.getElem?_eq_none (by simpa using l)] at h; cases h
theorem span_length {lo : Int} {n : Nat} : (span lo n).length = n := by unfold span; simp
theorem jok_list {K : PySem.W.Frag} {B : Option Addr} {G H : Hp} {a : Addr} {vs : List V} {ds : List D} (h : G a = some (.lst vs)) (r : Reps K G vs ds) : JOk K B (Itl K a) ds G H := fun G' H' s1 s2 bg i => by
  have hl : SqL K H' a vs := SqL.of (s2 _ _ (s1 _ _ h))
  refine ⟨fun d e => ?_, fun l => ⟨vs, hl, by rw [r.length]; exact l⟩⟩
  obtain ⟨v, e1, e2⟩ := r.get e
  refine ⟨⟨vs, v, hl, e1⟩, fun x H'' y => ?_⟩
  obtain ⟨rfl, f⟩ := y
  have := f vs hl
  rw [e1] at this
  cases this
  exact ⟨G', Stt.refl s2 bg, e2.mono s1⟩
theorem jok_tup {K : PySem.W.Frag} {B : Option Addr} {G H : Hp} {a : Addr} {vs : List V} {ds : List D} (h : G a = some (.tup vs)) (r : Reps K G vs ds) : JOk K B (Itt K a) ds G H := fun G' H' s1 s2 bg i => by
  have hl : SqT K H' a vs := SqT.of (s2 _ _ (s1 _ _ h))
  refine ⟨fun d e => ?_, fun l => ⟨vs, hl, by rw [r.length]; exact l⟩⟩
  obtain ⟨v, e1, e2⟩ := r.get e
  refine ⟨⟨vs, v, hl, e1⟩, fun x H'' y => ?_⟩
  obtain ⟨rfl, f⟩ := y
  have := f vs hl
  rw [e1] at this
  cases this
  exact ⟨G', Stt.refl s2 bg, e2.mono s1⟩
theorem jok_rng {K : PySem.W.Frag} {B : Option Addr} {G H : Hp} {lo : Int} {n : Nat} : JOk K B (Itr lo n) (span lo n) G H := fun G' H' s1 s2 bg i => by
  refine ⟨fun d e => ?_, fun l => by rw [span_length] at l; exact l⟩
  obtain ⟨l, rfl⟩ := span_get e
  refine ⟨l, fun x H'' y => ?_⟩
  obtain ⟨rfl, rfl⟩ := y
  exact ⟨G', Stt.refl s2 bg, .int _⟩
theorem jok_str {K : PySem.W.Frag} {B : Option Addr} {G H : Hp} {s : List Nat} : JOk K B (Its ⟨s.toArray⟩) (s.map fun c => .str [c]) G H := fun G' H' s1 s2 bg i => by
  refine ⟨fun d e => ?_, fun l => by show s.toArray.size ≤ i; simpa using l⟩
  rw [List.getElem?_map] at e
  cases f : s[i]? with
  | none => rw [f] at e; cases e
  | some c =>
    rw [f] at e
    have e' : D.str [c] = d := Option.some.inj e
    subst e'
    refine ⟨?_, fun x H'' y => ?_⟩
    · show i < s.toArray.size
      have := (List.getElem?_eq_some_iff.mp f).1
      simpa using this
    · obtain ⟨rfl, c', h1, rfl⟩ := y
      have h2 : s[i]? = some c' := by simpa using h1
      rw [f] at h2; cases h2
      exact ⟨G', Stt.refl s2 bg, .str [c]⟩
structure XI (X : Cx) (E : XK) (tg iter : Expr) (wi : TI) (di : DI) : Prop where
  pi : PI X tg iter wi
  sim : SimI X.K E wi di
section
variable {X : Cx} {E : XK} {e a b tg : Expr} {p pos : Pos} {de : DE} {da : DA}
theorem xi_list (h : XEx X E e de) : XI X E tg e (iList X.K (cE X.K E de)) (dItems de) := ⟨pi_list h.pe, fun B G0 H0 G H σ ρ I xe lx R RR k q => sE B G0 H0 G H σ ρ I xe lx _ _ (fun v G' H' d t r z => by
  split at z
  · cases r with
    | lst a1 b1 => exact ⟨_, rfl, ⟨_, SqL.of (t.gh _ _ a1)⟩, k _ _ _ _ t (jok_list a1 b1) z⟩
  · exact z.elim) q⟩
theorem xi_tup (h : XEx X E e de) : XI X E tg e (iTup X.K (cE X.K E de)) (dItemsT de) := ⟨pi_tup h.pe, fun B G0 H0 G H σ ρ I xe lx R RR k q => sE B G0 H0 G H σ ρ I xe lx _ _ (fun v G' H' d t r z => by
  split at z
  · cases r with
    | tup a1 b1 => exact ⟨_, rfl, ⟨_, SqT.of (t.gh _ _ a1)⟩, k _ _ _ _ t (jok_tup a1 b1) z⟩
  · exact z.elim) q⟩
theorem xi_str (h : XEx X E e de) : XI X E tg e (iStr (cE X.K E de)) (dSigns de) := ⟨pi_str h.pe, fun B G0 H0 G H σ ρ I xe lx R RR k q => sE B G0 H0 G H σ ρ I xe lx _ _ (fun v G' H' d t r z => by
  split at z
  · cases r
    exact ⟨_, rfl, k _ _ _ _ t jok_str z⟩
  · exact z.elim) q⟩
theorem xi_rng1 (hg : Gl X "range") (hm : X.mg "range" = none) (h : XA X E [a] da) (hs : starEach [a] X.env = [(false, eval a X.env)] := by rfl) : XI X E tg (.Call (.Name "range" p) [a] [] pos) (iRng1 (cA X.K E da)) (dRng1 da) :=
  ⟨pi_range1 hg hm h.pa hs, fun B G0 H0 G H σ ρ I xe lx R RR k q => sA B G0 H0 G H σ ρ I xe lx _ _ (fun vs G' H' ds t r z => by
    split at z
    · cases r with
      | cons r1 r =>
        cases r; cases r1
        exact ⟨_, rfl, z.1, z.2.1, k _ _ _ _ t jok_rng z.2.2⟩
    · exact z.elim) q⟩
theorem xi_rng2 (hg : Gl X "range") (hm : X.mg "range" = none) (h : XA X E [a, b] da) (hs : starEach [a, b] X.env = [(false, eval a X.env), (false, eval b X.env)] := by rfl) (hs2 : starEach [b] X.env = [(false, eval b X.env)] := by rfl) :
    XI X E tg (.Call (.Name "range" p) [a, b] [] pos) (iRng2 (cA X.K E da)) (dRng2 da) :=
  ⟨pi_range2 hg hm h.pa hs hs2, fun B G0 H0 G H σ ρ I xe lx R RR k q => sA B G0 H0 G H σ ρ I xe lx _ _ (fun vs G' H' ds t r z => by
    split at z
    · cases r with
      | cons r1 r =>
        cases r with
        | cons r2 r =>
          cases r; cases r1; cases r2
          exact ⟨_, _, rfl, z.1, k _ _ _ _ t jok_rng z.2⟩
    · exact z.elim) q⟩
end

/-! ### for -/
/-- what a for asks, its items known -/
structure forBody (dg : DG) (db : DS) (C : DEnds) (ρ : List Sl) (items : List D) : Prop where
  go : ∃ W : Nat → List Sl → Prop, W 0 ρ ∧
  (∀ (i : Nat) d ρ', items[i]? = some d → W i ρ' → dg d ρ' fun ρ2 => db { C with nx := W (i + 1), ct := W (i + 1), bk := C.nx } ρ2) ∧ ∀ ρ', W items.length ρ' → C.nx ρ'
def dFor (di : DI) (dg : DG) (db : DS) : DS := fun C ρ => di ρ C.xe (forBody dg db C ρ)
theorem sim_for {K : PySem.W.Frag} {E : XK} {wi : TI} {di : DI} {g : TG} {dg : DG} {vs : List Nat} {tb : TS} {db : DS} (hi : SimI K E wi di) (hg : SimG K g dg vs) (hb : SimS K E tb db) : SimS K E (tFor wi g tb) (dFor di dg db) :=
  fun B G0 H0 G H σ ρ I Gs sg D C l q => by
    refine hi B G0 H0 G H σ ρ I C.xe l.xe _ _ (fun J G1 H1 items t jok z => ?_) q
    obtain ⟨W, w0, hs, hd⟩ := z
    refine ⟨fun i m σ' H' => m = items.length - i ∧ i ≤ items.length ∧ ∃ G' ρ', Same G1 G' ∧ En K B G0 H0 G' H' σ' ρ' ∧ W i ρ', ⟨items.length, by simp, Nat.zero_le _, G1, ρ, Same.refl _, I.step t, w0⟩, ?_⟩
    rintro i m σ' H' ⟨rfl, hle, G', ρ', sm, I', w⟩
    have jk := jok G' H' sm I'.st.gh I'.st.bag i
    have s1 := sg.trans t.gg
    by_cases hlt : i < items.length
    · obtain ⟨go, yl⟩ := jk.1 items[i] (List.getElem?_eq_getElem hlt)
      have turn : ∀ G2 H2 σ2 ρ2, Same G1 G2 → En K B G0 H0 G2 H2 σ2 ρ2 → W (i + 1) ρ2 → ∃ m', m' < items.length - i ∧ m' = items.length - (i + 1) ∧ i + 1 ≤ items.length ∧ ∃ G' ρ', Same G1 G' ∧ En K B G0 H0 G' H2 σ2 ρ' ∧ W (i + 1) ρ' :=
        fun G2 H2 σ2 ρ2 s2 I2 w2 => ⟨items.length - (i + 1), by omega, rfl, hlt, G2, ρ2, s2, I2, w2⟩
      refine .inr ⟨go, fun σ2 H2 => ∃ G2 ρ2, Same G1 G2 ∧ En K B G0 H0 G2 H2 σ2 ρ2 ∧ W (i + 1) ρ2, fun σ2 H2 ⟨G2, ρ2, s2, I2, w2⟩ => turn G2 H2 σ2 ρ2 s2 I2 w2, fun x H2 y => ?_⟩
      obtain ⟨G2, t2, r2⟩ := yl x H2 y
      refine hg B G0 H0 G2 H2 σ' ρ' x _ (I'.step t2) r2 _ _ (fun σ3 ρ3 I3 _ z => ?_) (hs i _ ρ' (List.getElem?_eq_getElem hlt) w)
      exact hb B G0 H0 G2 H2 σ3 ρ3 I3 G1 (sm.trans t2.gg) _ { C with nx := W (i + 1), ct := W (i + 1), bk := C.nx }
        ⟨fun G4 H4 σ4 ρ4 s4 I4 w4 => ⟨G4, ρ4, s4, I4, w4⟩, fun G4 H4 σ4 ρ4 s4 I4 w4 => l.nx G4 H4 σ4 ρ4 (s1.trans s4) I4 w4, fun G4 H4 σ4 ρ4 s4 I4 w4 => ⟨G4, ρ4, s4, I4, w4⟩, l.rt, l.xe, l.rf⟩ z
    · have e : i = items.length := by omega
      subst e
      exact .inl ⟨jk.2 (Nat.le_refl _), l.nx G' H' σ' ρ' (s1.trans sm) I' (hd ρ' w)⟩
theorem xs_for {X : Cx} {E : XK} {tg iter : Expr} {body : List Stmt} {wi : TI} {di : DI} {g : TG} {dg : DG} {vs : List Nat} {db : DS} {pos : Pos} (hp : PassesOwn (model X.prog X.w) X.A X.env X.xe) (hc : X.calm = true) (hi : XI X E tg iter wi di) (hg : PG X tg g) (sg : SimG X.K g dg vs) (hb : XSs X E body db)
    (hs : ∀ x, foldedSetIterable iter X.env x = pure x := by intro _; rfl) : XS X E (.For tg iter body [] pos) (dFor di dg db) := .of (ps_for hp hc hi.pi hg hb.ps hs) (sim_for hi.sim sg sS)

/-! ### list comprehensions -/
def dwipe (ρ : List Sl) : List Nat → List Sl
  | [] => ρ
  | v :: vs => (dwipe ρ vs).set v .un
theorem En.wipe {K : PySem.W.Frag} {B : Option Addr} {G0 H0 G H : Hp} {σ : L2.St} {ρ : List Sl} (I : En K B G0 H0 G H σ ρ) : ∀ vs : List Nat, En K B G0 H0 G H (L2.wipe σ vs) (dwipe ρ vs)
  | [] => I
  | v :: vs => by
    unfold L2.wipe dwipe
    exact (En.wipe I vs).unset
/-- what a comprehension asks, its items known -/
structure lcBody (dg : DG) (dt : DT) (de : DE) (vs : List Nat) (ρ : List Sl) (R : D → Prop) (items : List D) : Prop where
  go : items.length ≤ sizeLine ∧ ∃ W : Nat → List D → Prop, W 0 [] ∧
  (∀ (i : Nat) d acc, items[i]? = some d → acc.length ≤ i → W i acc → dg d (dwipe ρ vs) fun ρ2 => dt ρ2 (fun _ => False) fun k => ifB k (de ρ2 (fun _ => False) fun y => W (i + 1) (acc ++ [y])) (W (i + 1) acc)) ∧
  ∀ acc, acc.length ≤ items.length → W items.length acc → R (.lst acc)
def dLc (di : DI) (dg : DG) (dt : DT) (de : DE) (vs : List Nat) : DE := fun ρ xe R => di ρ xe (lcBody dg dt de vs ρ R)
theorem Same.upd_new {H H' : Hp} {p : Addr} {o : HO} (s : Same H H') (h : H p = none) : Same H (upd H' p o) := fun b u e => by
  rw [upd_ne (ne_of_none e h)]; exact s b u e
theorem sim_lc {K : PySem.W.Frag} {E : XK} {wi : TI} {di : DI} {g : TG} {dg : DG} {vs : List Nat} {tt : TT} {dt : DT} {te : TE} {de : DE} (hi : SimI K E wi di) (hg : SimG K g dg vs) (ht : SimT K E0 tt dt) (he : SimE K E0 te de) : SimE K E (tLc wi g tt te vs) (dLc di dg dt de vs) :=
  fun B G0 H0 G H σ ρ I xe lx Q R k q => by
    refine hi B G0 H0 G H σ ρ I xe lx _ _ (fun J G1 H1 items t jok z => ?_) q
    obtain ⟨zl, W, w0, hs, hd⟩ := z
    intro D hD
    have I1 := I.step t
    have tD : Stt B G1 H1 G1 (upd H1 D (.lst [])) := I1.st.laid hD
    have g1D : G1 D = none := I1.st.gfree hD
    have nbD : B ≠ some D := fun e => by
      obtain ⟨_, _, _, _, _, _, h, _⟩ := I1.st.bag D e
      rw [hD] at h; cases h
    have h0D : H0 D = none := by
      cases z : H0 D with
      | none => rfl
      | some u => rw [I1.st.hh D u (fun z => nbD z.symm) z] at hD; cases hD
    -- at a turn: the state without D is that of an expression's end; D holds what is made
    refine ⟨fun i m H' => m = items.length - i ∧ i ≤ items.length ∧ ∃ G' acc vacc, Stt B G1 H1 G' H' ∧ G' D = none ∧ H' D = some (.lst vacc) ∧ Reps K G' vacc acc ∧ acc.length ≤ i ∧ W i acc,
      ⟨items.length, by simp, Nat.zero_le _, G1, [], [], ?_, g1D, upd_same, .nil, Nat.le_refl _, w0⟩, ?_⟩
    · exact tD
    rintro i m H' ⟨rfl, hle, G', acc, vacc, t', gD, hDv, ra, la, w⟩
    have jk := jok G' H' t'.gg t'.gh t'.bag i
    have put : ∀ {G2 H2 : Hp} {ws : List V}, Stt B G1 H1 G2 H2 → G2 D = none → Stt B G1 H1 G2 (upd H2 D (.lst ws)) := fun {G2 H2 ws} s g => by
      refine ⟨s.gg, fun a u h => ?_, fun a u n h => ?_, s.fr, fun b e => ?_, fun b e => ?_⟩
      · rw [upd_ne (ne_of_none h g)]; exact s.gh a u h
      · rw [upd_ne (ne_of_none h hD)]; exact s.hh a u n h
      · obtain ⟨g0, n, sd, j, c, cells, k1, k2, r⟩ := s.bag b e
        exact ⟨g0, n, sd, j, c, cells, by rw [upd_ne (fun z => nbD (by rw [e, z]))]; exact k1, k2, r⟩
      · rw [← s.bc b e]; unfold bagC; rw [upd_ne (fun z => nbD (by rw [e, z]))]
    have keepD : ∀ {G2 H2 G3 H3 : Hp} {ws : List V}, Stt B G2 H2 G3 H3 → G2 D = none → H2 D = some (.lst ws) → G3 D = none ∧ H3 D = some (.lst ws) := fun {G2 H2 G3 H3 ws} s g h => by
      refine ⟨?_, s.hh _ _ (fun z => nbD z.symm) h⟩
      cases z : G3 D with
      | none => rfl
      | some u =>
        rcases s.fr D u z with q | q
        · rw [g] at q; cases q
        · rw [h] at q; cases q
    by_cases hlt : i < items.length
    · obtain ⟨go, yl⟩ := jk.1 items[i] (List.getElem?_eq_getElem hlt)
      refine .inr ⟨go, fun H2 => ∃ G2 acc2 vacc2, Stt B G1 H1 G2 H2 ∧ G2 D = none ∧ H2 D = some (.lst vacc2) ∧ Reps K G2 vacc2 acc2 ∧ acc2.length ≤ i + 1 ∧ W (i + 1) acc2,
        fun H2 ⟨G2, acc2, vacc2, x1, x2, x3, x4, x5, x6⟩ => ⟨items.length - (i + 1), by omega, rfl, hlt, G2, acc2, vacc2, x1, x2, x3, x4, x5, x6⟩, fun x H2 y => ?_⟩
      obtain ⟨G2, t2, r2⟩ := yl x H2 y
      obtain ⟨g2D, h2D⟩ := keepD t2 gD hDv
      have Iw : En K B G0 H0 G2 H2 (L2.wipe σ vs) (dwipe ρ vs) := ((I1.step t').step t2).wipe vs
      refine hg B G0 H0 G2 H2 _ _ x _ Iw r2 _ _ (fun σ3 ρ3 I3 ew z => ?_) (hs i _ acc (List.getElem?_eq_getElem hlt) la w)
      refine ⟨by rw [ew]; exact wipe_wipe, ?_⟩
      refine ht B G0 H0 G2 H2 σ3 ρ3 I3 _ noX _ _ (fun b G4 H4 t4 z4 => ?_) z
      obtain ⟨g4D, h4D⟩ := keepD t4 g2D h2D
      cases b with
      | true =>
        show te σ3 H4 _
        refine he B G0 H0 G4 H4 σ3 ρ3 (I3.step t4) _ noX _ _ (fun v G5 H5 d t5 r5 z5 => ?_) z4
        obtain ⟨g5D, h5D⟩ := keepD t5 g4D h4D
        have all : Stt B G1 H1 G5 H5 := ((t'.trans t2).trans t4).trans t5
        have ra5 : Reps K G5 vacc acc := ra.mono ((t2.gg.trans t4.gg).trans t5.gg)
        refine ⟨vacc, h5D, ?_, G5, acc ++ [d], vacc ++ [v], put all g5D, g5D, upd_same, ra5.append (.cons r5 .nil), by rw [List.length_append]; simp; omega, z5⟩
        rw [ra.length]; omega
      | false =>
        exact ⟨G4, acc, vacc, (t'.trans t2).trans t4, g4D, h4D, ra.mono (t2.gg.trans t4.gg), by omega, z4⟩
    · have e : i = items.length := by omega
      subst e
      refine .inl ⟨jk.2 (Nat.le_refl _), ?_⟩
      -- the list stays from now on
      have sm : Same G' (upd G' D (.lst vacc)) := fun a u h => by rw [upd_ne (ne_of_none h gD)]; exact h
      refine k _ (upd G' D (.lst vacc)) H' (.lst acc) ?_ (.lst upd_same (ra.mono sm)) (hd acc la w)
      refine t.trans ⟨t'.gg.trans sm, fun a u h => ?_, t'.hh, fun a u h => ?_, fun b e => ?_, t'.bc⟩
      · by_cases z : a = D
        · subst z; rw [upd_same] at h; cases h; exact hDv
        · rw [upd_ne z] at h; exact t'.gh a u h
      · by_cases z : a = D
        · subst z; exact .inr hD
        · rw [upd_ne z] at h; exact t'.fr a u h
      · obtain ⟨g0, n, sd, j, c, cells, k1, k2, r⟩ := t'.bag b e
        exact ⟨by rw [upd_ne (fun z => nbD (by rw [e, z]))]; exact g0, n, sd, j, c, cells, k1, sm _ _ k2, r⟩
structure XTs (X : Cx) (E : XK) (ifs : List Expr) (dt : DT) : Prop where
  pts : PTs X ifs (cT X.K E dt)
def dYes : DT := fun _ _ R => R true
theorem xts_nil {X : Cx} {E : XK} : XTs X E [] dYes := ⟨⟨fun pins s σ H Q I ⟨B, G0, H0, G, ρ, xe, R, En, lx, kk, q⟩ => pts_nil.run pins s σ H Q I (kk true G H En.st.here q)⟩⟩
theorem xts_one {X : Cx} {E : XK} {c : Expr} {dt : DT} (h : XT X E c dt) : XTs X E [c] dt := ⟨pts_one h.pt⟩
theorem xLc {X : Cx} {E : XK} {elt tg iter : Expr} {ifs : List Expr} {scope : Scope} {own : List (Str × Nat)} {pos : Pos} {wi : TI} {di : DI} {g : TG} {dg : DG} {dt : DT} {de : DE} (hc : X.calm = true) (hN : X.N.Nodup) (hi : XI X E tg iter wi di) (ok : BlkOk X.N X.env.scope scope own)
    (hg : ∀ (s : Shared) (H : Hp) (C : Addr) (cl : List (Str × Addr)) (fp : List Addr), PG (X.blk s H scope (compEnvC scope cl C X.env) fp) tg g) (sg : SimG X.K g dg (own.map (·.2)))
    (ht : ∀ (s : Shared) (H : Hp) (C : Addr) (cl : List (Str × Addr)) (fp : List Addr), XTs (X.blk s H scope (compEnvC scope cl C X.env) fp) E0 ifs dt)
    (he : ∀ (s : Shared) (H : Hp) (C : Addr) (cl : List (Str × Addr)) (fp : List Addr), XEx (X.blk s H scope (compEnvC scope cl C X.env) fp) E0 elt de) (hs : ∀ x, foldedSetIterable iter X.env x = pure x := by intro _; rfl) :
    XEx X E (.ListComp elt [⟨tg, iter, ifs, 0⟩] scope pos) (dLc di dg dt de (own.map (·.2))) :=
  .of (pe_lc hc hN hi.pi ok hg (fun s H C cl fp => (ht s H C cl fp).pts) (fun s H C cl fp => (he s H C cl fp).pe) hs) (sim_lc hi.sim sg sT sE)
theorem xs_setLc {X : Cx} {E : XK} {i : Nat} {y : Str} {py : Pos} {elt tg iter : Expr} {ifs : List Expr} {scope : Scope} {own : List (Str × Nat)} {pos spos : Pos} {wi : TI} {di : DI} {g : TG} {dg : DG} {dt : DT} {de : DE} (hc : X.calm = true) (hN : X.N.Nodup) (hy : X.N[i]? = some y) (hyl : X.env.scope.names.lookup y = some .local)
    (hsw : swapsWith (.ListComp elt [⟨tg, iter, ifs, 0⟩] scope pos) (some (.Name y py)) spos.line X.env = pure true) (hi : XI X E tg iter wi di) (ok : BlkOk X.N X.env.scope scope own)
    (hg : ∀ (s : Shared) (H : Hp) (C : Addr) (cl : List (Str × Addr)) (fp : List Addr), PG (X.blk s H scope (compEnvC scope cl C X.env) fp) tg g) (sg : SimG X.K g dg (own.map (·.2)))
    (ht : ∀ (s : Shared) (H : Hp) (C : Addr) (cl : List (Str × Addr)) (fp : List Addr), XTs (X.blk s H scope (compEnvC scope cl C X.env) fp) E0 ifs dt)
    (he : ∀ (s : Shared) (H : Hp) (C : Addr) (cl : List (Str × Addr)) (fp : List Addr), XEx (X.blk s H scope (compEnvC scope cl C X.env) fp) E0 elt de) (hs : ∀ x, foldedSetIterable iter X.env x = pure x := by intro _; rfl) :
    XS X E (.Assign [.Name y py] (.ListComp elt [⟨tg, iter, ifs, 0⟩] scope pos) spos) (dAsg i (dLc di dg dt de (own.map (·.2)))) :=
  .of (ps_setLc hc hN hy hyl hsw hi.pi ok hg (fun s H C cl fp => (ht s H C cl fp).pts) (fun s H C cl fp => (he s H C cl fp).pe) hs) (sim_asg (sim_lc hi.sim sg sT sE))
end DL

namespace DL
open PySem PySem.Spec L2
open PyProof.Rows hiding St

/-! ### slices -/
def dNo : DO := fun _ _ R => R none
def dPart (de : DE) : DO := fun ρ xe R => de ρ xe fun d => match d with
  | .int i => R (some i)
  | _ => False
/-- xs[lo:hi] of a list of anything -/
def cut {α : Type} (xs : List α) (lo hi : Option Int) : List α := (xs.drop (HT.sIx xs.length 0 lo)).take (HT.sIx xs.length xs.length hi - HT.sIx xs.length 0 lo)
abbrev O3 := D → Option Int → Option Int → (D → Prop) → Prop
def oSl : O3 := fun x lo hi R => match x with
  | .lst s => R (.lst (cut s lo hi))
  | _ => False
def oSlS : O3 := fun x lo hi R => match x with
  | .str s => s.length ≤ sizeLine ∧ R (.str (cut s lo hi))
  | _ => False
def dSl (o : O3) (de : DE) (dl dh : DO) : DE := fun ρ xe R => de ρ xe fun d => dl ρ xe fun l => dh ρ xe fun h => o d l h R
def SimSl (K : PySem.W.Frag) (r : V → Option Int → Option Int → Hp → VK → Prop) (o : O3) : Prop := ∀ (B : Option Addr) (G H : Hp) (x : V) (d : D) (lo hi : Option Int), Stt B G H G H → Rep K G x d → ∀ (Q : VK) (R : D → Prop),
  (∀ v G' H' f, Stt B G H G' H' → Rep K G' v f → R f → Q v H') → o d lo hi R → r x lo hi H Q
theorem Reps.cut {K : PySem.W.Frag} {G : Hp} {vs : List V} {ds : List D} (r : Reps K G vs ds) (lo hi : Option Int) : Reps K G (cutV vs lo hi) (DL.cut ds lo hi) := by
  unfold cutV DL.cut
  rw [r.length]
  exact (r.drop _).take _
theorem sims_list {K : PySem.W.Frag} : SimSl K (rSlL K) oSl := fun B G H x d lo hi s rx Q R k q => by
  unfold oSl at q
  split at q
  · cases rx with
    | lst a1 b1 => exact ⟨_, _, rfl, SqL.of (s.gh _ _ a1), s.lst (b1.cut lo hi) k q⟩
  · exact q.elim
theorem sims_str {K : PySem.W.Frag} : SimSl K rSlS oSlS := fun B G H x d lo hi s rx Q R k q => by
  unfold oSlS at q
  split at q
  · rename_i w
    cases rx
    refine ⟨_, rfl, by simpa [Str.length] using q.1, k _ G H _ s ?_ q.2⟩
    have e : cutS ⟨w.toArray⟩ lo hi = ⟨(DL.cut w lo hi).toArray⟩ := by unfold cutS DL.cut; simp [Str.length]
    rw [e]; exact .str _
  · exact q.elim
section
variable {X : Cx} {E : XK} {e a : Expr} {lo hi : Option Expr} {de da : DE} {dl dh : DO} {p2 pos : Pos}
theorem xo_none : XO X E none dNo := .of po_none fun B G0 H0 G H σ ρ I xe lx Q R k q => k none G H I.st.here q
theorem xo_some (h : XEx X E e de) : XO X E (some e) (dPart de) := .of (po_some h.pe) fun B G0 H0 G H σ ρ I xe lx Q R k q => sE B G0 H0 G H σ ρ I xe lx _ _ (fun v G' H' d t r z => by
  split at z
  · cases r; exact ⟨_, rfl, k _ G' H' t z⟩
  · exact z.elim) q
theorem sim_sl {K : PySem.W.Frag} {r : V → Option Int → Option Int → Hp → VK → Prop} {o : O3} {te : TE} {tl th : TO} (hr : SimSl K r o) (h : SimE K E te de) (h1 : SimO K E tl dl) (h2 : SimO K E th dh) : SimE K E (tSl r te tl th) (dSl o de dl dh) :=
  fun B G0 H0 G H σ ρ I xe lx Q R k q => by
    refine h B G0 H0 G H σ ρ I xe lx _ _ (fun v G1 H1 d t1 r1 z1 => ?_) q
    refine h1 B G0 H0 G1 H1 σ ρ (I.step t1) xe lx _ _ (fun l G2 H2 t2 z2 => ?_) z1
    refine h2 B G0 H0 G2 H2 σ ρ ((I.step t1).step t2) xe lx _ _ (fun u G3 H3 t3 z3 => ?_) z2
    exact hr B G3 H3 v d l u (Stt.refl t3.gh t3.bag) (r1.mono (t2.gg.trans t3.gg)) _ _ (fun w G' H' f t4 r4 z4 => k w G' H' f (((t1.trans t2).trans t3).trans t4) r4 z4) z3
theorem xSl (h : XEx X E e de) (h1 : XO X E lo dl) (h2 : XO X E hi dh) : XEx X E (.Subscript e (.Slice lo hi none p2) pos) (dSl oSl de dl dh) := .of (pe_slice sl_list h.pe h1.po h2.po) (sim_sl sims_list sE sO sO)
theorem xSlS (h : XEx X E e de) (h1 : XO X E lo dl) (h2 : XO X E hi dh) : XEx X E (.Subscript e (.Slice lo hi none p2) pos) (dSl oSlS de dl dh) := .of (pe_slice sl_str h.pe h1.po h2.po) (sim_sl sims_str sE sO sO)
def dRev (de : DE) : DE := fun ρ xe R => de ρ xe fun d => match d with
  | .lst s => R (.lst s.reverse)
  | _ => False
theorem xRev {k : Nat} {p1 p2 p3 pos : Pos} (h : XEx X E e de) : XEx X E (.Subscript e (.Slice none none (some (.UnaryOp .USub (.Constant (.int 1) k p1) p2)) p3) pos) (dRev de) := .of (pe_revL h.pe) fun B G0 H0 G H σ ρ I xe lx Q R kk q =>
  sE B G0 H0 G H σ ρ I xe lx _ _ (fun v G' H' d t r z => by
    split at z
    · cases r with
      | lst a1 b1 => exact ⟨_, _, rfl, SqL.of (t.gh _ _ a1), (Stt.refl t.gh t.bag).lst b1.reverse (fun v G2 H2 f t2 r2 q2 => kk v G2 H2 f (t.trans t2) r2 q2) z⟩
    · exact z.elim) q
end

/-! ### calls of built-ins by values -/
abbrev OC := List D → (D → Prop) → Prop
def SimC (K : PySem.W.Frag) (r : List V → Hp → VK → Prop) (c : OC) : Prop := ∀ (B : Option Addr) (G H : Hp) (vs : List V) (ds : List D), Stt B G H G H → Reps K G vs ds → ∀ (Q : VK) (R : D → Prop),
  (∀ v G' H' f, Stt B G H G' H' → Rep K G' v f → R f → Q v H') → c ds R → r vs H Q
def dCB (c : OC) (da : DA) : DE := fun ρ xe R => da ρ xe fun ds => c ds R
theorem sim_cb {K : PySem.W.Frag} {E : XK} {r : List V → Hp → VK → Prop} {c : OC} {ta : TA} {da : DA} (hr : SimC K r c) (h : SimA K E ta da) : SimE K E (tCB r ta) (dCB c da) := fun B G0 H0 G H σ ρ I xe lx Q R k q =>
  h B G0 H0 G H σ ρ I xe lx _ _ (fun vs G' H' ds t r1 z => hr B G' H' vs ds (Stt.refl t.gh t.bag) r1 _ _ (fun v G2 H2 f t2 r2 z2 => k v G2 H2 f (t.trans t2) r2 z2) z) q
def cLen : OC := fun ds R => match ds with
  | [.str s] => s.length ≤ sizeLine ∧ R (.int s.length)
  | [.lst s] => R (.int s.length)
  | [.tup s] => R (.int s.length)
  | _ => False
def cAbs : OC := fun ds R => match ds with
  | [.int i] => R (.int (if i < 0 then -i else i))
  | _ => False
def cMax : OC := fun ds R => match ds with
  | [.int i, .int j] => R (.int (if j > i then j else i))
  | _ => False
def cMin : OC := fun ds R => match ds with
  | [.int i, .int j] => R (.int (if j < i then j else i))
  | _ => False
def cInt : OC := fun ds R => match ds with
  | [.int i] => R (.int i)
  | [.bl k] => R (.int (if k then 1 else 0))
  | _ => False
def cList : OC := fun ds R => match ds with
  | [.lst s] => R (.lst s)
  | [.tup s] => R (.lst s)
  | _ => False
theorem simc_len {K : PySem.W.Frag} : SimC K (fun xs H Q => ∃ x n, xs = [x] ∧ LenV K x H n ∧ Q (.int n) H) cLen := fun B G H vs ds s r Q R k q => by
  unfold cLen at q
  split at q
  · cases r with
    | cons r1 r =>
      cases r; cases r1
      exact ⟨_, _, rfl, ⟨by simpa [Str.length] using q.1, by simp [Str.length]⟩, k _ G H _ s (.int _) q.2⟩
  · cases r with
    | cons r1 r =>
      cases r
      cases r1 with
      | lst a1 b1 => exact ⟨_, _, rfl, .inl ⟨_, SqL.of (s.gh _ _ a1), b1.length.symm⟩, k _ G H _ s (.int _) q⟩
  · cases r with
    | cons r1 r =>
      cases r
      cases r1 with
      | tup a1 b1 => exact ⟨_, _, rfl, .inr ⟨_, SqT.of (s.gh _ _ a1), b1.length.symm⟩, k _ G H _ s (.int _) q⟩
  · exact q.elim
theorem simc_abs {K : PySem.W.Frag} : SimC K (fun xs H Q => ∃ i, xs = [.int i] ∧ Q (.int (if i < 0 then -i else i)) H) cAbs := fun B G H vs ds s r Q R k q => by
  unfold cAbs at q
  split at q
  · cases r with
    | cons r1 r => cases r; cases r1; exact ⟨_, rfl, k _ G H _ s (.int _) q⟩
  · exact q.elim
theorem simc_max {K : PySem.W.Frag} : SimC K (fun xs H Q => ∃ i j, xs = [.int i, .int j] ∧ Q (.int (if j > i then j else i)) H) cMax := fun B G H vs ds s r Q R k q => by
  unfold cMax at q
  split at q
  · cases r with
    | cons r1 r => cases r with
      | cons r2 r => cases r; cases r1; cases r2; exact ⟨_, _, rfl, k _ G H _ s (.int _) q⟩
  · exact q.elim
theorem simc_min {K : PySem.W.Frag} : SimC K (fun xs H Q => ∃ i j, xs = [.int i, .int j] ∧ Q (.int (if j < i then j else i)) H) cMin := fun B G H vs ds s r Q R k q => by
  unfold cMin at q
  split at q
  · cases r with
    | cons r1 r => cases r with
      | cons r2 r => cases r; cases r1; cases r2; exact ⟨_, _, rfl, k _ G H _ s (.int _) q⟩
  · exact q.elim
theorem simc_int {K : PySem.W.Frag} : SimC K (fun xs H Q => (∃ i, xs = [.int i] ∧ Q (.int i) H) ∨ ∃ k, xs = [.bl k] ∧ Q (.int (if k then 1 else 0)) H) cInt := fun B G H vs ds s r Q R k q => by
  unfold cInt at q
  split at q
  · cases r with
    | cons r1 r => cases r; cases r1; exact .inl ⟨_, rfl, k _ G H _ s (.int _) q⟩
  · cases r with
    | cons r1 r => cases r; cases r1; exact .inr ⟨_, rfl, k _ G H _ s (.int _) q⟩
  · exact q.elim
theorem simc_list {K : PySem.W.Frag} : SimC K (fun xs H Q => ∃ p ys, xs = [.ref p] ∧ (SqL K H p ys ∨ SqT K H p ys) ∧ ∀ l, H l = none → Q (.ref l) (upd H l (.lst ys))) cList := fun B G H vs ds s r Q R k q => by
  unfold cList at q
  split at q
  · cases r with
    | cons r1 r =>
      cases r
      cases r1 with
      | lst a1 b1 => exact ⟨_, _, rfl, .inl (SqL.of (s.gh _ _ a1)), s.lst b1 k q⟩
  · cases r with
    | cons r1 r =>
      cases r
      cases r1 with
      | tup a1 b1 => exact ⟨_, _, rfl, .inr (SqT.of (s.gh _ _ a1)), s.lst b1 k q⟩
  · exact q.elim
section
variable {X : Cx} {E : XK} {e a b : Expr} {es : List Expr} {da : DA} {de : DE} {p p' pos : Pos}
theorem xCB {x : Str} {id : String} {r : List V → Hp → VK → Prop} {c : OC} (hc : CallR X (.builtin id) r) (hr : SimC X.K r c) (hg : Gl X x) (hm : X.mg x = none) (hv : bootBuiltins x = some (.builtin id)) (ha : XA X E (e :: es) da) (hn : x ≠ "__name__" := by decide) (hdb : (x == ("__debug__" : Str)) = false := by decide)
    (he : starEach (e :: es) X.env = (false, eval e X.env) :: starEach es X.env := by rfl) (hpl : (backTo pos (starEach es X.env)).any (·.1) = false := by rfl) : XEx X E (.Call (.Name x p) (e :: es) [] pos) (dCB c da) := .of (pe_callB hc hg hm hv ha.pa hn hdb he hpl) (sim_cb hr sA)
theorem xCT {x : Str} {T : String} {r : List V → Hp → VK → Prop} {c : OC} (hc : CallR X (.type T) r) (hr : SimC X.K r c) (hg : Gl X x) (hm : X.mg x = none) (hv : bootBuiltins x = some (.type T)) (ha : XA X E (e :: es) da) (hn : x ≠ "__name__" := by decide) (hdb : (x == ("__debug__" : Str)) = false := by decide)
    (he : starEach (e :: es) X.env = (false, eval e X.env) :: starEach es X.env := by rfl) (hpl : (backTo pos (starEach es X.env)).any (·.1) = false := by rfl) : XEx X E (.Call (.Name x p) (e :: es) [] pos) (dCB c da) := .of (pe_callTy hc hg hm hv ha.pa hn hdb he hpl) (sim_cb hr sA)
theorem xLen (hg : Gl X "len") (hm : X.mg "len" = none) (ha : XEx X E e de) (he : starEach [e] X.env = (false, eval e X.env) :: starEach [] X.env := by rfl) : XEx X E (.Call (.Name "len" p) [e] [] pos) (dCB cLen (dCons de dNil)) := xCB call_len simc_len hg hm PySem.boot_len (xa_cons ha xa_nil he) (he := he)
theorem xListOf (hg : Gl X "list") (hm : X.mg "list" = none) (ha : XEx X E e de) (he : starEach [e] X.env = (false, eval e X.env) :: starEach [] X.env := by rfl) : XEx X E (.Call (.Name "list" p) [e] [] pos) (dCB cList (dCons de dNil)) := xCT call_list_of simc_list hg hm (by decide +kernel) (xa_cons ha xa_nil he) (he := he)
theorem xIntOf (hg : Gl X "int") (hm : X.mg "int" = none) (ha : XEx X E e de) (he : starEach [e] X.env = (false, eval e X.env) :: starEach [] X.env := by rfl) : XEx X E (.Call (.Name "int" p) [e] [] pos) (dCB cInt (dCons de dNil)) := xCT call_int1 simc_int hg hm (by decide +kernel) (xa_cons ha xa_nil he) (he := he)
theorem xAbs (hg : Gl X "abs") (hm : X.mg "abs" = none) (ha : XEx X E e de) (he : starEach [e] X.env = (false, eval e X.env) :: starEach [] X.env := by rfl) : XEx X E (.Call (.Name "abs" p) [e] [] pos) (dCB cAbs (dCons de dNil)) := xCB call_abs simc_abs hg hm (by decide +kernel) (xa_cons ha xa_nil he) (he := he)
theorem xMax (hc : X.calm = true) (hg : Gl X "max") (hm : X.mg "max" = none) (ha : XA X E [a, b] da) (he : starEach [a, b] X.env = (false, eval a X.env) :: starEach [b] X.env := by rfl) (hpl : (backTo pos (starEach [b] X.env)).any (·.1) = false := by rfl) : XEx X E (.Call (.Name "max" p) [a, b] [] pos) (dCB cMax da) := xCB (call_max2 hc) simc_max hg hm (by decide +kernel) ha (he := he) (hpl := hpl)
theorem xMin (hc : X.calm = true) (hg : Gl X "min") (hm : X.mg "min" = none) (ha : XA X E [a, b] da) (he : starEach [a, b] X.env = (false, eval a X.env) :: starEach [b] X.env := by rfl) (hpl : (backTo pos (starEach [b] X.env)).any (·.1) = false := by rfl) : XEx X E (.Call (.Name "min" p) [a, b] [] pos) (dCB cMin da) := xCB (call_min2 hc) simc_min hg hm (by decide +kernel) ha (he := he) (hpl := hpl)

/-! list(range(..)) -/
theorem span_rg {K : PySem.W.Frag} {G : Hp} (a b : Int) : Reps K G (rgV a b) (span a (b - a).toNat) := by
  unfold rgV span
  generalize (b - a).toNat = n
  have h : ∀ l : List Nat, Reps K G (l.map fun i => V.int (a + (i : Nat))) (l.map fun (i : Nat) => D.int (a + (i : Int))) := fun l => by
    induction l with
    | nil => exact .nil
    | cons x r ih => exact .cons (.int _) ih
  exact h _
def dListR1 (de : DE) : DE := fun ρ xe R => de ρ xe fun d => match d with
  | .int n => RgOk 0 n ∧ R (.lst (span 0 n.toNat))
  | _ => False
def dListR2 (da db : DE) : DE := fun ρ xe R => da ρ xe fun d => db ρ xe fun f => match d, f with
  | .int i, .int j => RgOk i j ∧ R (.lst (span i (j - i).toNat))
  | _, _ => False
theorem xListR1 {pl pr : Pos} (hc : X.calm = true) (hl : Gl X "list") (ml : X.mg "list" = none) (hg : Gl X "range") (hm : X.mg "range" = none) (ha : XEx X E a de) (na : starEach [a] X.env = (false, eval a X.env) :: starEach [] X.env := by rfl)
    (nb : starEach [Expr.Call (.Name "range" pr) [a] [] p'] X.env = (false, eval (Expr.Call (.Name "range" pr) [a] [] p') X.env) :: starEach [] X.env := by rfl) :
    XEx X E (.Call (.Name "list" pl) [.Call (.Name "range" pr) [a] [] p'] [] pos) (dListR1 de) := .of (pe_listRg hc hl ml (prg_1 hg hm ha.pe na) nb) fun B G0 H0 G H σ ρ I xe lx Q R kk q =>
  sE B G0 H0 G H σ ρ I xe lx _ _ (fun v G' H' d t r z => by
    split at z
    · rename_i n
      cases r
      refine ⟨n, rfl, z.1, ?_⟩
      have sp := span_rg (K := X.K) (G := G') 0 n
      rw [Int.sub_zero] at sp
      exact (Stt.refl t.gh t.bag).lst sp (fun v G2 H2 f t2 r2 q2 => kk v G2 H2 f (t.trans t2) r2 q2) z.2
    · exact z.elim) q
theorem xListR2 {db : DE} {pl pr : Pos} (hc : X.calm = true) (hl : Gl X "list") (ml : X.mg "list" = none) (hg : Gl X "range") (hm : X.mg "range" = none) (ha : XEx X E a de) (hb : XEx X E b db) (na : starEach [a, b] X.env = (false, eval a X.env) :: starEach [b] X.env := by rfl)
    (na2 : starEach [b] X.env = (false, eval b X.env) :: starEach [] X.env := by rfl) (hpl : (backTo p' (starEach [b] X.env)).any (·.1) = false := by rfl) (nb : starEach [Expr.Call (.Name "range" pr) [a, b] [] p'] X.env = (false, eval (Expr.Call (.Name "range" pr) [a, b] [] p') X.env) :: starEach [] X.env := by rfl) :
    XEx X E (.Call (.Name "list" pl) [.Call (.Name "range" pr) [a, b] [] p'] [] pos) (dListR2 de db) := .of (pe_listRg hc hl ml (prg_2 hg hm ha.pe hb.pe na na2 hpl) nb) fun B G0 H0 G H σ ρ I xe lx Q R kk q =>
  sE B G0 H0 G H σ ρ I xe lx _ _ (fun v G1 H1 d t r z => sE B G0 H0 G1 H1 σ ρ (I.step t) xe lx _ _ (fun u G2 H2 f t2 r2 z2 => by
    split at z2
    · cases r; cases r2
      exact ⟨_, _, rfl, rfl, z2.1, (Stt.refl t2.gh t2.bag).lst (span_rg _ _) (fun v G3 H3 f t3 r3 q3 => kk v G3 H3 f ((t.trans t2).trans t3) r3 q3) z2.2⟩
    · exact z2.elim) z) q
end

/-! ### data as the library's data: ==, repr -/
mutual
def toPy : D → PyData
  | .non => .none
  | .bl b => .bool b
  | .int i => .int i
  | .str s => .str ⟨s.toArray⟩
  | .lst xs => .list (toPys xs)
  | .tup xs => .tuple (toPys xs)
  | .ins _ _ _ => .none
  | .dct _ _ => .none
def toPys : List D → List PyData
  | [] => []
  | x :: xs => toPy x :: toPys xs
end
mutual
/-- no instance within -/
def plain : D → Bool
  | .ins _ _ _ => false
  | .dct _ _ => false
  | .lst xs => plains xs
  | .tup xs => plains xs
  | _ => true
def plains : List D → Bool
  | [] => true
  | x :: xs => plain x && plains xs
end
mutual
theorem Rep.dp {K : PySem.W.Frag} {G H : Hp} (g : Same G H) : ∀ {d : D} {v : V}, plain d = true → Rep K G v d → Dp K H v (toPy d)
  | .non, _, _, h => by cases h; exact .non
  | .bl _, _, _, h => by cases h; exact .bl _
  | .int _, _, _, h => by cases h; exact .int _
  | .str _, _, _, h => by cases h; exact .str _
  | .lst xs, _, p, h => by cases h with | lst a b => exact .lst (SqL.of (g _ _ a)) (Reps.dp g (by simpa only [plain] using p) b)
  | .tup xs, _, p, h => by cases h with | tup a b => exact .tup (SqT.of (g _ _ a)) (Reps.dp g (by simpa only [plain] using p) b)
  | .ins _ _ _, _, p, _ => by cases p
  | .dct _ _, _, p, _ => by cases p
theorem Reps.dp {K : PySem.W.Frag} {G H : Hp} (g : Same G H) : ∀ {ds : List D} {vs : List V}, plains ds = true → Reps K G vs ds → DpAll K H vs (toPys ds)
  | [], _, _, h => by cases h; exact .nil
  | d :: ds, _, p, h => by
    cases h with
    | cons a b =>
      simp only [plains, Bool.and_eq_true] at p
      exact .cons (Rep.dp g p.1 a) (Reps.dp g p.2 b)
end
/-- what == may be asked of -/
def eqOk (d : D) : Prop := plain d = true ∧ SeqAt.shaped (toPy d) = true
def oEq : O2 := fun x y R => eqOk x ∧ eqOk y ∧ R (.bl (PyData.eqv (toPy x) (toPy y)))
def oNe : O2 := fun x y R => eqOk x ∧ eqOk y ∧ R (.bl (!PyData.eqv (toPy x) (toPy y)))
theorem simr_eq {K : PySem.W.Frag} : SimR K (rEqD K) oEq := fun B G H x y d e s rx ry Q R k q =>
  ⟨_, _, rx.dp s.gh q.1.1, ry.dp s.gh q.2.1.1, q.1.2, q.2.1.2, k _ G H _ s (.bl _) q.2.2⟩
theorem simr_ne {K : PySem.W.Frag} : SimR K (rNeD K) oNe := fun B G H x y d e s rx ry Q R k q =>
  ⟨_, _, rx.dp s.gh q.1.1, ry.dp s.gh q.2.1.1, q.1.2, q.2.1.2, k _ G H _ s (.bl _) q.2.2⟩
theorem eqv_self {d : D} (h : SeqAt.shaped (toPy d) = true) : PyData.eqv (toPy d) (toPy d) = true := by
  have : (toPy d).canLay0 = true := by
    unfold SeqAt.shaped at h
    simp only [Bool.and_eq_true] at h
    exact h.1
  exact SeqAt.eqv_refl _ this
section
variable {X : Cx} {E : XK} {e a b : Expr} {de da db : DE} {p pos : Pos} {k : Nat}
theorem xtEq (rg : RmG k X.A) (ha : XEx X E a da) (hb : XEx X E b db) : XT X E (.Compare a [.Eq] [b] pos) (dTest (dOp oEq da db)) := xt_cmp (op_eqD rg.rm.units) simr_eq ha hb (nomark _)
theorem xtNe (rg : RmG k X.A) (ha : XEx X E a da) (hb : XEx X E b db) : XT X E (.Compare a [.NotEq] [b] pos) (dTest (dOp oNe da db)) := xt_cmp (op_neD rg.rm.units) simr_ne ha hb (nomark _)
theorem xEq (rg : RmG k X.A) (ha : XEx X E a da) (hb : XEx X E b db) : XEx X E (.Compare a [.Eq] [b] pos) (dOp oEq da db) := xe_cmp (op_eqD rg.rm.units) simr_eq ha hb (nomark _)
theorem xNe (rg : RmG k X.A) (ha : XEx X E a da) (hb : XEx X E b db) : XEx X E (.Compare a [.NotEq] [b] pos) (dOp oNe da db) := xe_cmp (op_neD rg.rm.units) simr_ne ha hb (nomark _)
/-- repr of data -/
def ReprOk (d : PyData) : Prop := d.showable = true ∧ d.hasDict = false ∧ d.depth ≤ 100 ∧ d.shown.length ≤ sizeLine
def rRepr (K : PySem.W.Frag) : List V → Hp → VK → Prop := fun xs H Q => ∃ x d, xs = [x] ∧ Dp K H x d ∧ ReprOk d ∧ Q (.str d.shown) H
theorem call_repr (rg : RmG k X.A) : CallR X (.builtin "repr") (rRepr X.K) := by
  intro pins s σ H xs us Q I r h
  obtain ⟨x, d, rfl, hd, ⟨h1, h2, h3, h4⟩, q⟩ := h
  obtain ⟨u, rfl, rx⟩ := vals1 r
  obtain ⟨as, rr⟩ := Dp.reads I d x u hd rx
  have un := rg.rm.un
  cases hd with
  | non => cases (show u = Value.none from rx); exact PySem.P.repr_of_none ⟨.str _, H, I.tok _, ⟨_, rfl⟩, by simpa only [PyData.shown] using q⟩
  | bl b => cases (show u = Value.bool b from rx); exact PySem.P.repr_of_bool ⟨.str (PyData.bool b).shown, H, I.tok _, by cases b <;> exact ⟨_, rfl⟩, q⟩
  | int i =>
    obtain ⟨t, rfl⟩ := rx
    exact PySem.P.repr_of_int (by simpa [PyData.showable] using h1) ⟨.str _, H, I.tok _, ⟨_, rfl⟩, by simpa only [PyData.shown] using q⟩
  | str y =>
    obtain ⟨t, rfl⟩ := rx
    exact PySem.P.repr_of_str ⟨.str _, H, I.tok _, ⟨_, rfl⟩, by simpa only [PyData.shown] using q⟩ (by simpa only [PyData.shown] using h4)
  | lst hs ha =>
    cases (show u = Value.ref _ from rx)
    exact repr_of_reads' rr h1 (PyData.noDict_hsm h2) rg.gd (by omega) (fun _ _ z => z) (fun h' w tk kp => ⟨.str _, H, I.kept kp, ⟨w, rfl⟩, q⟩) h4
  | tup hs ha =>
    cases (show u = Value.ref _ from rx)
    exact repr_of_reads' rr h1 (PyData.noDict_hsm h2) rg.gd (by omega) (fun _ _ z => z) (fun h' w tk kp => ⟨.str _, H, I.kept kp, ⟨w, rfl⟩, q⟩) h4
def reprOk (d : D) : Prop := plain d = true ∧ ReprOk (toPy d)
def cRepr : OC := fun ds R => match ds with
  | [d] => reprOk d ∧ R (.str (toPy d).shown.cps.toList)
  | _ => False
theorem simc_repr {K : PySem.W.Frag} : SimC K (rRepr K) cRepr := fun B G H vs ds s r Q R k q => by
  unfold cRepr at q
  split at q
  · rename_i d
    cases r with
    | cons r1 r =>
      cases r
      refine ⟨_, _, rfl, r1.dp s.gh q.1.1, q.1.2, k _ G H _ s ?_ q.2⟩
      have e : (toPy d).shown = ⟨(toPy d).shown.cps.toList.toArray⟩ := by simp
      have h : ∀ (y : Str) (l : List Nat), y = ⟨l.toArray⟩ → Rep K G (.str y) (.str l) := fun y l e => by rw [e]; exact .str _
      exact h _ _ e
  · exact q.elim
theorem xRepr (rg : RmG k X.A) (hg : Gl X "repr") (hm : X.mg "repr" = none) (ha : XEx X E e de) (he : starEach [e] X.env = (false, eval e X.env) :: starEach [] X.env := by rfl) : XEx X E (.Call (.Name "repr" p) [e] [] pos) (dCB cRepr (dCons de dNil)) :=
  xCB (call_repr rg) simc_repr hg hm (by decide +kernel) (xa_cons ha xa_nil he) (he := he)
end
/-- is None -/
def dIsN (de : DE) : DE := fun ρ xe R => de ρ xe fun d => match d with
  | .non => R (.bl true)
  | _ => R (.bl false)
def dNotN (de : DE) : DE := fun ρ xe R => de ρ xe fun d => match d with
  | .non => R (.bl false)
  | _ => R (.bl true)
theorem Rep.non_iff {K : PySem.W.Frag} {G : Hp} {v : V} {d : D} (r : Rep K G v d) : (v = .non ↔ d = .non) := by
  cases r <;> simp
section
variable {X : Cx} {E : XK} {a : Expr} {da : DE} {pos : Pos}
theorem sim_isN {K : PySem.W.Frag} {ta : TE} (h : SimE K E ta da) : SimE K E (tIsN ta) (dIsN da) := fun B G0 H0 G H σ ρ I xe lx Q R k q => h B G0 H0 G H σ ρ I xe lx _ _ (fun v G' H' d t r z => by
  have e := r.non_iff
  split at z
  · rename_i hd
    rw [decide_eq_true (e.mpr rfl)]
    exact k _ G' H' _ t (.bl _) z
  · rename_i hd
    rw [decide_eq_false (fun x => hd (e.mp x))]
    exact k _ G' H' _ t (.bl _) z) q
theorem sim_notN {K : PySem.W.Frag} {ta : TE} (h : SimE K E ta da) : SimE K E (tNotN ta) (dNotN da) := fun B G0 H0 G H σ ρ I xe lx Q R k q => h B G0 H0 G H σ ρ I xe lx _ _ (fun v G' H' d t r z => by
  have e := r.non_iff
  split at z
  · rename_i hd
    rw [decide_eq_true (e.mpr rfl)]
    exact k _ G' H' _ t (.bl _) z
  · rename_i hd
    rw [decide_eq_false (fun x => hd (e.mp x))]
    exact k _ G' H' _ t (.bl _) z) q
theorem xIsN {j pos'} (ha : XEx X E a da) : XEx X E (.Compare a [.Is] [.Constant .none j pos'] pos) (dIsN da) := .of (pe_cmp (pc_isN ha.pe)) (sim_isN sE)
theorem xNotN {j pos'} (ha : XEx X E a da) : XEx X E (.Compare a [.IsNot] [.Constant .none j pos'] pos) (dNotN da) := .of (pe_cmp (pc_notN ha.pe)) (sim_notN sE)
theorem xtIsN {j pos'} (ha : XEx X E a da) : XT X E (.Compare a [.Is] [.Constant .none j pos'] pos) (dTest (dIsN da)) := .of (pt_cmp (pc_isN ha.pe)) (sim_B (sim_isN sE))
theorem xtNotN {j pos'} (ha : XEx X E a da) : XT X E (.Compare a [.IsNot] [.Constant .none j pos'] pos) (dTest (dNotN da)) := .of (pt_cmp (pc_notN ha.pe)) (sim_B (sim_notN sE))
/-- and, or of truth values as values -/
def dAndV (da db : DE) : DE := fun ρ xe R => da ρ xe fun d => match d with
  | .bl k => ifB k (db ρ xe R) (R (.bl false))
  | _ => False
def dOrV (da db : DE) : DE := fun ρ xe R => da ρ xe fun d => match d with
  | .bl k => ifB k (R (.bl true)) (db ρ xe R)
  | _ => False
def dNotV (da : DE) : DE := fun ρ xe R => da ρ xe fun d => match d with
  | .bl k => R (.bl (!k))
  | _ => False
theorem sim_andV {K : PySem.W.Frag} {ta tb : TE} {db : DE} (h : SimE K E ta da) (h2 : SimE K E tb db) : SimE K E (tAndV ta tb) (dAndV da db) := fun B G0 H0 G H σ ρ I xe lx Q R k q => h B G0 H0 G H σ ρ I xe lx _ _ (fun v G' H' d t r z => by
  split at z
  · rename_i kk
    cases r
    cases kk with
    | true => exact ⟨true, rfl, h2 B G0 H0 G' H' σ ρ (I.step t) xe lx _ _ (fun v G2 H2 d t2 r2 z2 => k v G2 H2 d (t.trans t2) r2 z2) z⟩
    | false => exact ⟨false, rfl, k _ G' H' _ t (.bl _) z⟩
  · exact z.elim) q
theorem sim_orV {K : PySem.W.Frag} {ta tb : TE} {db : DE} (h : SimE K E ta da) (h2 : SimE K E tb db) : SimE K E (tOrV ta tb) (dOrV da db) := fun B G0 H0 G H σ ρ I xe lx Q R k q => h B G0 H0 G H σ ρ I xe lx _ _ (fun v G' H' d t r z => by
  split at z
  · rename_i kk
    cases r
    cases kk with
    | true => exact ⟨true, rfl, k _ G' H' _ t (.bl _) z⟩
    | false => exact ⟨false, rfl, h2 B G0 H0 G' H' σ ρ (I.step t) xe lx _ _ (fun v G2 H2 d t2 r2 z2 => k v G2 H2 d (t.trans t2) r2 z2) z⟩
  · exact z.elim) q
theorem sim_notV {K : PySem.W.Frag} {ta : TE} (h : SimE K E ta da) : SimE K E (tNotV ta) (dNotV da) := fun B G0 H0 G H σ ρ I xe lx Q R k q => h B G0 H0 G H σ ρ I xe lx _ _ (fun v G' H' d t r z => by
  split at z
  · cases r; exact ⟨_, rfl, k _ G' H' _ t (.bl _) z⟩
  · exact z.elim) q
theorem xv_one {op} (h : XEx X E a da) : XEx X E (.BoolOp op [a] pos) da := .of (pe_one h.pe) sE
theorem xv_and {b : Expr} {rest : List Expr} {db : DE} (ha : XEx X E a da) (hb : XEx X E (.BoolOp .And (b :: rest) pos) db) : XEx X E (.BoolOp .And (a :: b :: rest) pos) (dAndV da db) := .of (pe_and ha.pe hb.pe) (sim_andV sE sE)
theorem xv_or {b : Expr} {rest : List Expr} {db : DE} (ha : XEx X E a da) (hb : XEx X E (.BoolOp .Or (b :: rest) pos) db) : XEx X E (.BoolOp .Or (a :: b :: rest) pos) (dOrV da db) := .of (pe_or ha.pe hb.pe) (sim_orV sE sE)
theorem xv_not (ha : XEx X E a da) : XEx X E (.UnaryOp .Not a pos) (dNotV da) := .of (pe_not ha.pe) (sim_notV sE)
def oNeg : D → (D → Prop) → Prop := fun x R => match x with
  | .int i => R (.int (-i))
  | _ => False
def dNeg (da : DE) : DE := fun ρ xe R => da ρ xe fun d => oNeg d R
theorem xNeg (ha : XEx X E a da) : XEx X E (.UnaryOp .USub a pos) (dNeg da) := .of (pe_un un_neg ha.pe) fun B G0 H0 G H σ ρ I xe lx Q R k q => sE B G0 H0 G H σ ρ I xe lx _ _ (fun v G' H' d t r z => by
  unfold oNeg at z
  split at z
  · cases r; exact ⟨_, rfl, k _ G' H' _ t (.int _) z⟩
  · exact z.elim) q
end
end DL

namespace DL
open PySem PySem.Spec L2
open PyProof.Rows hiding St

/-! ### owned lists -/
def dNewO (i : Nat) : DS := fun C ρ => C.nx (ρ.set i (.own []))
/-- x = list(e): owned -/
def dListO (i : Nat) (de : DE) : DS := fun C ρ => de ρ C.xe fun d => match d with
  | .lst s => C.nx (ρ.set i (.own s))
  | .tup s => C.nx (ρ.set i (.own s))
  | _ => False
def dApp (i : Nat) (de : DE) : DS := fun C ρ => match ρ[i]? with
  | some (.own ds) => ds.length < sizeLine ∧ de ρ C.xe fun d => C.nx (ρ.set i (.own (ds ++ [d])))
  | _ => False
/-- x[j] = e -/
def dPut (i : Nat) (de dj : DE) : DS := fun C ρ => match ρ[i]? with
  | some (.own ds) => de ρ C.xe fun d => dj ρ C.xe fun j => match j with
    | .int z => ∃ n, ixN ds.length z = some n ∧ C.nx (ρ.set i (.own (ds.set n d)))
    | _ => False
  | _ => False
section
variable {X : Cx} {E : XK} {e a : Expr} {de dj db : DE} {pos : Pos}
theorem sim_newO {K : PySem.W.Frag} {i : Nat} : SimS K E (tAsg (tLst tNil) (gName i)) (dNewO i) := fun B G0 H0 G H σ ρ I Gs sg D C l q =>
  ⟨Nat.zero_le _, fun p hp => l.nx _ _ _ _ sg (I.lay .nil hp) q⟩
theorem xs_newO {i : Nat} {x : Str} {pl pos' : Pos} (hN : X.N.Nodup) (hi : X.N[i]? = some x) (hx : Loc X.env.scope x) (hs : swapsWith (.List [] pl) (some (.Name x pos')) pos.line X.env = pure false := by rfl) (hf : X.fn x = true ∨ X.env.scope.names.lookup x = some .local := by first | exact .inl rfl | exact .inr rfl | assumption) :
    XS X E (.Assign [.Name x pos'] (.List [] pl) pos) (dNewO i) := .of (ps_set hN hi hx (pe_lst pa_nil) hs hf) sim_newO
theorem sim_listO {K : PySem.W.Frag} {i : Nat} {ta : TE} {id : List V → Hp → VK → Prop} (hid : ∀ p ys H Q, (SqL K H p ys ∨ SqT K H p ys) → (∀ l, H l = none → Q (.ref l) (upd H l (.lst ys))) → id [.ref p] H Q) (h : SimE K E ta de) : SimS K E (tAsg (tCB id (tCons ta tNil)) (gName i)) (dListO i de) := fun B G0 H0 G H σ ρ I Gs sg D C l q =>
  h B G0 H0 G H σ ρ I C.xe l.xe _ _ (fun v G' H' d t r z => by
    split at z
    · cases r with
      | lst a1 b1 => exact hid _ _ _ _ (.inl (SqL.of (t.gh _ _ a1))) fun p hp => l.nx _ _ _ _ (sg.trans t.gg) ((I.step t).lay b1 hp) z
    · cases r with
      | tup a1 b1 => exact hid _ _ _ _ (.inr (SqT.of (t.gh _ _ a1))) fun p hp => l.nx _ _ _ _ (sg.trans t.gg) ((I.step t).lay b1 hp) z
    · exact z.elim) q
theorem xs_listO {i : Nat} {x : Str} {p pc pos' : Pos} (hN : X.N.Nodup) (hi : X.N[i]? = some x) (hx : Loc X.env.scope x) (hg : Gl X "list") (hm : X.mg "list" = none) (ha : XEx X E e de) (he : starEach [e] X.env = (false, eval e X.env) :: starEach [] X.env := by rfl)
    (hs : swapsWith (.Call (.Name "list" p) [e] [] pc) (some (.Name x pos')) pos.line X.env = pure false := by rfl) (hf : X.fn x = true ∨ X.env.scope.names.lookup x = some .local := by first | exact .inl rfl | exact .inr rfl | assumption) :
    XS X E (.Assign [.Name x pos'] (.Call (.Name "list" p) [e] [] pc) pos) (dListO i de) :=
  .of (ps_set hN hi hx (pe_callTy call_list_of hg hm (by decide +kernel) (pa_cons ha.pe pa_nil he) (he := he)) hs hf) (sim_listO (fun p ys H Q h k => ⟨p, ys, rfl, h, k⟩) sE)
theorem sim_app {K : PySem.W.Frag} {i : Nat} {te : TE} (h : SimE K E te de) : SimS K E (tDrop (tBM K "list" rAppend (tVar i) (tCons te tNil))) (dApp i de) := fun B G0 H0 G H σ ρ I Gs sg D C l q => by
  unfold dApp at q
  split at q
  · rename_i ds e
    obtain ⟨p, vs, h1, h2, h3, h4, h5, h6⟩ := I.owned e
    refine ⟨.ref p, h1, .inl ⟨rfl, _, SqL.of h2⟩, ?_⟩
    refine h B G0 H0 G H σ ρ I C.xe l.xe _ _ (fun v G' H' d t r z => ?_) q.2
    have I' := I.step t
    have h2' : H' p = some (.lst vs) := t.hh _ _ (fun z => h6 z.symm) h2
    exact ⟨p, vs, v, rfl, rfl, h2', by rw [h3.length]; exact q.1, l.nx _ _ _ _ (sg.trans t.gg) (I'.put e h1 ((h3.mono t.gg).append (.cons r .nil))) z⟩
  · exact q.elim
theorem xs_app {i : Nat} {c : Expr} (h : PE X c (tBM X.K "list" rAppend (tVar i) (tCons (cE X.K E de) tNil))) (hs : swapsWith c none pos.line X.env = pure false := by rfl) : XS X E (.Expr c pos) (dApp i de) := .of (ps_expr h hs) (sim_app sE)
theorem sim_put {K : PySem.W.Frag} {i : Nat} {te tj : TE} (h : SimE K E te de) (hj : SimE K E tj dj) : SimS K E (tAsg te (gSub (tVar i) tj rSetL)) (dPut i de dj) := fun B G0 H0 G H σ ρ I Gs sg D C l q => by
  unfold dPut at q
  split at q
  · rename_i ds e
    obtain ⟨p, vs, h1, h2, h3, h4, h5, h6⟩ := I.owned e
    refine h B G0 H0 G H σ ρ I C.xe l.xe _ _ (fun v G1 H1 d t r z => ?_) q
    refine ⟨.ref p, h1, ?_⟩
    refine hj B G0 H0 G1 H1 σ ρ (I.step t) C.xe l.xe _ _ (fun u G2 H2 f t2 r2 z2 => ?_) z
    split at z2
    · rename_i k
      cases r2
      obtain ⟨n, e2, z2⟩ := z2
      have h2' : H2 p = some (.lst vs) := (t.trans t2).hh _ _ (fun z => h6 z.symm) h2
      exact ⟨p, vs, k, n, rfl, rfl, h2', by rw [h3.length]; exact e2, l.nx _ _ _ _ ((sg.trans t.gg).trans t2.gg) (((I.step t).step t2).put e h1 (Reps.set (r.mono t2.gg) n (h3.mono (t.gg.trans t2.gg)))) z2⟩
    · exact z2.elim
  · exact q.elim
theorem xs_put {i : Nat} {x : Str} {p pt : Pos} (hv : PE X (.Name x p) (tVar i)) (he : XEx X E e de) (hj : XEx X E a dj) (hg : PG X (.Subscript (.Name x p) a pt) (gSub (tVar i) (cE X.K E dj) rSetL)) (hs : swapsWithSole [.Subscript (.Name x p) a pt] e pos.line X.env = pure false := by rfl)
    (hw : swappedStores [.Subscript (.Name x p) a pt] e X.env = pure none := by rfl) (h1 : (assignEach [.Subscript (.Name x p) a pt] X.env).map (·.2) = [assign (.Subscript (.Name x p) a pt) X.env] := by rfl) :
    XS X E (.Assign [.Subscript (.Name x p) a pt] e pos) (dPut i de dj) := .of (ps_asg he.pe hg hs hw h1) (sim_put sE sE)
/-- a, b = [], y -/
theorem sim_parO {K : PySem.W.Frag} {i j : Nat} {tb : TE} (hij : i ≠ j) (h : SimE K E tb db) : SimS K E (tPar i j (tCons (tLst tNil) (tCons tb tNil))) (dParO i j db) := fun B G0 H0 G H σ ρ I Gs sg D C l q =>
  ⟨Nat.zero_le _, fun p hp => by
    -- the new list is laid, in no slot yet
    have t : Stt B G H G (upd H p (.lst [])) := I.st.laid hp
    have I1 := I.lay (i := i) (ds := []) (vs := []) .nil hp
    have I0 := I.step t
    refine h B G0 H0 G (upd H p (.lst [])) σ ρ I0 C.xe l.xe _ _ (fun v G' H' d t2 r z => ?_) q
    exact ⟨_, v, rfl, l.nx _ _ _ _ (sg.trans t2.gg) ((I1.step t2).set r) z⟩⟩
theorem xs_parO {i j : Nat} {x y : Str} {b : Expr} {px py pt pl : Pos} {kt k2 pt2} (hc : X.calm = true) (hN : X.N.Nodup) (hi : X.N[i]? = some x) (hj : X.N[j]? = some y) (hij : i ≠ j)
    (hx : X.env.scope.names.lookup x = some .local) (hy : X.env.scope.names.lookup y = some .local) (hb : XEx X E b db)
    (hw : swappedStores [.Tuple [.Name x px, .Name y py] kt pt] (.Tuple [.List [] pl, b] k2 pt2) X.env = pure (some [x, y]) := by rfl)
    (hs : swapsWithSole [.Tuple [.Name x px, .Name y py] kt pt] (.Tuple [.List [] pl, b] k2 pt2) pos.line X.env = pure false := by rfl)
    (h1 : starEach [.List [] pl, b] X.env = (false, eval (.List [] pl) X.env) :: starEach [b] X.env := by rfl) (h2 : starEach [b] X.env = (false, eval b X.env) :: starEach [] X.env := by rfl) :
    XS X E (.Assign [.Tuple [.Name x px, .Name y py] kt pt] (.Tuple [.List [] pl, b] k2 pt2) pos) (dParO i j db) := .of (ps_par hc hN hi hj hij hx hy (pa_cons (pe_lst pa_nil) (pa_cons hb.pe pa_nil h2) h1) hw hs) (sim_parO hij sE)
end

/-! ### a def by its body's reading over data -/
def uns (n : Nat) : List Sl := List.replicate n .un
theorem passD {P : Program} {w : World} {K : PySem.W.Frag} {mg : Str → Option Value} {base : Heap} {N : List Str} {qual : Str} {sc : Scope} {f : Addr} {cv : Value} {A : Around} {o : List Env} {s : Shared} {H : Hp} {E : XK} :
    Passes (L2.CX P w) (cxOf (L2.CX P w) P w K mg base N qual sc f cv A o s H E) E := passes_call (takes_of rfl rfl rfl rfl) fun _ _ _ _ h => h
theorem sl_start {K : PySem.W.Frag} {B : Option Addr} {G H : Hp} {vs : List V} {ds : List D} (r : Reps K G vs ds) : Paired (SlOk K B H G H) (vs.map some) (ds.map Sl.dd) := by
  induction vs generalizing ds with
  | nil => cases r; exact .nil
  | cons v vs ih => cases r with | cons a b => exact .cons (.dd a) (ih b)
theorem sl_uns {K : PySem.W.Frag} {B : Option Addr} {H0 G H : Hp} : ∀ n : Nat, Paired (SlOk K B H0 G H) (List.replicate n none) (uns n)
  | 0 => .nil
  | n + 1 => .cons .un (sl_uns n)
theorem papp {α β : Type} {F : α → β → Prop} : ∀ {l l' : List α} {r r' : List β}, Paired F l r → Paired F l' r' → Paired F (l ++ l') (r ++ r')
  | _, _, _, _, .nil, h => h
  | _, _, _, _, .cons a t, h => .cons a (papp t h)
theorem no_own {ds : List D} {n i : Nat} {x : List D} : (ds.map Sl.dd ++ uns n)[i]? ≠ some (Sl.own x) := fun e => by
  rcases List.mem_append.mp (List.mem_of_getElem? e) with m | m
  · obtain ⟨d, _, z⟩ := List.mem_map.mp m
    cases z
  · have := List.eq_of_mem_replicate m
    cases this
theorem en_start {K : PySem.W.Frag} {B : Option Addr} {G H : Hp} {vs : List V} {ds : List D} {N : List Str} (st : Stt B G H G H) (r : Reps K G vs ds) : En K B G H G H (start N vs) (ds.map Sl.dd ++ uns (N.length - vs.length)) :=
  ⟨st, papp (sl_start r) (sl_uns _), fun i j p x y e => absurd e no_own⟩
theorem en_startB {K : PySem.W.Frag} {b : Addr} {G H : Hp} {vs : List V} {ds : List D} {N : List Str} (st : Stt (some b) G H G H) (r : Reps K G vs ds) : En K (some b) G H G H (start N (.ref b :: vs)) (.bg :: ds.map Sl.dd ++ uns (N.length - (vs.length + 1))) := by
  refine ⟨st, papp (.cons (.bg rfl) (sl_start r)) (sl_uns _), fun i j p x y e => ?_⟩
  cases i with
  | zero => cases e
  | succ i => exact absurd (show (ds.map Sl.dd ++ uns (N.length - (vs.length + 1)))[i]? = some (Sl.own x) from e) no_own
section
variable {P : Program} {w : World} {K : PySem.W.Frag} {mg : Str → Option Value} {base : Heap} {x qual : Str} {st : Stmt} {f : Addr} {fd : FuncData} {N ps : List Str} {k : Nat} {S : DSp} {body : DS}
/-- what a body shows of a promise -/
def OkN (m n : Nat) (S : DSp) (body : DS) : Prop := ∀ ds xe R, S ds xe R → ds.length = m ∧ body { nx := fun _ => R .non, rt := R, xe := xe } (ds.map Sl.dd ++ uns (n - m))
def OkB (m n : Nat) (S : DSp) (body : DS) : Prop := ∀ ds xe R, S ds xe R → ds.length = m ∧ body { nx := fun _ => R .non, rt := R, xe := xe } (.bg :: ds.map Sl.dd ++ uns (n - (m + 1)))
theorem okN {m n : Nat} (F : Fun K x qual st f fd) (Z : FnScope N ps (defScope st)) (hm : ps.length = m) (hn : N.length = n) (hS : OkN m n S body)
    (hb : ∀ (cv : Value) (A : Around) (o : List Env) (s : Shared) (H : Hp) (E : XK), RmG k (A.deeper (envOfC qual (defScope st) s.heap.objs.size f cv)) → XSs (cxOf (L2.CX P w) P w K mg base N qual (defScope st) f cv A o s H E) E (defBody st) body) :
    FnG P w K mg base (k + 1) f fd ps (spN K S) := by
  refine Fun.okG F Z (fun vs H Q E h => ?_) fun cv A o s H vs Q E rg h => ?_
  · obtain ⟨B, G, ds, xe, R, r, st, lx, hs, q⟩ := h
    rw [r.length, hm]; exact (hS ds xe R hs).1
  · obtain ⟨B, G, ds, xe, R, r, st, lx, hs, q⟩ := h
    obtain ⟨hl, hd⟩ := hS ds xe R hs
    refine ⟨_, (hb cv A o s H E rg).ps, B, G, H, G, G, _, { nx := fun _ => R .non, rt := R, xe := xe }, en_start st r, Same.refl _, ⟨fun G' H' σ ρ sg I z => ?_, fun _ _ _ _ _ _ z => z.elim, fun _ _ _ _ _ _ z => z.elim, fun v d G' H' t rv z => q v G' H' d t rv z, lx, fun _ _ _ _ _ _ _ z => z.elim⟩, ?_⟩
    · exact q _ G' H' _ I.st .non z
    · rw [hn, r.length, hl]; exact hd
theorem okB {m n : Nat} (F : Fun K x qual st f fd) (Z : FnScope N ps (defScope st)) (hm : ps.length = m + 1) (hn : N.length = n) (hS : OkB m n S body)
    (hb : ∀ (cv : Value) (A : Around) (o : List Env) (s : Shared) (H : Hp) (E : XK), RmG k (A.deeper (envOfC qual (defScope st) s.heap.objs.size f cv)) → XSs (cxOf (L2.CX P w) P w K mg base N qual (defScope st) f cv A o s H E) E (defBody st) body) :
    FnG P w K mg base (k + 1) f fd ps (spB K S) := by
  refine Fun.okG F Z (fun vs H Q E h => ?_) fun cv A o s H vs Q E rg h => ?_
  · obtain ⟨b, vs', G, ds, xe, R, rfl, r, st, lx, hs, q⟩ := h
    rw [List.length_cons, r.length, hm, (hS ds xe R hs).1]
  · obtain ⟨b, vs', G, ds, xe, R, rfl, r, st, lx, hs, q⟩ := h
    obtain ⟨hl, hd⟩ := hS ds xe R hs
    refine ⟨_, (hb cv A o s H E rg).ps, some b, G, H, G, G, _, { nx := fun _ => R .non, rt := R, xe := xe }, en_startB st r, Same.refl _, ⟨fun G' H' σ ρ sg I z => ?_, fun _ _ _ _ _ _ z => z.elim, fun _ _ _ _ _ _ z => z.elim, fun v d G' H' t rv z => q v G' H' d t rv z, lx, fun _ _ _ _ _ _ _ z => z.elim⟩, ?_⟩
    · exact q _ G' H' _ I.st .non z
    · rw [hn, r.length, hl]; exact hd
end
end DL

namespace DL
open PySem PySem.Spec L2
open PyProof.Rows hiding St

/-! ### the bag of draws: made of the script, drawn from -/
section
variable {X : Cx}
def rGetL (K : PySem.W.Frag) : V → V → Hp → VK → Prop := fun x y H Q => ∃ (p : Addr) (xs : List V) (j : Nat) (v : V), x = .ref p ∧ y = .int (j : Int) ∧ SqL K H p xs ∧ xs[j]? = some v ∧ Q v H
theorem get_list : PGet X (rGetL X.K) := by
  intro pins s σ H o i ov iv Q I ro ri h
  obtain ⟨p, xs, j, v, rfl, rfl, hq, he, q⟩ := h
  cases ro
  obtain ⟨t, rfl⟩ := ri
  obtain ⟨its, r, pl, hz⟩ := I.list hq
  obtain ⟨u, hu, ru⟩ := r.get he
  have lt := (List.getElem?_eq_some_iff.mp hu).1
  have hl := r.length
  have hn := line63
  exact wpAny_getItem_list pl.isList (by omega) (by omega) (x := u) (by simpa using hu) ⟨v, H, I, ru, q⟩
end
abbrev rMulI : R2 := rI CMul fun i j => .int (i * j)
abbrev rModI : R2 := rI (fun _ j => 0 < j) fun i j => .int (i % j)
abbrev rDivI : R2 := rI CDivW fun i j => .int (i / j)
abbrev rAddI : R2 := rI0 fun i j => .int (i + j)
abbrev tI (i : Int) : TE := tC (.int i)
abbrev tB_ (K : PySem.W.Frag) (i : Int) : TE := tOp (rIxL K) (tVar 0) (tI i)
/-- its second half -/
def tHalf (K : PySem.W.Frag) : TS :=
  (tSeq (tIfS (tTest (tOp (rI0 fun i j => .bl (decide (j < i))) (tB_ K 0) (tI 0)))
    (tSeq (tAsg (tOp rModI (tB_ K 0) (tVar 1)) (gName 3))
    (tSeq (tAsg (tOp rDivI (tB_ K 0) (tVar 1)) (gSub (tVar 0) (tI 0) rSetL))
      (tRet (tVar 3)))) tNext)
  (tSeq (tAsg (tOp rModI (tOp rMulI (tOp rAddI (tB_ K 1) (tI 1)) (tI 39373)) (tI 1000000007)) (gName 4))
  (tSeq (tAsg (tOp rModI (tOp rMulI (tOp rModI (tOp rMulI (tVar 4) (tVar 4)) (tI 998244353)) (tI 30011)) (tI 998244353)) (gName 5))
  (tSeq (tIfS (tTest (tOp (rI0 fun i j => .bl (decide (j < i))) (tVar 1) (tI 1000000))) (tRet (tOp rModI (tOp rAddI (tOp rMulI (tVar 5) (tI 1000000007)) (tVar 4)) (tVar 1))) tNext)
    (tRet (tOp rModI (tOp rDivI (tVar 5) (tI 7)) (tVar 1)))))))
/-- the body of the draw -/
def tTake (K : PySem.W.Frag) : TS :=
  tSeq (tIfS (tTest (tOp rEq (tB_ K 0) (tI 0)))
    (tSeq (tAsg (tI 0) (gName 2))
    (tSeq (tIfS (tTest (tOp (rI0 fun i j => .bl (decide (i < j))) (tB_ K 2) (tCB (fun xs H Q => ∃ p ys, xs = [.ref p] ∧ (SqL K H p ys ∨ SqT K H p ys) ∧ Q (.int ys.length) H) (tCons (tB_ K 3) tNil))))
      (tAsg (tOp (rIxL K) (tB_ K 3) (tB_ K 2)) (gName 2)) tNext)
    (tSeq (tAugS (tVar 0) (tI 2) (tI 1) (rGetL K) (ipI fun i j => i + j) rSetL)
    (tSeq (tIfS (tTest (tOp (rI0 fun i j => .bl (decide (j ≤ i))) (tVar 2) (tI 1000000000000000000))) (tAsg (tVar 2) (gSub (tVar 0) (tI 0) rSetL)) tNext)
      (tAsg (tOp rModI (tOp rAddI (tOp rAddI (tOp rMulI (tB_ K 1) (tI 48271)) (tOp rModI (tVar 2) (tI 2147483647))) (tOp rMulI (tI 7919) (tB_ K 2))) (tI 2147483647)) (gSub (tVar 0) (tI 1) rSetL)))))) tNext)
  (tHalf K)
/-- a draw gives anything below its bound -/
def sTake : DSp := fun ds _ R => ∃ m : Int, ds = [.int m] ∧ 0 < m ∧ m < 10 ^ 120 ∧ ∀ v : Int, 0 ≤ v → v < m → R (.int v)
def bagV (n s i : Int) (c : Addr) : HO := .lst [.int n, .int s, .int i, .ref c]
theorem bag_put {b : Addr} {G0 H0 G H : Hp} (st : Stt (some b) G0 H0 G H) {n s i n' s' i' : Int} {c : Addr} {cells : List Int} (hb : H b = some (bagV n s i c)) (hc : G c = some (.lst (cells.map V.int))) (h1 : 0 ≤ n') (h2 : 0 ≤ s') (h3 : s' < 2147483647) (h4 : 0 ≤ i') (h5 : ∀ x ∈ cells, 0 ≤ x) (h6 : cells.length ≤ 63) :
    Stt (some b) G H G (upd H b (bagV n' s' i' c)) := by
  have g0 := st.b0 rfl
  refine ⟨Same.refl _, fun a u h => ?_, fun a u nb h => ?_, fun a u h => .inl h, fun b' e => ?_, fun b' e => ?_⟩
  · rw [upd_ne (fun z => by subst z; rw [g0] at h; cases h)]; exact st.gh a u h
  · rw [upd_ne (fun z => nb (by rw [z]))]; exact h
  · cases e
    exact ⟨g0, n', s', i', c, cells, upd_same, hc, h1, h2, h3, h4, h5, h6⟩
  · cases e
    unfold bagC
    rw [upd_same, hb]
    rfl
theorem cmul_small {a b : Int} (h0 : 0 ≤ a) (h1 : a < 18446744073709551616) : CMul a b := .inl ⟨by have : (0 : Int) < 2 ^ 64 := by decide
                                                                                                   omega, by have : (2 : Int) ^ 64 = 18446744073709551616 := by decide
                                                                                                             omega⟩
theorem cdiv_wide {i m : Int} (h : 0 < m) (h2 : m < 10 ^ 120) : CDivW i m := by
  refine wide_div (b := 400) h ?_ (by decide) (by decide)
  have e : (10 ^ 120 : Nat) < 2 ^ 400 := by decide +kernel
  refine Nat.lt_trans ?_ e
  omega
theorem modlt {a m : Int} (h : 0 < m) : 0 ≤ a % m ∧ a % m < m := ⟨Int.emod_nonneg _ (by omega), Int.emod_lt_of_pos _ h⟩
theorem take_read {K : PySem.W.Frag} {vs : List V} {H : Hp} {Q : VK} {E : XK} (h : spB K sTake vs H Q E) : tTake K { nx := fun _ H' => Q .non H', rt := Q } (start ["_law_bag_here", "_law_many", "_law_cell", "_law_value", "_law_first", "_law_second"] vs) H := by
  obtain ⟨b, vs', G, ds, xe, R, rfl, r, st, lx, ⟨m, rfl, m0, m1, hR⟩, q⟩ := h
  cases r with
  | cons r1 r =>
    cases r
    cases r1
    obtain ⟨g0, n, s, i, c, cells, hb, hc, n0, s0, s1, i0, cp, cl⟩ := st.bag b rfl
    -- the second half, from any bag with a drawn seed
    have half : ∀ (H1 : Hp) (n s i : Int) (y2 : Option V), Stt (some b) G H G H1 → H1 b = some (bagV n s i c) → 0 ≤ n → 0 ≤ s → s < 2147483647 → 0 ≤ i →
        tHalf K { nx := fun _ H' => Q .non H', rt := Q } [some (.ref b), some (.int m), y2, none, none, none] H1 := by
      intro H1 n s i y2 t hb n0 s0 s1 i0
      have L : SqL K H1 b [.int n, .int s, .int i, .ref c] := SqL.of hb
      have fin : ∀ (v : Int) (H2 : Hp), Stt (some b) G H G H2 → 0 ≤ v → v < m → Q (.int v) H2 := fun v H2 t2 h0 h1 => q _ G H2 _ t2 (.int v) (hR v h0 h1)
      refine ⟨_, rfl, b, _, 0, _, rfl, rfl, L, atI_nat (j := 0) rfl, n, 0, rfl, rfl, _, rfl, ite2 (fun e => ?_) fun e => ?_⟩
      · refine ⟨_, rfl, b, _, 0, _, rfl, rfl, L, atI_nat (j := 0) rfl, _, rfl, n, m, rfl, rfl, m0, ?_⟩
        refine ⟨_, rfl, b, _, 0, _, rfl, rfl, L, atI_nat (j := 0) rfl, _, rfl, n, m, rfl, rfl, cdiv_wide m0 m1, ?_⟩
        refine ⟨_, rfl, b, _, 0, 0, rfl, rfl, hb, rfl, ?_⟩
        refine ⟨_, rfl, ?_⟩
        refine fin _ _ (t.trans (bag_put (n' := n / m) (s' := s) (i' := i) t hb (hc) ?_ s0 s1 i0 cp cl)) (modlt m0).1 (modlt m0).2
        exact Int.ediv_nonneg n0 (by omega)
      · refine ⟨_, rfl, b, _, 1, _, rfl, rfl, L, atI_nat (j := 1) rfl, s, 1, rfl, rfl, s + 1, 39373, rfl, rfl, cmul_small (by omega) (by omega), _, 1000000007, rfl, rfl, (show (0 : Int) < _ by decide), ?_⟩
        have f := modlt (a := (s + 1) * 39373) (m := 1000000007) (by decide)
        refine ⟨_, rfl, _, rfl, _, _, rfl, rfl, cmul_small f.1 (by omega), _, 998244353, rfl, rfl, (show (0 : Int) < _ by decide), ?_⟩
        have f2 := modlt (a := (s + 1) * 39373 % 1000000007 * ((s + 1) * 39373 % 1000000007)) (m := 998244353) (by decide)
        refine ⟨_, 30011, rfl, rfl, cmul_small f2.1 (by omega), _, 998244353, rfl, rfl, (show (0 : Int) < _ by decide), ?_⟩
        have f3 := modlt (a := (s + 1) * 39373 % 1000000007 * ((s + 1) * 39373 % 1000000007) % 998244353 * 30011) (m := 998244353) (by decide)
        refine ⟨_, rfl, m, 1000000, rfl, rfl, _, rfl, ite2 (fun e => ?_) fun e => ?_⟩
        · refine ⟨_, rfl, _, 1000000007, rfl, rfl, cmul_small f3.1 (by omega), _, rfl, _, _, rfl, rfl, _, rfl, _, m, rfl, rfl, m0, ?_⟩
          exact fin _ _ t (modlt m0).1 (modlt m0).2
        · refine ⟨_, rfl, _, 7, rfl, rfl, cdiv_wide (by decide) (by decide), _, rfl, _, m, rfl, rfl, m0, ?_⟩
          exact fin _ _ t (modlt m0).1 (modlt m0).2
    have L : SqL K H b [.int n, .int s, .int i, .ref c] := SqL.of hb
    refine ⟨_, rfl, b, _, 0, _, rfl, rfl, L, atI_nat (j := 0) rfl, rfl, _, rfl, ite2 (fun e => ?_) fun e => ?_⟩
    · -- a new cell
      have Lc : SqL K H c (cells.map V.int) := SqL.of (st.gh _ _ hc)
      -- behind the cell
      have rest : ∀ x : Int, 0 ≤ x → tSeq (tAugS (tVar 0) (tI 2) (tI 1) (rGetL K) (ipI fun i j => i + j) rSetL)
          (tSeq (tIfS (tTest (tOp (rI0 fun i j => .bl (decide (j ≤ i))) (tVar 2) (tI 1000000000000000000))) (tAsg (tVar 2) (gSub (tVar 0) (tI 0) rSetL)) tNext)
            (tAsg (tOp rModI (tOp rAddI (tOp rAddI (tOp rMulI (tB_ K 1) (tI 48271)) (tOp rModI (tVar 2) (tI 2147483647))) (tOp rMulI (tI 7919) (tB_ K 2))) (tI 2147483647)) (gSub (tVar 0) (tI 1) rSetL)))
          { nx := tHalf K { nx := fun _ H' => Q .non H', rt := Q }, rt := Q } [some (.ref b), some (.int m), some (.int x), none, none, none] H := by
        intro x x0
        -- b[2] += 1
        refine ⟨_, rfl, b, _, 2, .int i, rfl, rfl, L, rfl, i, 1, rfl, rfl, b, _, 2, 2, rfl, rfl, hb, rfl, ?_⟩
        have t1 := bag_put (n' := n) (s' := s) (i' := i + 1) st hb hc n0 s0 s1 (by omega) cp cl
        -- if cell >= ..
        have tail : ∀ (n' : Int) (H2 : Hp), 0 ≤ n' → Stt (some b) G H G H2 → H2 b = some (bagV n' s (i + 1) c) → (tAsg (tOp rModI (tOp rAddI (tOp rAddI (tOp rMulI (tB_ K 1) (tI 48271)) (tOp rModI (tVar 2) (tI 2147483647))) (tOp rMulI (tI 7919) (tB_ K 2))) (tI 2147483647)) (gSub (tVar 0) (tI 1) rSetL))
          { nx := tHalf K { nx := fun _ H' => Q .non H', rt := Q }, rt := Q } [some (.ref b), some (.int m), some (.int x), none, none, none] H2 := by
          intro n' H2 hn t2 hb2
          have L2 : SqL K H2 b [.int n', .int s, .int (i + 1), .ref c] := SqL.of hb2
          refine ⟨_, rfl, b, _, 1, _, rfl, rfl, L2, atI_nat (j := 1) rfl, s, 48271, rfl, rfl, cmul_small s0 (by omega), _, rfl, x, 2147483647, rfl, rfl, (show (0 : Int) < _ by decide), _, _, rfl, rfl, _, rfl, b, _, 2, _, rfl, rfl, L2, atI_nat (j := 2) rfl, 7919, i + 1, rfl, rfl, cmul_small (by decide) (by decide), _, _, rfl, rfl, _, 2147483647, rfl, rfl, (show (0 : Int) < _ by decide), ?_⟩
          have f := modlt (a := s * 48271 + x % 2147483647 + 7919 * (i + 1)) (m := 2147483647) (by decide)
          refine ⟨_, rfl, b, _, 1, 1, rfl, rfl, hb2, rfl, ?_⟩
          exact half _ n' _ (i + 1) _ (t2.trans (bag_put t2 hb2 hc hn f.1 f.2 (by omega) cp cl)) upd_same hn f.1 f.2 (by omega)
        refine ⟨_, rfl, x, 1000000000000000000, rfl, rfl, _, rfl, ite2 (fun e => ?_) fun e => ?_⟩
        · refine ⟨_, rfl, _, rfl, b, _, 0, 0, rfl, rfl, upd_same, rfl, ?_⟩
          have t2 := bag_put (n' := x) (s' := s) (i' := i + 1) t1 upd_same hc x0 s0 s1 (by omega) cp cl
          exact tail x _ x0 (t1.trans t2) upd_same
        · exact tail n _ n0 t1 upd_same
      refine ⟨_, rfl, b, _, 2, _, rfl, rfl, L, atI_nat (j := 2) rfl, _, rfl, b, _, 3, _, rfl, rfl, L, atI_nat (j := 3) rfl, c, _, rfl, .inl Lc, i, _, rfl, rfl, _, rfl, ite2 (fun e2 => ?_) fun e2 => ?_⟩
      · have e3 : i.toNat < cells.length := by
          have := of_decide_eq_true e2
          rw [List.length_map] at this
          omega
        have g : (cells.map V.int)[i.toNat]? = some (.int cells[i.toNat]) := by rw [List.getElem?_map, List.getElem?_eq_getElem e3]; rfl
        have ei : i = (i.toNat : Int) := by omega
        refine ⟨_, rfl, b, _, 3, _, rfl, rfl, L, atI_nat (j := 3) rfl, _, rfl, b, _, 2, _, rfl, rfl, L, atI_nat (j := 2) rfl, c, _, i, _, rfl, rfl, Lc, by rw [ei]; exact atI_nat g, ?_⟩
        exact rest _ (cp _ (List.getElem_mem e3))
      · exact rest 0 (by decide)
    · exact half H n s i none st.here hb n0 s0 s1 i0
end DL

namespace DL
open PySem PySem.Spec L2
open PyProof.Rows hiding St

/-! ### the bag made of the script -/
abbrev rAbsI : List V → Hp → VK → Prop := fun xs H Q => ∃ i, xs = [.int i] ∧ Q (.int (if i < 0 then -i else i)) H
def tBag (K : PySem.W.Frag) : TS :=
  tRet (tLst (tCons (tI 0) (tCons (tI 1234567891) (tCons (tI 0) (tCons (tLc (iList K (tSl (rSlL K) (tVar 0) tNoPart (tPart (tI 63)))) (gName 1) tYes (tCB rAbsI (tCons (tVar 1) tNil)) [1]) tNil)))))
def spBag (K : PySem.W.Frag) : Sp := fun vs H Q _ => ∃ (a : Addr) (ns : List Int), vs = [.ref a] ∧ SqL K H a (ns.map V.int) ∧ ns.length ≤ 63 ∧
  ∀ (H' : Hp) (b c : Addr) (cells : List Int), Same H H' → b ≠ c → H' b = some (bagV 0 1234567891 0 c) → H' c = some (.lst (cells.map V.int)) → (∀ x ∈ cells, 0 ≤ x) → cells.length ≤ 63 → Q (.ref b) H'
theorem bag_read {K : PySem.W.Frag} {vs : List V} {H : Hp} {Q : VK} {E : XK} (h : spBag K vs H Q E) : tBag K { nx := fun _ H' => Q .non H', rt := Q } (L2.start ["_law_script", "_law_cell"] vs) H := by
  obtain ⟨a, ns, rfl, hS, hl, q⟩ := h
  refine ⟨.ref a, rfl, 63, rfl, a, _, rfl, hS, fun c nc => ?_⟩
  have s1 : Same H (upd H c (.lst (cutV (ns.map V.int) none (some 63)))) := fun b u e => by rw [upd_ne (ne_of_none e nc)]; exact e
  have hc1 : SqL K (upd H c (.lst (cutV (ns.map V.int) none (some 63)))) c (cutV (ns.map V.int) none (some 63)) := SqL.of upd_same
  have allI : ∀ (i : Nat) (v : V), (cutV (ns.map V.int) none (some 63))[i]? = some v → ∃ z : Int, v = .int z := fun i v e => by
    have m := List.mem_of_getElem? e
    unfold cutV at m
    have m2 := List.mem_of_mem_drop (List.mem_of_mem_take m)
    obtain ⟨z, _, rfl⟩ := List.mem_map.mp m2
    exact ⟨z, rfl⟩
  have len : (cutV (ns.map V.int) none (some 63)).length ≤ 63 := Nat.le_trans (cutV_length _ _ _) (by rw [List.length_map]; exact hl)
  refine ⟨c, rfl, ⟨_, hc1⟩, fun D nD => ?_⟩
  have cD : c ≠ D := fun z => by rw [← z, upd_same] at nD; cases nD
  refine lc_list (K := K) (a := c) (xs := cutV (ns.map V.int) none (some 63)) (fun i H3 => Same H H3 ∧ SqL K H3 c (cutV (ns.map V.int) none (some 63)) ∧ H3 c ≠ none ∧ ∃ acc : List Int, H3 D = some (.lst (acc.map V.int)) ∧ acc.length = i ∧ ∀ x ∈ acc, 0 ≤ x)
    ⟨fun b u e => ?_, ?_, ?_, [], upd_same, rfl, fun x hx => nomatch hx⟩ (fun i H3 _ p => p.2.1) (fun i x H3 e p => ?_) fun H3 p => ?_
  · rw [upd_ne (ne_of_none (s1 b u e) nD)]; exact s1 b u e
  · refine SqL.of ?_
    rw [upd_ne cD, upd_same]
  · rw [upd_ne cD, upd_same]; exact fun z => nomatch z
  · obtain ⟨p1, p2, p3, acc, p4, p5, p6⟩ := p
    obtain ⟨z, rfl⟩ := allI i x e
    refine ⟨rfl, _, rfl, z, rfl, _, p4, ?_, fun b u e => ?_, ?_, ?_, acc ++ [if z < 0 then -z else z], ?_, ?_, ?_⟩
    · have := (List.getElem?_eq_some_iff.mp e).1
      rw [List.length_map, p5]
      exact Nat.lt_of_lt_of_le (Nat.lt_of_lt_of_le this len) (by decide)
    · have ne : b ≠ D := fun z => by
        rw [z] at e
        have := s1 D u e
        rw [nD] at this; cases this
      rw [upd_ne ne]; exact p1 b u e
    · rcases p2 with (h | ⟨o, h⟩) | h
      · exact .inl (.inl (by rw [upd_ne cD]; exact h))
      · exact .inl (.inr ⟨o, by rw [upd_ne cD]; exact h⟩)
      · exact .inr h
    · rw [upd_ne cD]; exact p3
    · rw [upd_same, List.map_append]; rfl
    · rw [List.length_append, p5]; rfl
    · intro y hy
      rcases List.mem_append.mp hy with m | m
      · exact p6 y m
      · have : y = if z < 0 then -z else z := by simpa using m
        subst this
        split <;> omega
  · obtain ⟨p1, p2, p3, acc, p4, p5, p6⟩ := p
    refine ⟨by show 4 ≤ sizeLine; decide, fun b nb => ?_⟩
    have Db : D ≠ b := fun z => by rw [← z, p4] at nb; cases nb
    exact q _ b D acc (fun x u e => by rw [upd_ne (ne_of_none (p1 x u e) nb)]; exact p1 x u e) Db.symm upd_same (by rw [upd_ne Db]; exact p4) p6 (by rw [p5]; exact len)

/-! ### a law: it makes its bag, the rest is read over data -/
def spLaw (K : PySem.W.Frag) : Sp := fun vs H Q _ => ∃ (a : Addr) (ns : List Int), vs = [.ref a] ∧ SqL K H a (ns.map V.int) ∧ ns.length ≤ 63 ∧ ∀ H', Q (.bl true) H'
def lawEnds : DEnds := { nx := fun _ => False, rt := fun d => d = .bl true }
section
variable {P : Program} {w : World} {K : PySem.W.Frag} {mg : Str → Option Value} {base : Heap} {st : Stmt} {f fB : Addr} {fd fdB : FuncData} {N : List Str} {k : Nat}
theorem okLaw {s1 : Stmt} {rest : List Stmt} {body : DS} {x : Str} {n : Nat} (F : Fun K "law" "law" st f fd) (Z : FnScope N [x] (defScope st)) (hn : N.length = n) (hd : defBody st = s1 :: rest)
    (h1 : ∀ (cv : Value) (A : Around) (o : List Env) (s : Shared) (H : Hp) (E : XK), RmG k (A.deeper (envOfC "law" (defScope st) s.heap.objs.size f cv)) →
      PS (cxOf (L2.CX P w) P w K mg base N "law" (defScope st) f cv A o s H E) s1 (tAsg (tCl (spBag K) E (tCons (tVar 0) tNil)) (gName 1)))
    (hb : ∀ (cv : Value) (A : Around) (o : List Env) (s : Shared) (H : Hp) (E : XK), RmG k (A.deeper (envOfC "law" (defScope st) s.heap.objs.size f cv)) → XSs (cxOf (L2.CX P w) P w K mg base N "law" (defScope st) f cv A o s H E) E rest body)
    (h0 : 2 ≤ n) (hr : body lawEnds (.un :: .bg :: uns (n - 2))) : FnG P w K mg base (k + 1) f fd [x] (spLaw K) := by
  refine Fun.okG F Z (fun vs H Q E h => ?_) fun cv A o s H vs Q E rg h => ?_
  · obtain ⟨a, ns, rfl, _⟩ := h; rfl
  · obtain ⟨a, ns, rfl, hS, hl, q⟩ := h
    rw [hd]
    refine ⟨_, pss_cons (h1 cv A o s H E rg) (hb cv A o s H E rg).ps, ?_⟩
    have e0 : (L2.start N [V.ref a])[0]? = some (some (.ref a)) := by unfold L2.start; rfl
    refine ⟨.ref a, e0, a, ns, rfl, hS, hl, fun H' b c cells sm nbc hb hc h5 h6 => ?_⟩
    let G : Hp := fun y => if y = c then some (.lst (cells.map V.int)) else none
    have gc : G c = some (.lst (cells.map V.int)) := if_pos rfl
    have gb : G b = none := if_neg nbc
    have bag : BagO (some b) G H' := fun b' e => by
      cases e
      exact ⟨gb, 0, 1234567891, 0, c, cells, hb, gc, by decide, by decide, by decide, by decide, h5, h6⟩
    have gh : Same G H' := fun y u e => by
      by_cases z : y = c
      · subst z; rw [gc] at e; cases e; exact hc
      · have : G y = none := if_neg z
        rw [this] at e; cases e
    have stt : Stt (some b) G H' G H' := Stt.refl gh bag
    have en : En K (some b) G H' G H' ((L2.start N [V.ref a]).set 1 (some (.ref b))) (.un :: .bg :: uns (n - 2)) := by
      refine ⟨stt, ?_, fun i j p x y e => ?_⟩
      · have es : L2.start N [V.ref a] = some (.ref a) :: none :: List.replicate (n - 2) none := by
          unfold L2.start
          have : N.length - [V.ref a].length = n - 2 + 1 := by rw [hn]; show n - 1 = _; omega
          rw [this, List.replicate_succ]; rfl
        rw [es]
        exact .cons .un (.cons (.bg rfl) (sl_uns _))
      · match i, e with
        | 0, e => cases e
        | 1, e => cases e
        | i + 2, e => exact absurd (show (uns (n - 2))[i]? = some (Sl.own x) from e) (fun z => by have := List.eq_of_mem_replicate (List.mem_of_getElem? z); cases this)
    refine ⟨some b, G, H', G, G, _, lawEnds, en, Same.refl _, ⟨fun _ _ _ _ _ _ z => z.elim, fun _ _ _ _ _ _ z => z.elim, fun _ _ _ _ _ _ z => z.elim, fun v d G2 H2 t rv z => ?_, noX, fun _ _ _ _ _ _ _ z => z.elim⟩, hr⟩
    have z' : d = .bl true := z
    subst z'
    cases rv
    exact q H2
end

/-! ### the end of a row: the law's def is called at the top -/
section
open PySem.W
theorem callG {P : Program} {w : World} {K : Frag} {mg mb : Str → Option Value} {k : Nat} {fa a : Addr} {fd : FuncData} {x : Str} {s : Shared} {vs : List Value} {ns : List Int}
    (kin : K.In s.heap) (hm : s.heap.Ns mainGlobals mg) (hb : s.heap.Ns builtinsNs mb) (hbb : ∀ y : Str, y ≠ "__name__" → mb y = bootBuiltins y) (hlim : s.heap.NoLimit) (hg : s.gens = #[])
    (ha : s.heap.get? a = some { cls := .type "list", data := .seq vs.toArray }) (hi : IntsAre vs ns) (hl : ns.length ≤ 63) (hr : Room k callerA)
    (F : ∀ base : Heap, K.In base → base.Ns mainGlobals mg → FnG P w K mg base k fa fd [x] (spLaw K)) (bt : ∀ (s : Shared) (u : Value), BindsTo s fd ⟨[u], []⟩ [(x, u)]) :
    codeAny (model P w) callerA (.call (.ref fa) ⟨[.ref a], []⟩) (fun r s' => r = .ok (.ret (.bool true)) ∧ OldK s.heap s'.heap ∧ s'.os = s.os ∧ AllBare s'.gens) s := by
  have rv := vals_ints hi
  have lv := hi.length
  have small : ns.length ≤ sizeLine := Nat.le_trans hl (by decide)
  have main : ∀ H : Hp, (∀ y, H y = none ∨ (y = a ∧ K.lookup a = none ∧ ∃ ob xs, H y = some (.frz ob (.lst xs)))) → SqL K H a (ns.map V.int) → HOk P w H s.heap →
      codeAny (model P w) callerA (.call (.ref fa) ⟨[.ref a], []⟩) (fun r s' => r = .ok (.ret (.bool true)) ∧ OldK s.heap s'.heap ∧ s'.os = s.os ∧ AllBare s'.gens) s := by
    intro H only sq ok
    have dic : ∀ {y : Addr} {ob : Obj} {es : Array DictEntry} {ep : Nat}, s.heap.get? y = some ob → ob.data = .dict es ep → H y = none := fun {y ob es ep} e d => (only y).elim id fun ⟨e1, _, _⟩ => by
      rw [e1, ha] at e
      have z := Option.some.inj e
      rw [← z] at d
      cases (show Data.seq vs.toArray _ = Data.dict es ep from d)
    have ns1 : ∀ {y : Addr} {m : Str → Option Value}, s.heap.Ns y m → (hidT s.heap H).Ns y m := fun {y m} ⟨o, es, ep, e, d, r⟩ => ⟨o, es, ep, hidT_get e (dic e d), d, r⟩
    have kin2 : K.In (hidT s.heap H) := fun y ob e => hidT_get (kin y ob e) ((only y).elim id fun ⟨e1, e2, _⟩ => by rw [e1, e2] at e; cases e)
    obtain ⟨mc, l1, l2⟩ := hlim
    have env : Env0 P w K mg (hidT s.heap H) callerA [] s H :=
      ⟨rfl, ⟨kin2, ns1 hm, ⟨mb, ns1 hb, hbb⟩, mc, ns1 l1, l2⟩, fun y ob e => of_hidT e, Nat.le_of_eq (hidT_size _ _), trivial, (fun y hy => by cases (show y ∈ ([] : List Addr) from hy)), ok, .of_eq hg⟩
    have run := (F _ kin2 (ns1 hm)).go callerA [] s H ⟨[.ref a], []⟩ [.ref a] [.ref a] (fun v _ => v = .bl true) (fun _ _ _ => False) ⟨hr, rfl⟩ env (bt s (.ref a)) (.cons rfl .nil) ⟨a, ns, rfl, sq, hl, fun _ => rfl⟩
    refine codeAny_mono run fun r s2 h => ?_
    match r, h with
    | .error e, h => obtain ⟨_, _, _, _, _, _, _, _, _, _, _, _, z⟩ := h; exact z.elim
    | .ok .next, h => exact False.elim h
    | .ok .brk, h => exact False.elim h
    | .ok .cont, h => exact False.elim h
    | .ok (.ret u), ⟨v, H2, os, br, un, ok2, ru, qv⟩ =>
      have qv : v = .bl true := qv
      subst qv
      refine ⟨by rw [show u = Value.bool true from ru], OldK.of_keep fun y ob e => ?_, os, br⟩
      rcases only y with z | ⟨_, _, o2, xs, z⟩
      · exact un.keep y ob e z (fun m => by cases (show y ∈ ([] : List Addr) from m)) (fun m => by cases m)
      · obtain ⟨g1, _⟩ := ok y _ z
        obtain ⟨g2, _⟩ := ok2 y _ (un.frzs y o2 _ z)
        rw [e] at g1
        rw [g2, ← g1]
  cases hk : K.lookup a with
  | some o =>
    have e := kin a o hk
    rw [ha] at e
    have e' := Option.some.inj e
    refine main (fun _ => none) (fun _ => .inl rfl) (.inr ⟨o, vs.toArray, _, hk, by rw [← e'], by rw [← e'], by rw [← e'], ?_, by simpa using rv⟩) fun y u z => by cases z
    rw [List.size_toArray, lv]; exact small
  | none =>
    let ob : Obj := { cls := .type "list", data := .seq vs.toArray }
    have at_a : (fun y => if y = a then some (HO.frz ob (.lst (ns.map V.int))) else none) a = some (HO.frz ob (.lst (ns.map V.int))) := if_pos rfl
    refine main (fun y => if y = a then some (.frz ob (.lst (ns.map V.int))) else none) (fun y => ?_) (.inl (.inr ⟨ob, at_a⟩)) fun y u z => ?_
    · by_cases e : y = a
      · exact .inr ⟨e, hk, ob, _, if_pos e⟩
      · exact .inl (if_neg e)
    · by_cases e : y = a
      · have z2 := (if_pos e).symm.trans z
        cases z2
        subst e
        exact ⟨ha, by rw [List.length_map]; exact small, vs, _, rv, ha⟩
      · have z2 := (if_neg e).symm.trans z
        cases z2
theorem walkG {l : OpenLaw} {k : Nat} {q : Program} {loose : List Str} {XP : (Str → Option Value) → Heap → Prop} {YP : World → Heap → Prop} {d : DefRec} {K : Params → Frag} {x : Str}
    (hn : l.most = some 63) (hdf : d.params.defaults = []) (hr : Room k callerA) (hY : ∀ (w : World) (h : Heap), YP w h → (K w.params).In h)
    (F : ∀ (w : World) (mg : Str → Option Value) (fa : Addr) (h : Heap), (K w.params).In h → h.Ns mainGlobals mg → mg d.name = some (.ref fa) →
      ∃ fd : FuncData, (∀ (s : Shared) (u : Value), BindsTo s fd ⟨[u], []⟩ [(x, u)]) ∧ ∀ base : Heap, (K w.params).In base → base.Ns mainGlobals mg → FnG l.prog w (K w.params) mg base k fa fd [x] (spLaw (K w.params))) :
    WalkO q loose XP YP l.row.toRowW d [] (fun f vs => PySem.call f vs) :=
  Att.attach_call hn hdf fun w _ s mg mb fa o pm cd doc a vs ns G Y ho hd hcd hmg hobj hints hlen hg => by
    obtain ⟨fd, h1, h2⟩ := F w mg fa _ (hY w _ Y) G.T.g hmg
    exact callG (hY w _ Y) G.T.g G.T.b G.T.builtins G.T.nolimit hg hobj hints hlen hr h2 h1
end
end DL

namespace DL
open PySem PySem.Spec L2
open PyProof.Rows hiding St

/-! ### data that may be compared and shown -/
mutual
/-- numbers below 10 ^ 200, texts of code points, no instance -/
def smD : D → Bool
  | .non => true
  | .bl _ => true
  | .int i => decide (i.natAbs < 10 ^ 200)
  | .str s => s.all fun c => decide (c < 0x110000)
  | .lst xs => smDs xs
  | .tup xs => smDs xs
  | .ins _ _ _ => false
  | .dct _ _ => false
def smDs : List D → Bool
  | [] => true
  | x :: xs => smD x && smDs xs
end
mutual
def wt : D → Nat
  | .non => 10
  | .bl _ => 10
  | .int _ => 202
  | .str s => 10 * s.length + 2
  | .lst xs => wts xs + 3
  | .tup xs => wts xs + 3
  | .ins _ _ _ => 0
  | .dct _ _ => 0
def wts : List D → Nat
  | [] => 0
  | x :: xs => wt x + 2 + wts xs
end
mutual
def dpD : D → Nat
  | .lst xs => dpDs xs + 1
  | .tup xs => dpDs xs + 1
  | _ => 0
def dpDs : List D → Nat
  | [] => 0
  | x :: xs => max (dpD x) (dpDs xs)
end
structure fine (d : D) : Prop where
  sm : smD d = true
  dp : dpD d ≤ 60
  wt : wt d ≤ 16000000
mutual
theorem sm_plain : ∀ {d : D}, smD d = true → plain d = true
  | .non, _ => rfl
  | .bl _, _ => rfl
  | .int _, _ => rfl
  | .str _, _ => rfl
  | .lst xs, h => by simp only [plain]; exact sm_plains (by simpa only [smD] using h)
  | .tup xs, h => by simp only [plain]; exact sm_plains (by simpa only [smD] using h)
  | .ins _ _ _, h => by cases h
  | .dct _ _, h => by cases h
theorem sm_plains : ∀ {xs : List D}, smDs xs = true → plains xs = true
  | [], _ => rfl
  | x :: xs, h => by
    simp only [smDs, Bool.and_eq_true] at h
    simp only [plains, Bool.and_eq_true]
    exact ⟨sm_plain h.1, sm_plains h.2⟩
end
mutual
theorem dp_py : ∀ d : D, (toPy d).depth = dpD d
  | .non => rfl
  | .bl _ => rfl
  | .int _ => rfl
  | .str _ => rfl
  | .lst xs => by simp only [toPy, PyData.depth, dpD, dp_pys xs]
  | .tup xs => by simp only [toPy, PyData.depth, dpD, dp_pys xs]
  | .ins _ _ _ => rfl
  | .dct _ _ => rfl
theorem dp_pys : ∀ xs : List D, PyData.depthAll (toPys xs) = dpDs xs
  | [] => rfl
  | x :: xs => by simp only [toPys, PyData.depthAll, dpDs, dp_py x, dp_pys xs]
end
mutual
theorem lay_py : ∀ {d : D}, smD d = true → (toPy d).canLay0 = true
  | .non, _ => rfl
  | .bl _, _ => rfl
  | .int _, _ => rfl
  | .str s, h => by
    simp only [smD, List.all_eq_true, decide_eq_true_eq] at h
    simp only [toPy, PyData.canLay0, PyData.strOk]
    rw [Array.all_eq_true_iff_forall_mem]
    intro x hx
    exact decide_eq_true (h x (by simpa using hx))
  | .lst xs, h => by simp only [toPy, PyData.canLay0]; exact lay_pys (by simpa only [smD] using h)
  | .tup xs, h => by simp only [toPy, PyData.canLay0]; exact lay_pys (by simpa only [smD] using h)
  | .ins _ _ _, h => by cases h
  | .dct _ _, h => by cases h
theorem lay_pys : ∀ {xs : List D}, smDs xs = true → PyData.canLayAll0 (toPys xs) = true
  | [], _ => rfl
  | x :: xs, h => by
    simp only [smDs, Bool.and_eq_true] at h
    simp only [toPys, PyData.canLayAll0, Bool.and_eq_true]
    exact ⟨lay_py h.1, lay_pys h.2⟩
end
theorem pow200 : (10 ^ 200 : Nat) ≤ 2 ^ 1000 := by decide +kernel
mutual
theorem show_py : ∀ {d : D}, smD d = true → (toPy d).showable = true
  | .non, _ => rfl
  | .bl _, _ => rfl
  | .int i, h => by
    simp only [smD, decide_eq_true_eq] at h
    simp only [toPy, PyData.showable, decide_eq_true_eq]
    exact Nat.lt_of_lt_of_le (PySem.Flt.log2_lt_of (k := 1000) (by decide) (Nat.lt_of_lt_of_le h pow200)) (by decide)
  | .str _, _ => rfl
  | .lst xs, h => by simp only [toPy, PyData.showable]; exact show_pys (by simpa only [smD] using h)
  | .tup xs, h => by simp only [toPy, PyData.showable]; exact show_pys (by simpa only [smD] using h)
  | .ins _ _ _, h => by cases h
  | .dct _ _, h => by cases h
theorem show_pys : ∀ {xs : List D}, smDs xs = true → PyData.showableAll (toPys xs) = true
  | [], _ => rfl
  | x :: xs, h => by
    simp only [smDs, Bool.and_eq_true] at h
    simp only [toPys, PyData.showableAll, Bool.and_eq_true]
    exact ⟨show_py h.1, show_pys h.2⟩
end
theorem sum_cons (x : Nat) (l : List Nat) : (x :: l).sum = x + l.sum := by simp
mutual
theorem len_py : ∀ {d : D}, smD d = true → (toPy d).shown.length ≤ wt d
  | .non, _ => by decide +kernel
  | .bl b, _ => by cases b <;> decide +kernel
  | .int i, h => by
    simp only [smD, decide_eq_true_eq] at h
    simp only [toPy, PyData.shown, wt]
    have e := int_text_length_le10 (a := i) (k := 200) (by decide) h
    show (Str.ofString (toString i)).length ≤ 202
    rw [PySem.ofString_length]; omega
  | .str s, h => by
    simp only [smD, List.all_eq_true, decide_eq_true_eq] at h
    simp only [toPy, PyData.shown, wt]
    have e := PySem.StrLaws.reprText_len ⟨s.toArray⟩ (fun c hc => by
      have := h c (by simpa using hc)
      omega)
    simpa [Str.length] using e
  | .lst xs, h => by
    simp only [toPy, PyData.shown, wt]
    refine Nat.le_trans (listText_len_le _) ?_
    have := len_pys (xs := xs) (by simpa only [smD] using h)
    omega
  | .tup xs, h => by
    simp only [toPy, PyData.shown, wt]
    refine Nat.le_trans (tupleText_len_le _) ?_
    have := len_pys (xs := xs) (by simpa only [smD] using h)
    omega
  | .ins _ _ _, h => by cases h
  | .dct _ _, h => by cases h
theorem len_pys : ∀ {xs : List D}, smDs xs = true → ((PyData.shownAll (toPys xs)).map (·.length)).sum + 2 * (PyData.shownAll (toPys xs)).length ≤ wts xs
  | [], _ => Nat.le_refl _
  | x :: xs, h => by
    simp only [smDs, Bool.and_eq_true] at h
    have h1 := len_py h.1
    have h2 := len_pys h.2
    simp only [toPys, PyData.shownAll, wts, List.map_cons, List.length_cons]
    rw [sum_cons]
    omega
end
theorem fine.eq {d : D} (h : fine d) : eqOk d := ⟨sm_plain h.sm, by
  unfold SeqAt.shaped
  rw [lay_py h.sm, Bool.true_and, decide_eq_true_eq, dp_py]
  have := h.dp
  omega⟩
theorem fine.repr {d : D} (h : fine d) : reprOk d := ⟨sm_plain h.sm, show_py h.sm, PyData.hasDict_of_canLay _ (lay_py h.sm), by rw [dp_py]; have := h.dp; omega, by
  have h1 := len_py h.sm
  have h2 := h.wt
  have e : sizeLine = 16777216 := sizeLine_eq
  omega⟩
theorem fine_int {i : Int} (h : i.natAbs < 10 ^ 200) : fine (.int i) := ⟨by simp only [smD]; exact decide_eq_true h, Nat.zero_le _, by simp only [wt]; omega⟩
theorem fine_non : fine .non := ⟨rfl, Nat.zero_le _, by decide⟩
theorem fine_bl (b : Bool) : fine (.bl b) := ⟨rfl, Nat.zero_le _, by simp only [wt]; omega⟩
theorem fine_str {s : List Nat} (h : ∀ c ∈ s, c < 0x110000) (l : s.length ≤ 1000000) : fine (.str s) := ⟨by simp only [smD, List.all_eq_true, decide_eq_true_eq]; exact h, Nat.zero_le _, by simp only [wt]; omega⟩
theorem smDs_iff : ∀ {xs : List D}, smDs xs = true ↔ ∀ x ∈ xs, smD x = true
  | [] => ⟨fun _ _ h => (nomatch h), fun _ => rfl⟩
  | x :: xs => by
    simp only [smDs, Bool.and_eq_true, List.forall_mem_cons]
    rw [smDs_iff (xs := xs)]
theorem dpDs_le : ∀ {xs : List D} {n : Nat}, (∀ x ∈ xs, dpD x ≤ n) → dpDs xs ≤ n
  | [], _, _ => Nat.zero_le _
  | x :: xs, n, h => by
    simp only [dpDs]
    exact Nat.max_le.mpr ⟨h x List.mem_cons_self, dpDs_le fun y hy => h y (List.mem_cons_of_mem _ hy)⟩
theorem wts_le : ∀ {xs : List D} {n : Nat}, (∀ x ∈ xs, wt x ≤ n) → wts xs ≤ xs.length * (n + 2)
  | [], _, _ => Nat.zero_le _
  | x :: xs, n, h => by
    simp only [wts, List.length_cons, Nat.succ_mul]
    have h1 := h x List.mem_cons_self
    have h2 := wts_le (n := n) fun y hy => h y (List.mem_cons_of_mem _ hy)
    omega
/-- a list of items that are fine, n at most each, few enough -/
theorem fine_lst {xs : List D} {n m : Nat} (h : ∀ x ∈ xs, fine x ∧ wt x ≤ n ∧ dpD x ≤ 50) (hl : xs.length ≤ m) (hb : m * (n + 2) + 3 ≤ 16000000) : fine (.lst xs) := by
  refine ⟨by simp only [smD]; exact smDs_iff.mpr fun x hx => (h x hx).1.sm, ?_, ?_⟩
  · simp only [dpD]
    have := dpDs_le fun x hx => (h x hx).2.2
    omega
  · simp only [wt]
    have := wts_le fun x hx => (h x hx).2.1
    have h2 := Nat.mul_le_mul_right (n + 2) hl
    omega
theorem fine_tup {xs : List D} {n m : Nat} (h : ∀ x ∈ xs, fine x ∧ wt x ≤ n ∧ dpD x ≤ 50) (hl : xs.length ≤ m) (hb : m * (n + 2) + 3 ≤ 16000000) : fine (.tup xs) := by
  have := fine_lst h hl hb
  exact ⟨by have := this.sm; simpa only [smD] using this, by have := this.dp; simpa only [dpD] using this, by have := this.wt; simpa only [wt] using this⟩
/-- a list of numbers -/
theorem fine_ints {ns : List Int} (h : ∀ i ∈ ns, i.natAbs < 10 ^ 200) (hl : ns.length ≤ 50000) : fine (.lst (ns.map D.int)) :=
  fine_lst (n := 202) (m := 50000) (fun x hx => by
    obtain ⟨i, hi, rfl⟩ := List.mem_map.mp hx
    exact ⟨fine_int (h i hi), by simp only [wt]; omega, Nat.zero_le _⟩) (by rw [List.length_map]; exact hl) (by decide)
theorem eqv_fine {d : D} (h : fine d) : PyData.eqv (toPy d) (toPy d) = true := eqv_self h.eq.2
theorem fine_nat {i : Int} (h0 : 0 ≤ i) (h : i < 10 ^ 150) : fine (.int i) := fine_int (by omega)

/-! ### the law's own comparing: equal, and shown alike -/
def s_alike : DSp := fun ds _ R => ∃ d, ds = [d, d] ∧ fine d ∧ R (.bl true)
def oEqS : O2 := fun x y R => match x, y with
  | .str s, .str t => R (.bl (decide (s = t)))
  | _, _ => False
def oNeS : O2 := fun x y R => match x, y with
  | .str s, .str t => R (.bl (!decide (s = t)))
  | _, _ => False
theorem dec_strs (a b : List Nat) : decide (V.str ⟨a.toArray⟩ = V.str ⟨b.toArray⟩) = decide (a = b) := decide_eq_decide.mpr ⟨fun z => by
  have := V.str.inj z
  have h2 := congrArg (fun s : Str => s.cps.toList) this
  simpa using h2, fun z => by rw [z]⟩
theorem simr_eqS {K : PySem.W.Frag} : SimR K rEq oEqS := fun B G H x y d e s rx ry Q R k q => by
  unfold oEqS at q
  split at q
  · cases rx; cases ry
    refine ⟨rfl, ?_⟩
    rw [dec_strs]
    exact k _ G H _ s (.bl _) q
  · exact q.elim
theorem simr_neS {K : PySem.W.Frag} : SimR K rNe oNeS := fun B G H x y d e s rx ry Q R k q => by
  unfold oNeS at q
  split at q
  · cases rx; cases ry
    refine ⟨rfl, ?_⟩
    rw [dec_strs]
    exact k _ G H _ s (.bl _) q
  · exact q.elim
section
variable {X : Cx} {E : XK} {a b : Expr} {da db : DE} {pos : Pos}
theorem xtEqS (ha : XEx X E a da) (hb : XEx X E b db) : XT X E (.Compare a [.Eq] [b] pos) (dTest (dOp oEqS da db)) := xt_cmp op_eq simr_eqS ha hb (nomark _)
theorem xtNeS (ha : XEx X E a da) (hb : XEx X E b db) : XT X E (.Compare a [.NotEq] [b] pos) (dTest (dOp oNeS da db)) := xt_cmp op_ne simr_neS ha hb (nomark _)
theorem xEqS (ha : XEx X E a da) (hb : XEx X E b db) : XEx X E (.Compare a [.Eq] [b] pos) (dOp oEqS da db) := xe_cmp op_eq simr_eqS ha hb (nomark _)
theorem xNeS (ha : XEx X E a da) (hb : XEx X E b db) : XEx X E (.Compare a [.NotEq] [b] pos) (dOp oNeS da db) := xe_cmp op_ne simr_neS ha hb (nomark _)
theorem xe_strL {x : Str} {l : List Nat} {j pos} (h : x.cps.toList = l := by decide +kernel) : XEx X E (.Constant (.str x) j pos) (dC (.str l)) := by
  have := xe_str (X := X) (E := E) (x := x) (j := j) (pos := pos)
  rw [h] at this
  exact this
end
def b_alike : DS :=
  (dRet (dAndV (dOp oEq (dVar 0) (dVar 1)) (dOp oEqS (dCB cRepr (dCons (dVar 0) dNil)) (dCB cRepr (dCons (dVar 1) dNil)))))
theorem ok_alike : OkN 2 2 s_alike b_alike := by
  rintro ds xe R ⟨d, rfl, f, q⟩
  refine ⟨rfl, ?_⟩
  refine ⟨f.eq, f.eq, ?_⟩
  rw [eqv_fine f]
  refine ⟨f.repr, f.repr, ?_⟩
  show R (.bl (decide ((toPy d).shown.cps.toList = (toPy d).shown.cps.toList)))
  rw [decide_eq_true rfl]
  exact q
theorem take_len {K : PySem.W.Frag} {vs : List V} {H : Hp} {Q : VK} {E : XK} (h : spB K sTake vs H Q E) : vs.length = 2 := by
  obtain ⟨b, vs', G, ds, xe, R, rfl, r, st, lx, ⟨m, rfl, _⟩, q⟩ := h
  rw [List.length_cons, r.length]; rfl
theorem bag_len {K : PySem.W.Frag} {vs : List V} {H : Hp} {Q : VK} {E : XK} (h : spBag K vs H Q E) : vs.length = 1 := by
  obtain ⟨a, ns, rfl, _⟩ := h; rfl
abbrev s_take : DSp := sTake
/-- an item of a list: whichever it is -/
theorem ix_all {xs : List D} {v : Int} {R : D → Prop} (h0 : 0 ≤ v) (h1 : v < xs.length) (h : ∀ d ∈ xs, R d) : oIx (.lst xs) (.int v) R := by
  have l : v.toNat < xs.length := by omega
  refine ⟨xs[v.toNat], ?_, h _ (List.getElem_mem l)⟩
  have g : atI xs ((v.toNat : Nat) : Int) = some xs[v.toNat] := atI_nat (List.getElem?_eq_getElem l)
  rwa [show ((v.toNat : Nat) : Int) = v by omega] at g
theorem ix_P {xs : List D} {v : Int} {R : D → Prop} (P : D → Prop) (h0 : 0 ≤ v) (h1 : v < xs.length) (hp : ∀ d ∈ xs, P d) (k : ∀ d, P d → R d) : oIx (.lst xs) (.int v) R := ix_all h0 h1 fun d hd => k d (hp d hd)
theorem ix_at {xs : List D} {j : Nat} {d : D} {R : D → Prop} (h : xs[j]? = some d) (q : R d) : oIx (.lst xs) (.int (j : Int)) R := ⟨d, atI_nat h, q⟩
/-- a comprehension that takes each item to its value -/
theorem lc_map {items : List D} {dg : DG} {de : DE} {vs : List Nat} {ρ : List Sl} {R : D → Prop} (f : D → D) (hl : items.length ≤ 1000000) (h : ∀ (i : Nat) d (Q : D → Prop), items[i]? = some d → Q (f d) → dg d (dwipe ρ vs) fun ρ2 => de ρ2 (fun _ => False) Q) (q : R (.lst (items.map f))) :
    lcBody dg dYes de vs ρ R items := by
  refine ⟨Nat.le_trans hl (by decide), fun i acc => acc = (items.map f).take i, rfl, fun i d acc e _ w => ?_, fun acc _ w => ?_⟩
  · refine h i d _ e ?_
    subst w
    rw [List.take_add_one, List.getElem?_map, e]
    rfl
  · have w' : acc = (items.map f).take items.length := w
    rw [w', List.take_of_length_le (by rw [List.length_map]; exact Nat.le_refl _)]
    exact q
/-- .. of values of which something is known -/
theorem lc_all {items : List D} {dg : DG} {de : DE} {vs : List Nat} {ρ : List Sl} {R : D → Prop} (P : D → Prop) (hl : items.length ≤ 1000000) (h : ∀ (i : Nat) d (Q : D → Prop), items[i]? = some d → (∀ y, P y → Q y) → dg d (dwipe ρ vs) fun ρ2 => de ρ2 (fun _ => False) Q)
    (q : ∀ acc, acc.length = items.length → (∀ y ∈ acc, P y) → R (.lst acc)) : lcBody dg dYes de vs ρ R items := by
  refine ⟨Nat.le_trans hl (by decide), fun i acc => acc.length = i ∧ ∀ y ∈ acc, P y, ⟨rfl, fun _ h => nomatch h⟩, fun i d acc e _ w => ?_, fun acc _ w => q acc w.1 w.2⟩
  refine h i d _ e fun y hy => ⟨by rw [List.length_append, w.1]; rfl, fun z hz => ?_⟩
  rcases List.mem_append.mp hz with m | m
  · exact w.2 z m
  · have : z = y := by simpa using m
    rw [this]; exact hy
/-- .. that keeps some of the items -/
theorem lc_filter {items : List D} {dg : DG} {dt : DT} {de : DE} {vs : List Nat} {ρ : List Sl} {R : D → Prop} (p : D → Bool) (f : D → D) (hl : items.length ≤ 1000000) (h : ∀ (i : Nat) d (Q : D → Prop) (Z : Prop), items[i]? = some d → (p d = true → Q (f d)) → (p d = false → Z) → dg d (dwipe ρ vs) fun ρ2 => dt ρ2 (fun _ => False) fun k => ifB k (de ρ2 (fun _ => False) Q) Z)
    (q : R (.lst ((items.filter p).map f))) : lcBody dg dt de vs ρ R items := by
  refine ⟨Nat.le_trans hl (by decide), fun i acc => acc = ((items.take i).filter p).map f, rfl, fun i d acc e _ w => ?_, fun acc _ w => ?_⟩
  · refine h i d _ _ e (fun hp => ?_) (fun hp => ?_)
    · subst w
      rw [List.take_add_one, e, List.filter_append, List.map_append]
      simp [hp]
    · subst w
      rw [List.take_add_one, e, List.filter_append, List.map_append]
      simp [hp]
  · have w' : acc = ((items.take items.length).filter p).map f := w
    rw [w', List.take_length]
    exact q
theorem span_map {lo : Int} {n : Nat} {f : D → D} : (span lo n).map f = (List.range n).map fun (i : Nat) => f (.int (lo + (i : Int))) := by
  unfold span
  rw [List.map_map]; rfl
theorem small_line {n : Nat} (h : n ≤ 1000000) : n ≤ sizeLine := Nat.le_trans h (by decide)
end DL

namespace DL
open PySem PySem.Spec L2
open PyProof.Rows hiding St

/-! ### a < b < c -/
def dChain (o o' : O2) (da db dc : DE) : DE := fun ρ xe R => da ρ xe fun x => db ρ xe fun y => o x y fun z => match z with
  | .bl k => ifB k (dc ρ xe fun w => o' y w R) (R (.bl false))
  | _ => False
section
variable {X : Cx} {E : XK} {a b c e : Expr} {da db dc de : DE} {pos : Pos}
theorem sim_chain {K : PySem.W.Frag} {r r' : R2} {o o' : O2} {ta tb tc : TE} (hr : SimR K r o) (hr' : SimR K r' o') (ha : SimE K E ta da) (hb : SimE K E tb db) (hc : SimE K E tc dc) : SimE K E (tChain r r' ta tb tc) (dChain o o' da db dc) :=
  fun B G0 H0 G H σ ρ I xe lx Q R k q => by
    refine ha B G0 H0 G H σ ρ I xe lx _ _ (fun v G1 H1 d t1 r1 h1 => ?_) q
    refine hb B G0 H0 G1 H1 σ ρ (I.step t1) xe lx _ _ (fun u G2 H2 f t2 r2 h2 => ?_) h1
    refine hr B G2 H2 v u d f (Stt.refl t2.gh t2.bag) (r1.mono t2.gg) r2 _ _ (fun w G3 H3 f' t3 r3 h3 => ?_) h2
    split at h3
    · rename_i kk
      cases r3
      refine ⟨kk, rfl, ?_⟩
      cases kk with
      | false => exact k _ G3 H3 _ ((t1.trans t2).trans t3) (.bl _) h3
      | true =>
        refine hc B G0 H0 G3 H3 σ ρ (((I.step t1).step t2).step t3) xe lx _ _ (fun w2 G4 H4 d4 t4 r4 h4 => ?_) h3
        exact hr' B G4 H4 u w2 f d4 (Stt.refl t4.gh t4.bag) (r2.mono (t3.gg.trans t4.gg)) r4 _ _ (fun w5 G5 H5 f5 t5 r5 h5 => k w5 G5 H5 f5 ((((t1.trans t2).trans t3).trans t4).trans t5) r5 h5) h4
    · exact h3.elim
theorem xChain {op op' : CmpOp} {r r' : R2} {o o' : O2} (ho : OpR X (compareOp op) r) (ho' : OpR X (compareOp op') r') (hr : SimR X.K r o) (hr' : SimR X.K r' o') (ha : XEx X E a da) (hb : XEx X E b db) (hc : XEx X E c dc) (hm : lastMarks [op, op'] [b, c] = false := by with_unfolding_all rfl) :
    XEx X E (.Compare a [op, op'] [b, c] pos) (dChain o o' da db dc) := .of (pe_chain ho ho' ha.pe hb.pe hc.pe hm) (sim_chain hr hr' sE sE sE)
theorem xtChain {op op' : CmpOp} {r r' : R2} {o o' : O2} (ho : OpR X (compareOp op) r) (ho' : OpR X (compareOp op') r') (hr : SimR X.K r o) (hr' : SimR X.K r' o') (ha : XEx X E a da) (hb : XEx X E b db) (hc : XEx X E c dc) (hm : lastMarks [op, op'] [b, c] = false := by with_unfolding_all rfl) :
    XT X E (.Compare a [op, op'] [b, c] pos) (dTest (dChain o o' da db dc)) := .of (pt_chain ho ho' ha.pe hb.pe hc.pe hm) (sim_test (sim_chain hr hr' sE sE sE))
theorem simr_Le {K : PySem.W.Frag} : SimR K (rI0 fun i j => .bl (decide (i ≤ j))) oLe := simr_I0 fun _ _ _ => .bl _
theorem simr_Lt {K : PySem.W.Frag} : SimR K (rI0 fun i j => .bl (decide (i < j))) oLt := simr_I0 fun _ _ _ => .bl _

/-! ### x op= e -/
def dAug (i : Nat) (de : DE) (f : Int → Int → Int) : DS := fun C ρ => match ρ[i]? with
  | some (.dd (.int x)) => de ρ C.xe fun d => match d with
    | .int y => C.nx (ρ.set i (.dd (.int (f x y))))
    | _ => False
  | _ => False
theorem sim_aug {K : PySem.W.Frag} {i : Nat} {te : TE} {f : Int → Int → Int} (h : SimE K E te de) : SimS K E (tAug i te (ipI f)) (dAug i de f) := fun B G0 H0 G H σ ρ I Gs sg D C l q => by
  unfold dAug at q
  split at q
  · rename_i x e
    obtain ⟨v, h1, h2⟩ := I.var e
    cases h2
    refine ⟨_, h1, ?_⟩
    refine h B G0 H0 G H σ ρ I C.xe l.xe _ _ (fun u G' H' d t r z => ?_) q
    split at z
    · cases r
      exact ⟨_, _, rfl, rfl, l.nx G' H' _ _ (sg.trans t.gg) ((I.step t).set (.int _)) z⟩
    · exact z.elim
  · exact q.elim
theorem xs_aug {i : Nat} {x : Str} {op : Operator} {f : Int → Int → Int} {pos' : Pos} (hN : X.N.Nodup) (hi : X.N[i]? = some x) (hx : Loc X.env.scope x) (he : XEx X E e de) (ho : PIp X op (ipI f)) (hf : X.fn x = true ∨ X.env.scope.names.lookup x = some .local := by first | exact .inl rfl | exact .inr rfl | assumption) :
    XS X E (.AugAssign (.Name x pos') op e pos) (dAug i de f) := .of (ps_aug hN hi hx he.pe ho hf) (sim_aug sE)

/-! ### texts -/
def oRepS : O2 := fun x y R => match x, y with
  | .str s, .int n => n < 4611686018427387904 ∧ s.length * n.toNat ≤ 16000000 ∧ R (.str (List.replicate n.toNat s).flatten)
  | _, _ => False
theorem reps_fold (s : List Nat) : ∀ (n : Nat) (acc : Array Nat), (List.replicate n s.toArray).foldl (· ++ ·) acc = (acc.toList ++ (List.replicate n s).flatten).toArray
  | 0, acc => by simp
  | n + 1, acc => by
    rw [List.replicate_succ, List.foldl_cons, reps_fold s n, List.replicate_succ, List.flatten_cons]
    simp
theorem mul_eq (s : List Nat) (n : Int) : Txt.mul ⟨s.toArray⟩ n = ⟨((List.replicate n.toNat s).flatten).toArray⟩ := by
  unfold Txt.mul
  by_cases h : n < 1
  · have e : n.toNat = 0 := by omega
    rw [if_pos h, e]; rfl
  · rw [if_neg h]
    by_cases h2 : (n == 1 || (⟨s.toArray⟩ : Str).length == 0) = true
    · rw [if_pos h2]
      simp only [Bool.or_eq_true, beq_iff_eq] at h2
      rcases h2 with h2 | h2
      · subst h2; simp
      · have : s = [] := by
          have z : s.length = 0 := by simpa [Str.length] using h2
          exact List.eq_nil_of_length_eq_zero z
        subst this; simp
    · rw [if_neg h2, reps_fold]; rfl
theorem op_repS : OpR X (binaryOp .Mult) (fun x y H Q => ∃ z n, x = .str z ∧ y = .int n ∧ n < 4611686018427387904 ∧ z.length * n.toNat ≤ 16000000 ∧ Q (.str (Txt.mul z n)) H ∧ -4611686018427387904 < n) := by
  intro pins s σ H x y v u Q I rx ry h
  obtain ⟨z, n, rfl, rfl, h1, h2, q, h0⟩ := h
  obtain ⟨t, rfl⟩ := rx
  obtain ⟨t', rfl⟩ := ry
  refine PySem.SB.mul ⟨?_, fun h3 _ h4 => ?_, fun h3 _ => ?_⟩ fun t' k => ⟨.str _, H, I.tok _, ⟨_, rfl⟩, q⟩
  · have e1 : decide (n < -(2 ^ 63 : Int)) = false := decide_eq_false (by omega)
    have e2 : decide (n ≥ 2 ^ 63) = false := decide_eq_false (by omega)
    rw [e1, e2]; rfl
  · have h5 : (1 : Int) ≤ n := by omega
    have h6 : (z.length : Int) * n ≤ 16000000 := by
      have : n = (n.toNat : Int) := by omega
      rw [this, ← Int.natCast_mul]
      exact Int.ofNat_le.mpr h2
    have h7 : (z.length : Int) ≤ (2 ^ 63 - 1) / n := by
      rw [Int.le_ediv_iff_mul_le (by omega)]
      have : (2 : Int) ^ 63 = 9223372036854775808 := by decide
      omega
    omega
  · unfold PySem.Builtin.Str.tooLong
    rw [decide_eq_false_iff_not]
    have e : sizeLine = 16777216 := sizeLine_eq
    omega
theorem simr_repS {K : PySem.W.Frag} : SimR K (fun x y H Q => ∃ z n, x = .str z ∧ y = .int n ∧ n < 4611686018427387904 ∧ z.length * n.toNat ≤ 16000000 ∧ Q (.str (Txt.mul z n)) H ∧ -4611686018427387904 < n) (fun x y R => (match y with | .int n => -4611686018427387904 < n | _ => False) ∧ oRepS x y R) := fun B G H x y d e s rx ry Q R k q => by
  obtain ⟨q0, q⟩ := q
  unfold oRepS at q
  split at q
  · cases rx; cases ry
    refine ⟨_, _, rfl, rfl, q.1, by simpa [Str.length] using q.2.1, k _ G H _ s ?_ q.2.2, q0⟩
    rw [mul_eq]; exact .str _
  · exact q.elim
def oRepT : O2 := fun x y R => (match y with | .int n => -4611686018427387904 < n | _ => False) ∧ oRepS x y R
theorem xRepS (ha : XEx X E a da) (hb : XEx X E b db) : XEx X E (.BinOp a .Mult b pos) (dOp oRepT da db) := xe_op op_repS simr_repS ha hb
/-- one sign in a text -/
def oInS : O2 := fun x y R => match x, y with
  | .str [c], .str t => R (.bl (decide (c ∈ t)))
  | _, _ => False
def oNiS : O2 := fun x y R => match x, y with
  | .str [c], .str t => R (.bl (!decide (c ∈ t)))
  | _, _ => False
theorem simr_inS {K : PySem.W.Frag} : SimR K (fun x y H Q => ∃ (c : Nat) (z : Str), x = .str ⟨#[c]⟩ ∧ y = .str z ∧ Q (.bl (decide (c ∈ z.cps.toList))) H) oInS := fun B G H x y d e s rx ry Q R k q => by
  unfold oInS at q
  split at q
  · cases rx; cases ry
    exact ⟨_, _, rfl, rfl, by simpa using k _ G H _ s (.bl _) q⟩
  · exact q.elim
theorem simr_niS {K : PySem.W.Frag} : SimR K (fun x y H Q => ∃ (c : Nat) (z : Str), x = .str ⟨#[c]⟩ ∧ y = .str z ∧ Q (.bl (!decide (c ∈ z.cps.toList))) H) oNiS := fun B G H x y d e s rx ry Q R k q => by
  unfold oNiS at q
  split at q
  · cases rx; cases ry
    exact ⟨_, _, rfl, rfl, by simpa using k _ G H _ s (.bl _) q⟩
  · exact q.elim
theorem xInS (ha : XEx X E a da) (hb : XEx X E b db) (hm : behindInMarks .In b = false := by rfl) : XEx X E (.Compare a [.In] [b] pos) (dOp oInS da db) := xe_cmp op_in_sign simr_inS ha hb hm
theorem xNiS (ha : XEx X E a da) (hb : XEx X E b db) (hm : behindInMarks .NotIn b = false := by rfl) : XEx X E (.Compare a [.NotIn] [b] pos) (dOp oNiS da db) := xe_cmp op_notIn_sign simr_niS ha hb hm
theorem xtInS (ha : XEx X E a da) (hb : XEx X E b db) (hm : behindInMarks .In b = false := by rfl) : XT X E (.Compare a [.In] [b] pos) (dTest (dOp oInS da db)) := xt_cmp op_in_sign simr_inS ha hb hm
theorem xtNiS (ha : XEx X E a da) (hb : XEx X E b db) (hm : behindInMarks .NotIn b = false := by rfl) : XT X E (.Compare a [.NotIn] [b] pos) (dTest (dOp oNiS da db)) := xt_cmp op_notIn_sign simr_niS ha hb hm
/-- s < t, s > t -/
def oLtS : O2 := fun x y R => match x, y with
  | .str s, .str t => R (.bl (decide (s < t)))
  | _, _ => False
def oGtS : O2 := fun x y R => match x, y with
  | .str s, .str t => R (.bl (decide (t < s)))
  | _, _ => False
theorem simr_ltS {K : PySem.W.Frag} : SimR K (fun x y H Q => ∃ i j, x = .str i ∧ y = .str j ∧ Q (.bl (decide (i.cps.toList < j.cps.toList))) H) oLtS := fun B G H x y d e s rx ry Q R k q => by
  unfold oLtS at q
  split at q
  · cases rx; cases ry
    exact ⟨_, _, rfl, rfl, by simpa using k _ G H _ s (.bl _) q⟩
  · exact q.elim
theorem simr_gtS {K : PySem.W.Frag} : SimR K (fun x y H Q => ∃ i j, x = .str i ∧ y = .str j ∧ Q (.bl (decide (j.cps.toList < i.cps.toList))) H) oGtS := fun B G H x y d e s rx ry Q R k q => by
  unfold oGtS at q
  split at q
  · cases rx; cases ry
    exact ⟨_, _, rfl, rfl, by simpa using k _ G H _ s (.bl _) q⟩
  · exact q.elim
theorem xtLtS (ha : XEx X E a da) (hb : XEx X E b db) : XT X E (.Compare a [.Lt] [b] pos) (dTest (dOp oLtS da db)) := xt_cmp op_lt_str simr_ltS ha hb (nomark _)
theorem xtGtS (ha : XEx X E a da) (hb : XEx X E b db) : XT X E (.Compare a [.Gt] [b] pos) (dTest (dOp oGtS da db)) := xt_cmp op_gt_str simr_gtS ha hb (nomark _)
/-- ''.join of a list of texts -/
def strsD : List D → Option (List (List Nat))
  | [] => some []
  | .str s :: r => (strsD r).map (s :: ·)
  | _ => none
def dJoin0 (dj : DE) : DE := fun ρ xe R => dj ρ xe fun d => match d with
  | .lst xs => ∃ ps, strsD xs = some ps ∧ ps.flatten.length ≤ 16000000 ∧ R (.str ps.flatten)
  | _ => False
theorem strs_rep {K : PySem.W.Frag} {G : Hp} : ∀ {vs : List V} {xs : List D} {ps : List (List Nat)}, Reps K G vs xs → strsD xs = some ps → vs = (ps.map fun p => (⟨p.toArray⟩ : Str)).map V.str
  | _, _, _, .nil, h => by cases h; rfl
  | _, _, _, .cons (d := d) a t, h => by
    cases a with
    | str s =>
      simp only [strsD, Option.map_eq_some_iff] at h
      obtain ⟨ps, h1, rfl⟩ := h
      rw [strs_rep t h1]; rfl
    | non => cases h
    | bl b => cases h
    | int i => cases h
    | lst a b => cases h
    | tup a b => cases h
    | ins a b => cases h
    | dct a k b => cases h
    | dct0 a => cases h
theorem join0_eq : ∀ ps : List (List Nat), Txt.join ⟨#[]⟩ (ps.map fun p => (⟨p.toArray⟩ : Str)) = ⟨ps.flatten.toArray⟩ := by
  intro ps
  rw [TL.join_eq]
  induction ps with
  | nil => rfl
  | cons p r ih =>
    cases r with
    | nil => show (⟨p.toArray⟩ : Str) = _; simp
    | cons q r =>
      show (⟨p.toArray⟩ : Str) ++ ⟨#[]⟩ ++ Str.join ⟨#[]⟩ (List.map _ (q :: r)) = _
      rw [ih]
      show (⟨p.toArray ++ #[] ++ (q :: r).flatten.toArray⟩ : Str) = _
      simp
theorem join0_len (ps : List (List Nat)) : ((ps.map fun p => (⟨p.toArray⟩ : Str)).map (·.length)).sum = ps.flatten.length := by
  induction ps with
  | nil => rfl
  | cons p r ih =>
    rw [List.map_cons, List.map_cons, sum_cons, ih, List.flatten_cons, List.length_append]
    simp [Str.length]
theorem sim_join0 {K : PySem.W.Frag} {te : TE} (h : SimE K E te de) : SimE K E (tM1 (fun x xs H Q => ∃ a p, ∃ ys : List Str, x = .str a ∧ xs = [.ref p] ∧ (SqL K H p (ys.map V.str) ∨ SqT K H p (ys.map V.str)) ∧ (ys.map (·.length)).sum + ys.length * a.length ≤ 16777216 ∧ Q (.str (Txt.join a ys)) H) (tC (.str ⟨#[]⟩)) te) (dJoin0 de) :=
  fun B G0 H0 G H σ ρ I xe lx Q R k q => ⟨⟨_, rfl⟩, h B G0 H0 G H σ ρ I xe lx _ _ (fun v G' H' d t r z => by
    split at z
    · obtain ⟨ps, h1, h2, h3⟩ := z
      cases r with
      | lst a1 b1 =>
        refine ⟨_, _, ps.map fun p => (⟨p.toArray⟩ : Str), rfl, rfl, .inl (SqL.of ?_), ?_, ?_⟩
        · rw [← strs_rep b1 h1]; exact t.gh _ _ a1
        · rw [join0_len]
          have : (⟨#[]⟩ : Str).length = 0 := rfl
          rw [this]; omega
        · rw [join0_eq]; exact k _ G' H' _ t (.str _) h3
    · exact z.elim) q⟩
theorem xJoin0 {ps pa pc : Pos} {jj : Nat} {x : Str} (hx : x = ⟨#[]⟩ := by rfl) (he : XEx X E e de) (hs : starEach [e] X.env = [(false, eval e X.env)] := by rfl) (hbase : attributeBase (.Constant (.str x) jj ps) "join" X.env (eval (.Constant (.str x) jj ps) X.env) = eval (.Constant (.str x) jj ps) X.env := by rfl) (hline : (pa.endLine == pc.line) = true := by rfl) :
    XEx X E (.Call (.Attribute (.Constant (.str x) jj ps) "join" pa) [e] [] pc) (dJoin0 de) := by
  subst hx
  exact .of (pe_join pe_str he.pe hs hbase hline) (sim_join0 sE)
/-- s[::-1] -/
def dRevS (de : DE) : DE := fun ρ xe R => de ρ xe fun d => match d with
  | .str s => s.length ≤ sizeLine ∧ R (.str s.reverse)
  | _ => False
end
end DL

namespace DL
open PySem PySem.Spec L2
open PyProof.Rows hiding St

section
variable {X : Cx} {E : XK} {a b c e : Expr} {da db dc de : DE} {pos p : Pos}
/-! ### s[::-1] -/
def tRevT (te : TE) : TE := fun σ H Q => te σ H fun x H1 => ∃ z : Str, x = .str z ∧ z.length ≤ sizeLine ∧ Q (.str ⟨z.cps.toList.reverse.toArray⟩) H1
theorem rev_picked (z : Str) (tk : Tok) : ((slicePicked z none none (some (-1, tk))).filterMap (z.cps[·]?)).toArray = z.cps.toList.reverse.toArray := by
  have e : slicePicked z none none (some (-1, tk)) = (List.range z.cps.size).reverse := by
    show sliceRange ((z.cps.size : Int) - 1) (-1) (-1) = _
    rw [PySem.W.krv_sliceRange, PySem.W.krv_range]
  rw [e, List.filterMap_reverse, PySem.W.krv_all]
theorem pe_revT {te : TE} {k : Nat} {p1 p2 p3 : Pos} (he : PE X e te) : PE X (.Subscript e (.Slice none none (some (.UnaryOp .USub (.Constant (.int 1) k p1) p2)) p3) pos) (tRevT te) := by
  refine ⟨fun pins s σ H Q I h => Subscript_ (thn (he.run pins s σ H _ I h) fun v s1 ⟨x, H1, I1, r1, z, ez, hz, q⟩ => ?_)⟩
  subst ez
  obtain ⟨t, rfl⟩ := r1
  have minus : PO X (some (.UnaryOp .USub (.Constant (.int 1) k p1) p2)) (tPart (tUn (rU fun i => .int (-i)) (tC (.int 1)))) := po_some (pe_un un_neg pe_int)
  refine wpAny_Slice (thn (po_none.run pins s1 σ H1 (fun o G => o = none ∧ G = H1) I1 ⟨rfl, rfl⟩) fun v1 s2 ⟨o1, G1, J1, q1, e1, f1⟩ => ?_)
  subst e1 f1
  refine thn (po_none.run pins s2 σ G1 (fun o G => o = none ∧ G = G1) J1 ⟨rfl, rfl⟩) fun v2 s3 ⟨o2, G2, J2, q2, e2, f2⟩ => ?_
  subst e2 f2
  refine thn (minus.run pins s3 σ G2 (fun o G => o = some (-1) ∧ G = G2) J2 ⟨1, rfl, -1, rfl, rfl, rfl⟩) fun v3 s4 ⟨o3, G3, J3, q3, e3, f3⟩ => ?_
  subst e3 f3
  obtain ⟨l1, rfl, m1⟩ := IsPart.raw q1
  obtain ⟨l2, rfl, m2⟩ := IsPart.raw q2
  obtain ⟨l3, rfl, m3⟩ := IsPart.raw q3
  have n1 : l1 = none := by cases l1 <;> simp_all
  have n2 : l2 = none := by cases l2 <;> simp_all
  obtain ⟨tk, rfl⟩ : ∃ tk, l3 = some (-1, tk) := by
    cases l3 with
    | none => cases m3
    | some y =>
      obtain ⟨i, tk⟩ := y
      have : i = -1 := by simpa using m3
      subst this
      exact ⟨tk, rfl⟩
  subst n1 n2
  have J5 : Inv X pins σ G3 { s4 with heap := s4.heap.push { cls := .type "slice", data := .fields #[partValue none, partValue none, partValue (some (-1, tk))] } } := J3.kept (t' := s4.toks) fun b ob q => Heap.get?_push_of_some _ q
  refine tail_any (ops := [.str z t, .ref s4.heap.objs.size]) (typeIs_str _ z t) F.slot_str_getitem.lookup ?_ (by with_unfolding_all rfl)
  refine wpAny_getItem_str_slice (l := none) (u := none) (st := some (-1, tk)) ⟨_, Heap.get?_push_size _ rfl, rfl, rfl⟩ (by rfl) ?_
  unfold sliceMade
  rw [if_neg (by simp), rev_picked]
  refine ⟨by simpa [Str.length] using hz, .str _, G3, J5.tok _, ⟨_, rfl⟩, q⟩
theorem xRevS {k : Nat} {p1 p2 p3 : Pos} (h : XEx X E e de) : XEx X E (.Subscript e (.Slice none none (some (.UnaryOp .USub (.Constant (.int 1) k p1) p2)) p3) pos) (dRevS de) := .of (pe_revT h.pe) fun B G0 H0 G H σ ρ I xe lx Q R kk q =>
  sE B G0 H0 G H σ ρ I xe lx _ _ (fun v G' H' d t r z => by
    split at z
    · cases r
      exact ⟨_, rfl, by simpa [Str.length] using z.1, kk _ G' H' _ t (.str _) z.2⟩
    · exact z.elim) q

/-! ### xs * n -/
theorem simr_repL {K : PySem.W.Frag} : SimR K rRep (fun x y R => (match y with | .int n => -(2 ^ 63) ≤ n ∧ n < 2 ^ 63 | _ => False) ∧ oRepL x y R) := fun B G H x y d e s rx ry Q R k q => by
  obtain ⟨q0, q⟩ := q
  unfold oRepL at q
  split at q
  · cases rx with
    | lst a1 b1 =>
      cases ry
      exact ⟨_, _, _, rfl, rfl, s.gh _ _ a1, q.1, q.2.1, by rw [b1.length]; exact q.2.2.1, s.lst (b1.flat _) k q.2.2.2⟩
  · exact q.elim
def oRepM : O2 := fun x y R => (match y with | .int n => -(2 ^ 63) ≤ n ∧ n < 2 ^ 63 | _ => False) ∧ oRepL x y R
theorem xRepL (ha : XEx X E a da) (hb : XEx X E b db) : XEx X E (.BinOp a .Mult b pos) (dOp oRepM da db) := xe_op op_rep simr_repL ha hb

/-! ### a, b = e (a tuple of two) -/
def dUnpack2 (i j : Nat) (de : DE) : DS := fun C ρ => de ρ C.xe fun d => match d with
  | .tup [x, y] => C.nx ((ρ.set i (.dd x)).set j (.dd y))
  | _ => False
theorem sim_unpack2 {K : PySem.W.Frag} {i j : Nat} {te : TE} (h : SimE K E te de) : SimS K E (tAsg te (gTup K 2 (gCons (gName i) (gCons (gName j) gNil)))) (dUnpack2 i j de) := fun B G0 H0 G H σ ρ I Gs sg D C l q =>
  h B G0 H0 G H σ ρ I C.xe l.xe _ _ (fun v G' H' d t r z => by
    split at z
    · cases r with
      | tup a1 b1 =>
        cases b1 with
        | cons r1 b1 => cases b1 with
          | cons r2 b1 =>
            cases b1
            exact ⟨_, _, rfl, SqT.of (t.gh _ _ a1), rfl, _, _, rfl, _, _, rfl, rfl, l.nx G' H' _ _ (sg.trans t.gg) (((I.step t).set r1).set r2) z⟩
    · exact z.elim) q
theorem xs_unpack2 {i j : Nat} {tg : Expr} (hc : X.calm = true) (he : XEx X E e de) (hg : PG X tg (gTup X.K 2 (gCons (gName i) (gCons (gName j) gNil)))) (hs : swapsWithSole [tg] e pos.line X.env = pure false := by rfl) (hw : swappedStores [tg] e X.env = pure none := by rfl)
    (h1 : (assignEach [tg] X.env).map (·.2) = [assign tg X.env] := by rfl) : XS X E (.Assign [tg] e pos) (dUnpack2 i j de) := .of (ps_asg he.pe hg hs hw h1) (sim_unpack2 sE)

/-! ### isinstance -/
def tyName : D → String
  | .non => "NoneType"
  | .bl _ => "bool"
  | .int _ => "int"
  | .str _ => "str"
  | .lst _ => "list"
  | .tup _ => "tuple"
  | .ins _ _ _ => "?"
  | .dct _ _ => "dict"
def dIsi (T : String) (de : DE) : DE := fun ρ xe R => de ρ xe fun d => ∃ k, kitB (tyName d) T = some k ∧ R (.bl k)
theorem Rep.tyx {K : PySem.W.Frag} {G H : Hp} {v : V} {d : D} (g : Same G H) (r : Rep K G v d) (h : tyName d ≠ "?") : TyX K H v (.type (tyName d)) := by
  cases r with
  | non => exact .base .non
  | bl b => exact .base (.bl b)
  | int i => exact .base (.int i)
  | str s => exact .base (.str _)
  | lst a b => exact .base (.lst (g _ _ a))
  | tup a b => exact .base (.tup (g _ _ a))
  | ins a b => exact absurd rfl h
  | dct a k b => exact .fDict (g _ _ a)
  | dct0 a => exact .base (.dK (g _ _ a))
theorem kit_no {T : String} {k : Bool} (hT : kitB "?" T = none) (h : kitB "?" T = some k) : False := by rw [hT] at h; cases h
theorem sim_isi {K : PySem.W.Frag} {T : String} {te : TE} (hT : kitB "?" T = none) (h : SimE K E te de) : SimE K E (tCB (rIsi K) (tCons te (tCons (tC (.ty T)) tNil))) (dIsi T de) := fun B G0 H0 G H σ ρ I xe lx Q R k q =>
  h B G0 H0 G H σ ρ I xe lx _ _ (fun v G' H' d t r z => by
    obtain ⟨kk, z1, z2⟩ := z
    exact ⟨v, .ty T, _, _, kk, rfl, .ty T, r.tyx t.gh (fun e => by rw [e] at z1; exact kit_no hT z1), kit_ty z1, k _ G' H' _ t (.bl _) z2⟩) q
theorem xIsi {T : String} {x : Str} {px : Pos} (hg : Gl X "isinstance") (hm : X.mg "isinstance" = none) (hx : Gl X x) (mx : X.mg x = none) (he : XEx X E e de) (hv : bootBuiltins x = some (.type T) := by decide +kernel) (hT : kitB "?" T = none := by decide +kernel) (hn : x ≠ "__name__" := by decide) (hd : (x == ("__debug__" : Str)) = false := by decide)
    (h1 : starEach [e, .Name x px] X.env = (false, eval e X.env) :: starEach [.Name x px] X.env := by rfl) (h2 : starEach [.Name x px] X.env = (false, eval (.Name x px) X.env) :: starEach [] X.env := by rfl) (hpl : (backTo pos (starEach [.Name x px] X.env)).any (·.1) = false := by rfl) :
    XEx X E (.Call (.Name "isinstance" p) [e, .Name x px] [] pos) (dIsi T de) :=
  .of (pe_callB call_isi hg hm (by decide +kernel) (pa_cons he.pe (pa_cons (pe_bltn (v := .ty T) hx mx hv rfl hn hd) pa_nil h2) h1) (he := h1) (hpl := hpl)) (sim_isi hT sE)

/-! ### sum of numbers -/
def intsD : List D → Option (List Int)
  | [] => some []
  | .int i :: r => (intsD r).map (i :: ·)
  | _ => none
theorem ints_rep {K : PySem.W.Frag} {G : Hp} : ∀ {vs : List V} {xs : List D} {ns : List Int}, Reps K G vs xs → intsD xs = some ns → vs = ns.map V.int
  | _, _, _, .nil, h => by cases h; rfl
  | _, _, _, .cons (d := d) a t, h => by
    cases a with
    | int i =>
      simp only [intsD, Option.map_eq_some_iff] at h
      obtain ⟨ps, h1, rfl⟩ := h
      rw [ints_rep t h1]; rfl
    | non => cases h
    | bl b => cases h
    | str s => cases h
    | lst a b => cases h
    | tup a b => cases h
    | ins a b => cases h
    | dct a k b => cases h
    | dct0 a => cases h
def cSum : OC := fun ds R => match ds with
  | [.lst xs] => ∃ ns, intsD xs = some ns ∧ R (.int ns.sum)
  | _ => False
theorem simc_sum {K : PySem.W.Frag} : SimC K (rSum K) cSum := fun B G H vs ds s r Q R k q => by
  unfold cSum at q
  split at q
  · obtain ⟨ns, h1, h2⟩ := q
    cases r with
    | cons r1 r =>
      cases r
      cases r1 with
      | lst a1 b1 =>
        refine ⟨_, ns, rfl, SqL.of ?_, k _ G H _ s (.int _) h2⟩
        rw [← ints_rep b1 h1]; exact s.gh _ _ a1
  · exact q.elim
theorem xSum (hc : X.calm = true) (hg : Gl X "sum") (hm : X.mg "sum" = none) (ha : XEx X E e de) (he : starEach [e] X.env = (false, eval e X.env) :: starEach [] X.env := by rfl) : XEx X E (.Call (.Name "sum" p) [e] [] pos) (dCB cSum (dCons de dNil)) := xCB (cr_sum hc) simc_sum hg hm (by decide +kernel) (xa_cons ha xa_nil he) (he := he)

/-! ### x in xs (flat things) -/
theorem Rep.fl {K : PySem.W.Frag} {G : Hp} {v : V} {d : D} (r : Rep K G v d) (h : flatD d = true) : flatV v = true := by
  cases r with
  | non => rfl
  | bl b => rfl
  | int i => rfl
  | str s => rfl
  | lst a b => cases h
  | tup a b => cases h
  | ins a b => cases h
  | dct a k b => cases h
  | dct0 a => cases h
/-- texts in a list of texts -/
def oInL : O2 := fun x y R => match x, y with
  | .str s, .lst xs => ∃ ps, strsD xs = some ps ∧ R (.bl (decide (s ∈ ps)))
  | _, _ => False
def oNiL : O2 := fun x y R => match x, y with
  | .str s, .lst xs => ∃ ps, strsD xs = some ps ∧ R (.bl (!decide (s ∈ ps)))
  | _, _ => False
theorem inV_strs (s : List Nat) (ps : List (List Nat)) : inV (.str ⟨s.toArray⟩) ((ps.map fun p => (⟨p.toArray⟩ : Str)).map V.str) = decide (s ∈ ps) := by
  unfold inV
  induction ps with
  | nil => rfl
  | cons q r ih =>
    rw [List.map_cons, List.map_cons, List.any_cons, ih]
    have e : eqV (.str ⟨q.toArray⟩) (.str ⟨s.toArray⟩) = decide (s = q) := by
      show ((⟨q.toArray⟩ : Str) == ⟨s.toArray⟩) = _
      rw [Bool.beq_eq_decide_eq]
      exact decide_eq_decide.mpr ⟨fun z => by
        have h2 := congrArg (fun s : Str => s.cps.toList) z
        simpa using h2.symm, fun z => by rw [z]⟩
    rw [e]
    by_cases h1 : s = q
    · subst h1; simp
    · simp [h1]
theorem flat_strs (ps : List (List Nat)) : ((ps.map fun p => (⟨p.toArray⟩ : Str)).map V.str).all flatV = true := by
  rw [List.all_eq_true]
  intro x hx
  obtain ⟨y, _, rfl⟩ := List.mem_map.mp hx
  rfl
theorem simr_inL {K : PySem.W.Frag} : SimR K (rIn K false) oInL := fun B G H x y d e s rx ry Q R k q => by
  unfold oInL at q
  split at q
  · rename_i w xs
    obtain ⟨ps, h1, h2⟩ := q
    cases rx
    cases ry with
    | lst a1 b1 =>
      have ev := strs_rep b1 h1
      refine ⟨_, _, rfl, .inl (SqL.of (s.gh _ _ a1)), rfl, by rw [ev]; exact flat_strs ps, ?_⟩
      rw [ev, inV_strs]
      exact k _ G H _ s (.bl _) h2
  · exact q.elim
theorem simr_niL {K : PySem.W.Frag} : SimR K (rIn K true) oNiL := fun B G H x y d e s rx ry Q R k q => by
  unfold oNiL at q
  split at q
  · rename_i w xs
    obtain ⟨ps, h1, h2⟩ := q
    cases rx
    cases ry with
    | lst a1 b1 =>
      have ev := strs_rep b1 h1
      refine ⟨_, _, rfl, .inl (SqL.of (s.gh _ _ a1)), rfl, by rw [ev]; exact flat_strs ps, ?_⟩
      rw [ev, inV_strs]
      exact k _ G H _ s (.bl _) h2
  · exact q.elim
theorem xtInL (ha : XEx X E a da) (hb : XEx X E b db) (hm : behindInMarks .In b = false := by rfl) : XT X E (.Compare a [.In] [b] pos) (dTest (dOp oInL da db)) := xt_cmp op_in_seq simr_inL ha hb hm
theorem xtNiL (ha : XEx X E a da) (hb : XEx X E b db) (hm : behindInMarks .NotIn b = false := by rfl) : XT X E (.Compare a [.NotIn] [b] pos) (dTest (dOp oNiL da db)) := xt_cmp op_notIn_seq simr_niL ha hb hm
theorem xs_doc {x : Str} {j pos pos'} : XS X E (.Expr (.Constant (.str x) j pos) pos') dNext := .of ps_doc fun B G0 H0 G H σ ρ I Gs sg D C l q => l.nx G H σ ρ sg I q
end
end DL

namespace DL
open PySem PySem.Spec L2
open PyProof.Rows hiding St

/-! ### list(text) -/
def rListS : List V → Hp → VK → Prop := fun xs H Q => ∃ s : List Nat, xs = [.str ⟨s.toArray⟩] ∧ s.length ≤ sizeLine ∧ ∀ l, H l = none → Q (.ref l) (upd H l (.lst (s.map fun c => .str ⟨#[c]⟩)))
theorem vals_signs : ∀ {s : List Nat} {us : List Value}, us.length = s.length → (∀ (j : Nat) v, us[j]? = some v → ∃ c u, s[j]? = some c ∧ v = Value.str ⟨#[c]⟩ u) → Vals (s.map fun c => V.str ⟨#[c]⟩) us
  | [], [], _, _ => .nil
  | [], _ :: _, h, _ => by simp at h
  | _ :: _, [], h, _ => by simp at h
  | c :: s, u :: us, h, k => by
    obtain ⟨c', t, e, f⟩ := k 0 u rfl
    have : c = c' := by simpa using e
    subst this
    refine .cons ⟨t, f⟩ (vals_signs (by simpa using h) fun j v e => ?_)
    exact k (j + 1) v (by simpa using e)
theorem call_listS {X : Cx} (hc : X.calm = true) : CallR X (.type "list") rListS := fun pins s σ H xs us Q I r ⟨z, e, l, q⟩ => by
  subst e
  cases r with
  | cons r1 r =>
    cases r
    obtain ⟨t, rfl⟩ := r1
    refine PySem.call_list_str (I.ok.hd hc) ⟨z.toArray⟩ t (fun h' tk acc' c' hk ha it => ?_) (by simpa using l)
    refine ⟨.ref s.heap.objs.size, upd H s.heap.objs.size (.lst (z.map fun c => .str ⟨#[c]⟩)), I.laid hk (Nat.le_refl _) ?_, rfl, q _ I.fresh⟩
    refine ⟨by simpa using l, acc'.toList, c', ?_, by simpa using ha⟩
    refine vals_signs (by have := it.1; simpa using this) fun j v e => ?_
    obtain ⟨c, u, h1, h2⟩ := it.2 j v (by simpa using e)
    exact ⟨c, u, by simpa using h1, h2⟩

def cListS : OC := fun ds R => match ds with
  | [.str s] => s.length ≤ sizeLine ∧ R (.lst (s.map fun c => .str [c]))
  | _ => False
theorem simc_listS {K : PySem.W.Frag} : SimC K rListS cListS := fun B G H vs ds s r Q R k q => by
  unfold cListS at q
  split at q
  · cases r with
    | cons r1 r =>
      cases r; cases r1
      rename_i z
      have h : Reps K G (z.map fun c => V.str ⟨#[c]⟩) (z.map fun c => D.str [c]) := by
        clear q
        induction z with
        | nil => exact .nil
        | cons c z ih => exact .cons (.str [c]) ih
      exact ⟨z, rfl, q.1, s.lst h k q.2⟩
  · exact q.elim

/-! ### sorted, whole numbers -/
def cSorted : OC := fun ds R => match ds with
  | [.lst xs] => ∃ ns : List Int, xs = ns.map D.int ∧ ∀ ns' : List Int, ns'.Perm ns → ns'.Pairwise (· ≤ ·) → R (.lst (ns'.map D.int))
  | _ => False
theorem reps_ints {K : PySem.W.Frag} {G : Hp} : ∀ {ns : List Int} {vs : List V}, Reps K G vs (ns.map D.int) → vs = ns.map V.int
  | [], _, h => by cases h; rfl
  | n :: ns, _, h => by
    cases h with
    | cons a b => cases a; rw [reps_ints b]; rfl
theorem ints_reps {K : PySem.W.Frag} {G : Hp} : ∀ ns : List Int, Reps K G (ns.map V.int) (ns.map D.int)
  | [] => .nil
  | n :: ns => .cons (.int n) (ints_reps ns)
theorem simc_sorted {K : PySem.W.Frag} : SimC K (rSortedI K) cSorted := fun B G H vs ds s r Q R k q => by
  unfold cSorted at q
  split at q
  · cases r with
    | cons r1 r =>
      cases r
      cases r1 with
      | lst a1 b1 =>
        obtain ⟨ns, rfl, q⟩ := q
        have e := reps_ints b1
        subst e
        exact ⟨_, ns, rfl, SqL.of (s.gh _ _ a1), fun ns' p pm so hp => s.lst (ints_reps ns') k (q ns' pm so) p hp⟩
  · exact q.elim
section
variable {X : Cx} {E : XK} {e a b c : Expr} {es : List Expr} {da : DA} {de : DE} {p pos : Pos}
theorem xListS (hc : X.calm = true) (hg : Gl X "list") (hm : X.mg "list" = none) (ha : XEx X E e de) (he : starEach [e] X.env = (false, eval e X.env) :: starEach [] X.env := by rfl) : XEx X E (.Call (.Name "list" p) [e] [] pos) (dCB cListS (dCons de dNil)) := xCT (call_listS hc) simc_listS hg hm (by decide +kernel) (xa_cons ha xa_nil he) (he := he)
theorem xSorted (hg : Gl X "sorted") (hm : X.mg "sorted" = none) (ha : XEx X E e de) (he : starEach [e] X.env = (false, eval e X.env) :: starEach [] X.env := by rfl) : XEx X E (.Call (.Name "sorted" p) [e] [] pos) (dCB cSorted (dCons de dNil)) := xCB cr_sortedI simc_sorted hg hm (by decide +kernel) (xa_cons ha xa_nil he) (he := he)

/-! ### enumerate, range with a step -/
def pairs (xs : List D) : List D := xs.zipIdx.map fun x => D.tup [.int (x.2 : Int), x.1]
def dEnum (da : DA) : DI := fun ρ xe R => da ρ xe fun ds => match ds with
  | [.lst xs] => R (pairs xs)
  | _ => False
theorem pairs_length {xs : List D} : (pairs xs).length = xs.length := by unfold pairs; simp
theorem pairs_get {xs : List D} {i : Nat} {d : D} (h : (pairs xs)[i]? = some d) : ∃ x, xs[i]? = some x ∧ d = .tup [.int (i : Int), x] := by
  unfold pairs at h
  rw [List.getElem?_map, List.getElem?_zipIdx] at h
  cases e : xs[i]? with
  | none => rw [e] at h; cases h
  | some x =>
    rw [e] at h
    refine ⟨x, rfl, ?_⟩
    have := Option.some.inj h
    rw [← this, Nat.zero_add]
theorem jok_enum {K : PySem.W.Frag} {B : Option Addr} {G H : Hp} {a : Addr} {vs : List V} {ds : List D} (h : G a = some (.lst vs)) (r : Reps K G vs ds) : JOk K B (Ite K a) (pairs ds) G H := fun G' H' s1 s2 bg i => by
  have hl : SqL K H' a vs := SqL.of (s2 _ _ (s1 _ _ h))
  refine ⟨fun d e => ?_, fun l => ⟨vs, hl, by rw [r.length]; rw [pairs_length] at l; exact l⟩⟩
  obtain ⟨x0, e0, rfl⟩ := pairs_get e
  obtain ⟨v, e1, e2⟩ := r.get e0
  refine ⟨⟨vs, v, hl, e1⟩, fun x H'' y => ?_⟩
  obtain ⟨T, u, rfl, hT, rfl, f⟩ := y
  have := f vs hl
  rw [e1] at this
  cases this
  have st : Stt B G' H' G' H' := Stt.refl s2 bg
  exact ⟨_, st.new hT, .tup upd_same (.cons (.int _) (.cons ((e2.mono s1).mono (st.new hT).gg) .nil))⟩
theorem xi_enum {elts : List Expr} {kk : Nat} {tpos : Pos} (hg : Gl X "enumerate") (hm : X.mg "enumerate" = none) (h : XA X E [e] da) (hs : starEach [e] X.env = [(false, eval e X.env)] := by rfl) : XI X E (.Tuple elts kk tpos) (.Call (.Name "enumerate" p) [e] [] pos) (iEnum X.K (cA X.K E da)) (dEnum da) :=
  ⟨pi_enum hg hm h.pa hs, fun B G0 H0 G H σ ρ I xe lx R RR k q => sA B G0 H0 G H σ ρ I xe lx _ _ (fun vs G' H' ds t r z => by
    split at z
    · cases r with
      | cons r1 r =>
        cases r
        cases r1 with
        | lst a1 b1 => exact ⟨_, _, rfl, SqL.of (t.gh _ _ a1), k _ _ _ _ t (jok_enum a1 b1) z⟩
    · exact z.elim) q⟩
/-- lo, lo + c, .. -/
def spanC (lo c : Int) (n : Nat) : List D := (List.range n).map fun (i : Nat) => D.int (lo + (i : Int) * c)
theorem spanC_get {lo c : Int} {n i : Nat} {d : D} (h : (spanC lo c n)[i]? = some d) : i < n ∧ d = .int (lo + (i : Int) * c) := by
  unfold spanC at h
  rw [List.getElem?_map] at h
  by_cases l : i < n
  · rw [List.getElem?_range l] at h
    exact ⟨l, (Option.some.inj h).symm⟩
  · rw [List.getElem?_eq_none (by simpa using l)] at h; cases h
theorem spanC_length {lo c : Int} {n : Nat} : (spanC lo c n).length = n := by unfold spanC; simp
theorem jok_rngC {K : PySem.W.Frag} {B : Option Addr} {G H : Hp} {lo c : Int} {n : Nat} : JOk K B (Itc lo c n) (spanC lo c n) G H := fun G' H' s1 s2 bg i => by
  refine ⟨fun d e => ?_, fun l => by rw [spanC_length] at l; exact l⟩
  obtain ⟨l, rfl⟩ := spanC_get e
  refine ⟨l, fun x H'' y => ?_⟩
  obtain ⟨rfl, rfl⟩ := y
  exact ⟨G', Stt.refl s2 bg, .int _⟩
def dRng3 (da : DA) : DI := fun ρ xe R => da ρ xe fun ds => match ds with
  | [.int i, .int j, .int c] => ∃ n : Nat, RgC i j c n ∧ R (spanC i c n)
  | _ => False
theorem xi_rng3 {tg : Expr} (hg : Gl X "range") (hm : X.mg "range" = none) (h : XA X E [a, b, c] da) (hs : starEach [a, b, c] X.env = (false, eval a X.env) :: starEach [b, c] X.env := by rfl) (hp : ((backTo pos (starEach [b, c] X.env)).any fun x => x.fst) = false := by rfl) :
    XI X E tg (.Call (.Name "range" p) [a, b, c] [] pos) (iRng3 (cA X.K E da)) (dRng3 da) :=
  ⟨pi_range3 hg hm h.pa hs hp, fun B G0 H0 G H σ ρ I xe lx R RR k q => sA B G0 H0 G H σ ρ I xe lx _ _ (fun vs G' H' ds t r z => by
    split at z
    · cases r with
      | cons r1 r =>
        cases r with
        | cons r2 r =>
          cases r with
          | cons r3 r =>
            cases r; cases r1; cases r2; cases r3
            obtain ⟨n, hn, z⟩ := z
            exact ⟨_, _, _, n, rfl, hn, k _ _ _ _ t jok_rngC z⟩
    · exact z.elim) q⟩
end
/-- n - 1, .., 0 -/
theorem rgc_down {n : Int} (h0 : -1 ≤ n) (h1 : n < 2 ^ 62) : RgC n (-1) (-1) (n + 1).toNat := by
  have z : Builtin.Range.rangeSize n (-1) (-1) = ((n + 1).toNat : Int) := by
    unfold Builtin.Range.rangeSize
    rw [if_neg (by decide)]
    by_cases h : n > -1
    · rw [if_pos h, show -(-1 : Int) = 1 by rfl, Int.ediv_one]; omega
    · rw [if_neg h]; omega
  refine ⟨by decide, by decide, ?_, z⟩
  unfold Builtin.Range.small
  rw [z]
  simp only [Builtin.Range.rangeFitsLong]
  simp
  omega
end DL

namespace DL
open PySem PySem.Spec L2
open PyProof.Rows hiding St

/-! ### fresh results: lists that nobody else holds -/
theorem Stt.before {B : Option Addr} {G0 H0 G H : Hp} {p : Addr} (s : Stt B G0 H0 G H) (h : H p = none) : H0 p = none := by
  cases z : H0 p with
  | none => rfl
  | some u =>
    by_cases n : some p = B
    · obtain ⟨_, _, _, _, _, _, g, _⟩ := s.bag p n.symm
      rw [h] at g; cases g
    · rw [s.hh p u n z] at h; cases h
/-- return [..] -/
def dRetL (da : DA) : DS := fun C ρ => da ρ C.xe fun ds => ds.length ≤ sizeLine ∧ nols ds = true ∧ C.rf (.lst ds)
/-- return x, an owned list -/
def dRetO (i : Nat) : DS := fun C ρ => match ρ[i]? with
  | some (.own ds) => nols ds = true ∧ C.rf (.lst ds)
  | _ => False
section
variable {X : Cx} {E : XK} {es : List Expr} {da : DA} {pl pos : Pos}
theorem xs_retL (h : XA X E es da) : XS X E (.Return (some (.List es pl)) pos) (dRetL da) := .of (ps_ret (pe_lst h.pa)) fun B G0 H0 G H σ ρ I Gs sg D C l q =>
  sA B G0 H0 G H σ ρ I C.xe l.xe _ _ (fun vs G' H' ds t r z => ⟨by rw [r.length]; exact z.1, fun p hp => by
    have I' := I.step t
    have n := I'.st.new (o := .lst vs) hp
    exact l.rf (.ref p) (.lst ds) _ _ (I'.st.trans n) (.lst upd_same (r.mono n.gg)) (.lst (I'.st.before hp) upd_same (DNs.flat r.length z.2.1)) z.2.2⟩) q
theorem xs_retO {i : Nat} {x : Str} {p : Pos} (hv : PE X (.Name x p) (tVar i)) : XS X E (.Return (some (.Name x p)) pos) (dRetO i) := .of (ps_ret hv) fun B G0 H0 G H σ ρ I Gs sg D C l q => by
  unfold dRetO at q
  split at q
  · rename_i ds e
    obtain ⟨p, vs, h1, h2, h3, h4, h5, h6⟩ := I.owned e
    obtain ⟨G', sm, I'⟩ := I.freeze e
    have il : i < ρ.length := (List.getElem?_eq_some_iff.mp e).1
    obtain ⟨v, g1, g2⟩ := I'.var (i := i) (d := .lst ds) (by rw [List.getElem?_set_self il])
    rw [h1] at g1
    cases g1
    cases g2 with
    | lst a1 b1 => exact ⟨_, h1, l.rf (.ref p) (.lst ds) G' H I'.st (.lst a1 b1) (.lst h5 a1 (DNs.flat b1.length q.1)) q.2⟩
  · exact q.elim
end
def spF (K : PySem.W.Frag) (S : DSp) : Sp := fun vs H Q E => ∃ B G ds xe R, Reps K G vs ds ∧ Stt B G H G H ∧ LinkX K B G H E xe ∧ S ds xe R ∧ ∀ v G' H' d, Stt B G H G' H' → Rep K G' v d → DN K H G' v d → R d → Q v H'
def spFB (K : PySem.W.Frag) (S : DSp) : Sp := fun vs H Q E => ∃ b vs' G ds xe R, vs = .ref b :: vs' ∧ Reps K G vs' ds ∧ Stt (some b) G H G H ∧ LinkX K (some b) G H E xe ∧ S ds xe R ∧ ∀ v G' H' d, Stt (some b) G H G' H' → Rep K G' v d → DN K H G' v d → R d → Q v H'
/-- what a body shows of such a promise -/
def OkNF (m n : Nat) (S : DSp) (body : DS) : Prop := ∀ ds xe R, S ds xe R → ds.length = m ∧ body { nx := fun _ => R .non, rt := fun _ => False, rf := R, xe := xe } (ds.map Sl.dd ++ uns (n - m))
def OkBF (m n : Nat) (S : DSp) (body : DS) : Prop := ∀ ds xe R, S ds xe R → ds.length = m ∧ body { nx := fun _ => R .non, rt := fun _ => False, rf := R, xe := xe } (.bg :: ds.map Sl.dd ++ uns (n - (m + 1)))
section
variable {P : Program} {w : World} {K : PySem.W.Frag} {mg : Str → Option Value} {base : Heap} {x qual : Str} {st : Stmt} {f : Addr} {fd : FuncData} {N ps : List Str} {k : Nat} {S : DSp} {body : DS}
theorem okNF {m n : Nat} (F : Fun K x qual st f fd) (Z : FnScope N ps (defScope st)) (hm : ps.length = m) (hn : N.length = n) (hS : OkNF m n S body)
    (hb : ∀ (cv : Value) (A : Around) (o : List Env) (s : Shared) (H : Hp) (E : XK), RmG k (A.deeper (envOfC qual (defScope st) s.heap.objs.size f cv)) → XSs (cxOf (L2.CX P w) P w K mg base N qual (defScope st) f cv A o s H E) E (defBody st) body) :
    FnG P w K mg base (k + 1) f fd ps (spF K S) := by
  refine Fun.okG F Z (fun vs H Q E h => ?_) fun cv A o s H vs Q E rg h => ?_
  · obtain ⟨B, G, ds, xe, R, r, st, lx, hs, q⟩ := h
    rw [r.length, hm]; exact (hS ds xe R hs).1
  · obtain ⟨B, G, ds, xe, R, r, st, lx, hs, q⟩ := h
    obtain ⟨hl, hd⟩ := hS ds xe R hs
    refine ⟨_, (hb cv A o s H E rg).ps, B, G, H, G, G, _, { nx := fun _ => R .non, rt := fun _ => False, rf := R, xe := xe }, en_start st r, Same.refl _, ⟨fun G' H' σ ρ sg I z => ?_, fun _ _ _ _ _ _ z => z.elim, fun _ _ _ _ _ _ z => z.elim, fun _ _ _ _ _ _ z => z.elim, lx, fun v d G' H' t rv fr z => q v G' H' d t rv fr z⟩, ?_⟩
    · exact q _ G' H' _ I.st .non (.flat rfl) z
    · rw [hn, r.length, hl]; exact hd
theorem okBF {m n : Nat} (F : Fun K x qual st f fd) (Z : FnScope N ps (defScope st)) (hm : ps.length = m + 1) (hn : N.length = n) (hS : OkBF m n S body)
    (hb : ∀ (cv : Value) (A : Around) (o : List Env) (s : Shared) (H : Hp) (E : XK), RmG k (A.deeper (envOfC qual (defScope st) s.heap.objs.size f cv)) → XSs (cxOf (L2.CX P w) P w K mg base N qual (defScope st) f cv A o s H E) E (defBody st) body) :
    FnG P w K mg base (k + 1) f fd ps (spFB K S) := by
  refine Fun.okG F Z (fun vs H Q E h => ?_) fun cv A o s H vs Q E rg h => ?_
  · obtain ⟨b, vs', G, ds, xe, R, rfl, r, st, lx, hs, q⟩ := h
    rw [List.length_cons, r.length, hm, (hS ds xe R hs).1]
  · obtain ⟨b, vs', G, ds, xe, R, rfl, r, st, lx, hs, q⟩ := h
    obtain ⟨hl, hd⟩ := hS ds xe R hs
    refine ⟨_, (hb cv A o s H E rg).ps, some b, G, H, G, G, _, { nx := fun _ => R .non, rt := fun _ => False, rf := R, xe := xe }, en_startB st r, Same.refl _, ⟨fun G' H' σ ρ sg I z => ?_, fun _ _ _ _ _ _ z => z.elim, fun _ _ _ _ _ _ z => z.elim, fun _ _ _ _ _ _ z => z.elim, lx, fun v d G' H' t rv fr z => q v G' H' d t rv fr z⟩, ?_⟩
    · exact q _ G' H' _ I.st .non (.flat rfl) z
    · rw [hn, r.length, hl]; exact hd
/-- a fresh result is a result -/
theorem FnG.toN (F : FnG P w K mg base k f fd ps (spF K S)) : FnG P w K mg base k f fd ps (spN K S) :=
  ⟨fun vs H Q E ⟨B, G, ds, xe, R, r, st, lx, hs, q⟩ => F.len vs H Q E ⟨B, G, ds, xe, R, r, st, lx, hs, fun v G' H' d t rv _ z => q v G' H' d t rv z⟩,
   fun A o st H ar us vs Q E rg e0 bt rv ⟨B, G, ds, xe, R, r, st', lx, hs, q⟩ => F.go A o st H ar us vs Q E rg e0 bt rv ⟨B, G, ds, xe, R, r, st', lx, hs, fun v G' H' d t rv _ z => q v G' H' d t rv z⟩⟩
theorem FnG.toB (F : FnG P w K mg base k f fd ps (spFB K S)) : FnG P w K mg base k f fd ps (spB K S) :=
  ⟨fun vs H Q E ⟨b, vs', G, ds, xe, R, e, r, st, lx, hs, q⟩ => F.len vs H Q E ⟨b, vs', G, ds, xe, R, e, r, st, lx, hs, fun v G' H' d t rv _ z => q v G' H' d t rv z⟩,
   fun A o st H ar us vs Q E rg e0 bt rv ⟨b, vs', G, ds, xe, R, e, r, st', lx, hs, q⟩ => F.go A o st H ar us vs Q E rg e0 bt rv ⟨b, vs', G, ds, xe, R, e, r, st', lx, hs, fun v G' H' d t rv _ z => q v G' H' d t rv z⟩⟩
end

/-! ### an owned list from a call -/
theorem Reps.flats {K : PySem.W.Frag} {G G' : Hp} : ∀ {vs : List V} {ds : List D}, Reps K G vs ds → (∀ d ∈ ds, flatD d = true) → Reps K G' vs ds
  | _, _, .nil, _ => .nil
  | _, _, .cons a b, h => .cons (Rep.flat a (h _ List.mem_cons_self)) (Reps.flats b fun d hd => h d (List.mem_cons_of_mem _ hd))
theorem DN.hd {K : PySem.W.Frag} {H G : Hp} {v : V} {ds : List D} {p : Addr} (h : DN K H G v (.lst ds)) (e : v = .ref p) : H p = none := by
  cases h with
  | flat f => cases f
  | lst h _ _ => cases e; exact h
/-- a new list of flat things -/
theorem dn_flat {K : PySem.W.Frag} {H G : Hp} {v : V} {ds : List D} (r : Rep K G v (.lst ds)) (h : ∀ p, v = .ref p → H p = none) (n : nols ds = true) : DN K H G v (.lst ds) := by
  cases r with
  | lst a b => exact .lst (h _ rfl) a (DNs.flat b.length n)
theorem flat_nol {d : D} (h : flatD d = true) : nol d = true := by cases d <;> first | rfl | cases h
theorem flats_nols {ds : List D} (h : ∀ d ∈ ds, flatD d = true) : nols ds = true := nols_iff.mpr fun d m => flat_nol (h d m)
mutual
theorem Rep.nolm {K : PySem.W.Frag} {G : Hp} {p : Addr} {l : List V} (hp : G p = some (.lst l)) : ∀ {d : D} {v : V}, nol d = true → Rep K G v d → Rep K (minus G p) v d
  | .non, _, _, h => by cases h; exact .non
  | .bl _, _, _, h => by cases h; exact .bl _
  | .int _, _, _, h => by cases h; exact .int _
  | .str _, _, _, h => by cases h; exact .str _
  | .lst _, _, n, _ => by cases n
  | .ins _ _ _, _, n, _ => by cases n
  | .dct _ _, _, n, _ => by cases n
  | .tup xs, _, n, h => by
    cases h with
    | @tup a _ _ a1 b1 =>
      have ne : a ≠ p := fun e => by rw [e, hp] at a1; cases a1
      exact .tup (by rw [minus_ne ne]; exact a1) (Reps.nolm hp (by simpa only [nol] using n) b1)
theorem Reps.nolm {K : PySem.W.Frag} {G : Hp} {p : Addr} {l : List V} (hp : G p = some (.lst l)) : ∀ {ds : List D} {vs : List V}, nols ds = true → Reps K G vs ds → Reps K (minus G p) vs ds
  | [], _, _, h => by cases h; exact .nil
  | _ :: _, _, n, h => by
    cases h with
    | cons a b =>
      simp only [DL.nols, Bool.and_eq_true] at n
      exact .cons (Rep.nolm hp n.1 a) (Reps.nolm hp n.2 b)
end
theorem Reps.nols {K : PySem.W.Frag} {G : Hp} {p : Addr} {l : List V} {vs : List V} {ds : List D} (r : Reps K G vs ds) (hp : G p = some (.lst l)) (h : ∀ d ∈ ds, nol d = true) : Reps K (minus G p) vs ds := r.nolm hp (nols_iff.mpr h)
theorem Stt.drop {B : Option Addr} {G H G' H' : Hp} {p : Addr} (s0 : Stt B G H G H) (t : Stt B G H G' H') (gp : G p = none) : Stt B G H (minus G' p) H' := by
  refine ⟨fun a u h => ?_, fun a u h => ?_, t.hh, fun a u h => ?_, fun b e => ?_, t.bc⟩
  · rw [minus_ne (ne_of_none h gp)]; exact t.gg a u h
  · by_cases e : a = p
    · subst e; rw [minus_self] at h; cases h
    · rw [minus_ne e] at h; exact t.gh a u h
  · by_cases e : a = p
    · subst e; rw [minus_self] at h; cases h
    · rw [minus_ne e] at h; exact t.fr a u h
  · obtain ⟨g0, n, sd, i, c, cells, h1, h2, r⟩ := t.bag b e
    obtain ⟨_, n0, sd0, i0, c0, cells0, k1, k2, _⟩ := s0.bag b e
    have cc : c = c0 := by
      have := t.bc b e
      unfold bagC at this
      rw [h1, k1] at this
      have := Option.some.inj (show (some (V.ref c)) = some (V.ref c0) from this)
      cases this; rfl
    have nc : c ≠ p := fun z => by rw [← cc, z, gp] at k2; cases k2
    refine ⟨?_, n, sd, i, c, cells, h1, by rw [minus_ne nc]; exact h2, r⟩
    by_cases z : b = p
    · subst z; exact minus_self
    · rw [minus_ne z]; exact g0
theorem En.take {K : PySem.W.Frag} {B : Option Addr} {G0 H0 G H G' H' : Hp} {σ : L2.St} {ρ : List Sl} {i : Nat} {p : Addr} {ds : List D} (I : En K B G0 H0 G H σ ρ) (t : Stt B G H G' H') (r : Rep K G' (.ref p) (.lst ds)) (hp : H p = none) (fl : ∀ d ∈ ds, nol d = true) :
    En K B G0 H0 (minus G' p) H' (σ.set i (some (.ref p))) (ρ.set i (.own ds)) := by
  have gp : G p = none := I.st.gfree hp
  have t' : Stt B G H (minus G' p) H' := Stt.drop I.st.here t gp
  have I' := I.step t'
  have nb : B ≠ some p := fun e => by
    obtain ⟨_, _, _, _, _, _, h, _⟩ := I.st.bag p e
    rw [hp] at h; cases h
  cases r with
  | @lst _ vs _ a1 b1 =>
  have h' : H' p = some (.lst vs) := t.gh _ _ a1
  refine ⟨I'.st, pset (.own h' (b1.nols a1 fl) minus_self (I.st.before hp) nb) i I'.sl, fun j k q x y e1 e2 e3 e4 => ?_⟩
  have old : ∀ (j : Nat) x q, j ≠ i → (ρ.set i (Sl.own ds))[j]? = some (Sl.own x) → (σ.set i (some (.ref p)))[j]? = some (some (.ref q)) → q ≠ p := fun j x q nj e1 e3 z => by
    rw [List.getElem?_set_ne nj.symm] at e1 e3
    obtain ⟨q', vs', h1, h2, _⟩ := I.owned e1
    rw [h1] at e3
    cases e3
    rw [z, hp] at h2; cases h2
  have at_i : ∀ q, (σ.set i (some (.ref p)))[i]? = some (some (.ref q)) → q = p := fun q e => by
    by_cases l : i < σ.length
    · rw [List.getElem?_set_self l] at e; cases e; rfl
    · rw [List.getElem?_eq_none (by simpa using l)] at e; cases e
  by_cases hj : j = i
  · by_cases hk : k = i
    · rw [hj, hk]
    · subst hj
      exact absurd (at_i q e3) (old k y q hk e2 e4)
  · by_cases hk : k = i
    · subst hk
      exact absurd (at_i q e4) (old j x q hj e1 e3)
    · rw [List.getElem?_set_ne (Ne.symm hj)] at e1 e3
      rw [List.getElem?_set_ne (Ne.symm hk)] at e2 e4
      exact I.ap j k q x y e1 e2 e3 e4
def toOwn (i : Nat) (C : DEnds) (ρ : List Sl) : D → Prop := fun d => match d with
  | .lst ds => (∀ d ∈ ds, nol d = true) ∧ C.nx (ρ.set i (.own ds))
  | _ => False
/-- x = f(..), owned -/
def dCallO (i : Nat) (S : DSp) (da : DA) : DS := fun C ρ => da ρ C.xe fun ds => S ds C.xe (toOwn i C ρ)
def dCallOB (i j : Nat) (S : DSp) (da : DA) : DS := fun C ρ => ρ[j]? = some .bg ∧ da ρ C.xe fun ds => S ds C.xe (toOwn i C ρ)
section
variable {X : Cx} {E : XK} {k n : Nat} {f : Addr} {fd : FuncData} {ps : List Str} {S : DSp} {x y bx : Str} {p pb py pos pos2 : Pos} {e : Expr} {es : List Expr} {da : DA}
theorem to_own {K : PySem.W.Frag} {B : Option Addr} {G0 H0 Gs G H G' H' : Hp} {σ : L2.St} {ρ : List Sl} {i : Nat} {D' : Ends} {C : DEnds} {v : V} {d : D} (I : En K B G0 H0 G H σ ρ) (sg : Same Gs G) (l : LinkS K B G0 H0 Gs E D' C) (t : Stt B G H G' H') (r : Rep K G' v d) (fr : DN K H G' v d) (z : toOwn i C ρ d) :
    D'.nx (σ.set i (some v)) H' := by
  unfold toOwn at z
  split at z
  · cases r with
    | lst a1 b1 =>
      have hp := fr.hd rfl
      refine l.nx _ _ _ _ (fun a u h => ?_) (I.take t (.lst a1 b1) hp z.1) z.2
      have ga := sg a u h
      rw [minus_ne (ne_of_none ga (I.st.gfree hp))]
      exact t.gg a u ga
  · exact z.elim
theorem xs_callO {i : Nat} (F : FnG X.prog X.w X.K X.mg X.base k f fd ps (spF X.K S)) (rg : RmG k X.A) (hg : Gl X x) (hm : X.mg x = some (.ref f)) (hk : PySem.W.keepIn X.K (.ref f) = true) (hb : Binds X.K fd ps []) (hx : Passes (L2.CX X.prog X.w) X E)
    (hN : X.N.Nodup) (hi : X.N[i]? = some y) (hy : Loc X.env.scope y) (ha : XA X E (e :: es) da) (hdb : (x == ("__debug__" : Str)) = false := by decide) (he : starEach (e :: es) X.env = (false, eval e X.env) :: starEach es X.env := by rfl) (hpl : (backTo pos (starEach es X.env)).any (·.1) = false := by rfl)
    (hs : swapsWith (.Call (.Name x p) (e :: es) [] pos) (some (.Name y py)) pos2.line X.env = pure false := by rfl) (hf : X.fn y = true ∨ X.env.scope.names.lookup y = some .local := by first | exact .inl rfl | exact .inr rfl | assumption) :
    XS X E (.Assign [.Name y py] (.Call (.Name x p) (e :: es) [] pos) pos2) (dCallO i S da) := .of (ps_set hN hi hy (pe_cl F rg hg hm hk hb hx ha.pa hdb he hpl) hs hf) fun B G0 H0 G H σ ρ I Gs sg D C l q =>
  sA B G0 H0 G H σ ρ I C.xe l.xe _ _ (fun vs G' H' ds t r z => ⟨B, G', ds, C.xe, _, r, Stt.refl t.gh t.bag, l.xe.shift (I.st.trans t), z, fun v G2 H2 d t2 r2 fr z2 => to_own (I.step t) (sg.trans t.gg) l t2 r2 fr z2⟩) q
theorem xs_callOB {i j : Nat} (F : FnG X.prog X.w X.K X.mg X.base k f fd ps (spFB X.K S)) (rg : RmG k X.A) (hg : Gl X x) (hm : X.mg x = some (.ref f)) (hk : PySem.W.keepIn X.K (.ref f) = true) (hb : Binds X.K fd ps []) (hx : Passes (L2.CX X.prog X.w) X E)
    (hN : X.N.Nodup) (hi : X.N[i]? = some y) (hy : Loc X.env.scope y) (hv : PE X (.Name bx pb) (tVar j)) (ha : XA X E es da) (hdb : (x == ("__debug__" : Str)) = false := by decide) (he : starEach (.Name bx pb :: es) X.env = (false, eval (.Name bx pb) X.env) :: starEach es X.env := by rfl) (hpl : (backTo pos (starEach es X.env)).any (·.1) = false := by rfl)
    (hs : swapsWith (.Call (.Name x p) (.Name bx pb :: es) [] pos) (some (.Name y py)) pos2.line X.env = pure false := by rfl) (hf : X.fn y = true ∨ X.env.scope.names.lookup y = some .local := by first | exact .inl rfl | exact .inr rfl | assumption) :
    XS X E (.Assign [.Name y py] (.Call (.Name x p) (.Name bx pb :: es) [] pos) pos2) (dCallOB i j S da) := .of (ps_set hN hi hy (pe_cl F rg hg hm hk hb hx (pa_cons hv ha.pa he) hdb he hpl) hs hf) fun B G0 H0 G H σ ρ I Gs sg D C l q => by
  obtain ⟨q0, q⟩ := q
  obtain ⟨b, rfl, hv⟩ := I.bgv q0
  refine ⟨_, hv, ?_⟩
  exact sA (some b) G0 H0 G H σ ρ I C.xe l.xe _ _ (fun vs G' H' ds t r z => ⟨b, vs, G', ds, C.xe, _, rfl, r, Stt.refl t.gh t.bag, l.xe.shift (I.st.trans t), z, fun v G2 H2 d t2 r2 fr z2 => to_own (I.step t) (sg.trans t.gg) l t2 r2 fr z2⟩) q
end

/-! ### a block in which an owned list is but read -/
/-- what of a slot is left when the list is owned again -/
def keepS : Sl → Sl
  | .un => .un
  | .bg => .bg
  | .dd d => if flatD d then .dd d else .un
  | .own es => if es.all flatD then .own es else .un
  | .fz _ _ => .un
  | .ex _ _ _ => .un
  | .pin _ _ => .un
  | .nw d => if flatD d then .dd d else .un
  | .odk _ _ => .un
/-- the block's end -/
def dEndB (i : Nat) (p : Addr) (ds : List D) (k : List Sl → Prop) : DS := fun _ ρ' => ρ'[i]? = some (.fz p ds) ∧ k ((ρ'.map keepS).set i (.own ds))
/-- the block db, then dr -/
def dBlk (i : Nat) (db : DS → DS) (dr : DS) : DS := fun C ρ => match ρ[i]? with
  | some (.own ds) => ∀ p : Addr, db (dEndB i p ds (dr C)) { C with nx := fun _ => False, bk := fun _ => False, ct := fun _ => False } (ρ.set i (.fz p ds))
  | _ => False
def SimAt (K : PySem.W.Frag) (B : Option Addr) (G0 H0 Gs : Hp) (D : Ends) (C : DEnds) (ts : TS) (ds : DS) : Prop := ∀ G H σ ρ, En K B G0 H0 G H σ ρ → Same Gs G → ds C ρ → ts D σ H
structure XB (X : Cx) (E : XK) (f : List Stmt → List Stmt) (db : DS → DS) : Prop where
  go : ∀ (rest : List Stmt) (tr : TS), PSs X rest tr → ∃ tb : TS, PSs X (f rest) tb ∧ ∀ (B : Option Addr) (G0 H0 Gs : Hp) (D : Ends) (C : DEnds) (T : DS) (n0 : L2.St → Hp → Prop) (m0 : List Sl → Prop),
    LinkS X.K B G0 H0 Gs E { D with nx := n0 } { C with nx := m0 } → SimAt X.K B G0 H0 Gs D C tr T → SimAt X.K B G0 H0 Gs D C tb (db T)
theorem xb_nil {X : Cx} {E : XK} : XB X E (fun r => r) (fun T => T) := ⟨fun rest tr h => ⟨tr, h, fun B G0 H0 Gs D C T n0 m0 l k => k⟩⟩
theorem xb_cons {X : Cx} {E : XK} {st : Stmt} {d : DS} {f : List Stmt → List Stmt} {db : DS → DS} (h : XS X E st d) (hb : XB X E f db) : XB X E (fun r => st :: f r) (fun T => dSeq d (db T)) := ⟨fun rest tr hr => by
  obtain ⟨tb, p1, s1⟩ := hb.go rest tr hr
  refine ⟨tSeq (cS X.K E d) tb, pss_cons h.ps p1, fun B G0 H0 Gs D C T n0 m0 l k => ?_⟩
  have k1 := s1 B G0 H0 Gs D C T n0 m0 l k
  intro G H σ ρ I sg q
  exact sS B G0 H0 G H σ ρ I Gs sg { D with nx := tb D } { C with nx := db T C } ⟨fun G' H' σ' ρ' s' I' z => k1 G' H' σ' ρ' I' s' z, l.bk, l.ct, l.rt, l.xe, l.rf⟩ q⟩
theorem En.fzz {K : PySem.W.Frag} {B : Option Addr} {G0 H0 G H : Hp} {σ : L2.St} {ρ : List Sl} {i : Nat} {ds : List D} (I : En K B G0 H0 G H σ ρ) (e : ρ[i]? = some (.own ds)) :
    ∃ p vs G1, H p = some (.lst vs) ∧ G p = none ∧ G1 p = some (.lst vs) ∧ Same G G1 ∧ (∀ a, a ≠ p → G1 a = G a) ∧ H0 p = none ∧ En K B G0 H0 G1 H σ (ρ.set i (.fz p ds)) ∧ Reps K G vs ds ∧ B ≠ some p ∧ (∀ b c, B = some b → bagC H b = some (.ref c) → c ≠ p) := by
  obtain ⟨p, vs, h1, h2, h3, h4, h5, h6⟩ := I.owned e
  obtain ⟨p', vs', G1, f1, f2, f3, f4, sm, I', f5, f6, f7⟩ := I.frozen e
  rw [h1] at f6
  cases f6
  rw [h2] at f1
  cases f1
  have il : i < ρ.length := (List.getElem?_eq_some_iff.mp e).1
  have gp : G1 p = some (.lst vs) := by
    obtain ⟨v, g1, g2⟩ := I'.var (i := i) (d := .lst ds) (by rw [List.getElem?_set_self il])
    rw [h1] at g1
    cases g1
    cases g2 with
    | lst a1 b1 =>
      have := I'.st.gh _ _ a1
      rw [h2] at this
      cases this; exact a1
  refine ⟨p, vs, G1, h2, h4, gp, sm, f4, h5, ?_, h3, h6, f5⟩
  have σi : σ.set i (some (.ref p)) = σ := by
    apply List.ext_getElem?
    intro j
    by_cases hj : j = i
    · subst hj
      have := plen I.sl
      rw [List.getElem?_set_self (by omega), h1]
    · rw [List.getElem?_set_ne (Ne.symm hj)]
  have P := pset (SlOk.fz (K := K) (B := B) (H0 := H0) (G := G1) (H := H) gp (h3.mono sm) h5 h6) i I'.sl
  rw [σi, List.set_set] at P
  refine ⟨I'.st, P, fun j k q x y e1 e2 e3 e4 => ?_⟩
  have ne : ∀ (j : Nat) x, (ρ.set i (.fz p ds))[j]? = some (Sl.own x) → (ρ.set i (.dd (.lst ds)))[j]? = some (Sl.own x) := fun j x e1 => by
    by_cases hj : j = i
    · subst hj; rw [List.getElem?_set_self il] at e1; cases e1
    · rw [List.getElem?_set_ne (Ne.symm hj)] at e1 ⊢; exact e1
  exact I'.ap j k q x y (ne j x e1) (ne k y e2) e3 e4
theorem keep_dd {d : D} : keepS (.dd d) = if flatD d then .dd d else .un := rfl
theorem keep_nw {d : D} : keepS (.nw d) = if flatD d then .dd d else .un := rfl
theorem keep_own {es : List D} : keepS (.own es) = if es.all flatD then .own es else .un := rfl
theorem keep_ok {K : PySem.W.Frag} {B : Option Addr} {H0 G H : Hp} {p : Addr} {o : Option V} {s : Sl} (h : SlOk K B H0 G H o s) : SlOk K B H0 (minus G p) H o (keepS s) := by
  cases h with
  | un => exact .un
  | @dd _ d r =>
    rw [keep_dd]
    by_cases f : flatD d = true
    · rw [if_pos f]; exact .dd (r.flat f)
    · rw [if_neg f]; exact .un
  | bg e => exact .bg e
  | @own _ _ es a r g h0 nb =>
    rw [keep_own]
    by_cases f : es.all flatD = true
    · rw [if_pos f]
      refine .own a (r.flats (List.all_eq_true.mp f)) ?_ h0 nb
      unfold minus; split
      · rfl
      · exact g
    · rw [if_neg f]; exact .un
  | fz a r h0 nb => exact .un
  | ex h => exact .un
  | pin _ => exact .un
  | @nw _ d r n =>
    rw [keep_nw]
    by_cases f : flatD d = true
    · rw [if_pos f]; exact .dd (r.flat f)
    · rw [if_neg f]; exact .un
  | odk _ _ _ _ _ _ => exact .un
theorem xss_blk {X : Cx} {E : XK} {f : List Stmt → List Stmt} {db : DS → DS} {rest : List Stmt} {dr : DS} (i : Nat) (hb : XB X E f db) (hr : XSs X E rest dr) : XSs X E (f rest) (dBlk i db dr) := by
  obtain ⟨tb, pb, sb⟩ := hb.go rest _ hr.ps
  refine .of pb fun B G0 H0 G H σ ρ I Gs sg D C l q => ?_
  unfold dBlk at q
  split at q
  · rename_i ds e
    obtain ⟨p, vs, G1, h1, h2, h3, sm, h4, h5, I1, h6, nb, hbp⟩ := I.fzz e
    refine sb B G0 H0 G1 D { C with nx := fun _ => False, bk := fun _ => False, ct := fun _ => False } (dEndB i p ds (dr C)) D.nx (fun _ => False)
      ⟨fun _ _ _ _ _ _ z => z.elim, fun _ _ _ _ _ _ z => z.elim, fun _ _ _ _ _ _ z => z.elim, l.rt, l.xe, l.rf⟩ (fun G' H' σ' ρ' I' s' z => ?_) G1 H σ _ I1 (Same.refl _) (q p)
    obtain ⟨z1, z2⟩ := z
    have gp' : G' p = some (.lst vs) := s' _ _ h3
    have low : Same G (minus G' p) := fun a u ga => by
      have ne : a ≠ p := ne_of_none ga h2
      rw [minus_ne ne]
      exact s' a u (by rw [h4 a ne]; exact ga)
    have t : Stt B G0 H0 (minus G' p) H' := by
      refine ⟨I.st.gg.trans low, fun a u h => ?_, I'.st.hh, fun a u h => ?_, fun b e => ?_, I'.st.bc⟩
      · by_cases e : a = p
        · subst e; rw [minus_self] at h; cases h
        · rw [minus_ne e] at h; exact I'.st.gh a u h
      · by_cases e : a = p
        · subst e; rw [minus_self] at h; cases h
        · rw [minus_ne e] at h; exact I'.st.fr a u h
      · obtain ⟨g0, n, sd, j, c, cells, k1, k2, r⟩ := I'.st.bag b e
        have nc : c ≠ p := by
          refine hbp b c e ?_
          rw [I.st.bc b e, ← I'.st.bc b e]
          unfold bagC; rw [k1]; rfl
        refine ⟨?_, n, sd, j, c, cells, k1, by rw [minus_ne nc]; exact k2, r⟩
        by_cases z : b = p
        · subst z; exact minus_self
        · rw [minus_ne z]; exact g0
    obtain ⟨o, f1, f2⟩ := pget I'.sl z1
    have o' : o = some (.ref p) := by cases f2; rfl
    subst o'
    have σi : σ'.set i (some (.ref p)) = σ' := by
      apply List.ext_getElem?
      intro j
      by_cases hj : j = i
      · subst hj
        have := plen I'.sl
        have il : j < ρ'.length := (List.getElem?_eq_some_iff.mp z1).1
        rw [List.getElem?_set_self (by omega), f1]
      · rw [List.getElem?_set_ne (Ne.symm hj)]
    have base : Paired (SlOk X.K B H0 (minus G' p) H') σ' (ρ'.map keepS) := by
      have : ∀ {l : List (Option V)} {r : List Sl}, Paired (SlOk X.K B H0 G' H') l r → Paired (SlOk X.K B H0 (minus G' p) H') l (r.map keepS) := fun {l r} h => by
        induction h with
        | nil => exact .nil
        | cons a t ih => exact .cons (keep_ok a) ih
      exact this I'.sl
    have P := pset (SlOk.own (K := X.K) (B := B) (H0 := H0) (G := minus G' p) (H := H') (I'.st.gh _ _ gp') (h6.mono low) minus_self h5 nb) i base
    rw [σi] at P
    refine sS B G0 H0 _ H' σ' _ ⟨t, P, fun j k w x y e1 e2 e3 e4 => ?_⟩ Gs (sg.trans low) D C l z2
    have back : ∀ (j : Nat) x q, j ≠ i → ((ρ'.map keepS).set i (.own ds))[j]? = some (Sl.own x) → σ'[j]? = some (some (.ref q)) → (∃ y, ρ'[j]? = some (Sl.own y)) ∧ q ≠ p := fun j x q nj e1 e3 => by
      rw [List.getElem?_set_ne nj.symm, List.getElem?_map] at e1
      cases hz : ρ'[j]? with
      | none => rw [hz] at e1; cases e1
      | some s =>
        rw [hz] at e1
        have e1 : keepS s = .own x := Option.some.inj e1
        cases s with
        | un => cases e1
        | bg => cases e1
        | dd d =>
          rw [keep_dd] at e1
          by_cases f : flatD d = true
          · rw [if_pos f] at e1; cases e1
          · rw [if_neg f] at e1; cases e1
        | fz a b => cases e1
        | ex a b c => cases e1
        | pin a b => cases e1
        | nw d =>
          rw [keep_nw] at e1
          by_cases f : flatD d = true
          · rw [if_pos f] at e1; cases e1
          · rw [if_neg f] at e1; cases e1
        | odk a b => cases e1
        | own es =>
          refine ⟨⟨es, rfl⟩, fun z => ?_⟩
          obtain ⟨q', vs', g1, g2, g3, g4, _, _⟩ := I'.owned hz
          rw [g1] at e3
          cases e3
          rw [z, gp'] at g4; cases g4
    have at_i : ∀ q, σ'[i]? = some (some (.ref q)) → q = p := fun q e => by rw [f1] at e; cases e; rfl
    by_cases hj : j = i
    · by_cases hk : k = i
      · rw [hj, hk]
      · subst hj
        exact absurd (at_i w e3) (back k y w hk e2 e4).2
    · by_cases hk : k = i
      · subst hk
        exact absurd (at_i w e4) (back j x w hj e1 e3).2
      · obtain ⟨x', w1⟩ := (back j x w hj e1 e3).1
        obtain ⟨y', w2⟩ := (back k y w hk e2 e4).1
        exact I'.ap j k w x' y' w1 w2 e3 e4
  · exact q.elim

/-! ### a, b = x, [..]: the second one owned -/
def dParO2 (i j : Nat) (da : DE) (db : DA) : DS := fun C ρ => da ρ C.xe fun x => db ρ C.xe fun ds => ds.length ≤ sizeLine ∧ C.nx ((ρ.set i (.dd x)).set j (.own ds))
theorem sim_parO2 {K : PySem.W.Frag} {E : XK} {i j : Nat} {ta : TE} {tb : TA} {da : DE} {db : DA} (h : SimE K E ta da) (hb : SimA K E tb db) : SimS K E (tPar i j (tCons ta (tCons (tLst tb) tNil))) (dParO2 i j da db) := fun B G0 H0 G H σ ρ I Gs sg D C l q =>
  h B G0 H0 G H σ ρ I C.xe l.xe _ _ (fun v G1 H1 d t r z =>
    hb B G0 H0 G1 H1 σ ρ (I.step t) C.xe l.xe _ _ (fun vs G2 H2 ds t2 r2 z2 => ⟨by rw [r2.length]; exact z2.1, fun p hp =>
      ⟨v, .ref p, rfl, l.nx _ _ _ _ ((sg.trans t.gg).trans t2.gg) ((((I.step t).step t2).set (r.mono t2.gg)).lay r2 hp) z2.2⟩⟩) z) q
theorem xs_parO2 {X : Cx} {E : XK} {i j : Nat} {x y : Str} {a : Expr} {bs : List Expr} {da : DE} {db : DA} {px py pt pl pos : Pos} {kt k2 pt2} (hc : X.calm = true) (hN : X.N.Nodup) (hi : X.N[i]? = some x) (hj : X.N[j]? = some y) (hij : i ≠ j)
    (hx : X.env.scope.names.lookup x = some .local) (hy : X.env.scope.names.lookup y = some .local) (ha : XEx X E a da) (hb : XA X E bs db)
    (hw : swappedStores [.Tuple [.Name x px, .Name y py] kt pt] (.Tuple [a, .List bs pl] k2 pt2) X.env = pure (some [x, y]) := by rfl)
    (hs : swapsWithSole [.Tuple [.Name x px, .Name y py] kt pt] (.Tuple [a, .List bs pl] k2 pt2) pos.line X.env = pure false := by rfl)
    (h1 : starEach [a, .List bs pl] X.env = (false, eval a X.env) :: starEach [.List bs pl] X.env := by rfl) (h2 : starEach [.List bs pl] X.env = (false, eval (.List bs pl) X.env) :: starEach [] X.env := by rfl) :
    XS X E (.Assign [.Tuple [.Name x px, .Name y py] kt pt] (.Tuple [a, .List bs pl] k2 pt2) pos) (dParO2 i j da db) := .of (ps_par hc hN hi hj hij hx hy (pa_cons ha.pe (pa_cons (pe_lst hb.pa) pa_nil h2) h1) hw hs) (sim_parO2 sE sA)

theorem sim_unpO2 {K : PySem.W.Frag} {E : XK} {i j : Nat} {ta : TE} {tb : TA} {da : DE} {db : DA} (h : SimE K E ta da) (hb : SimA K E tb db) : SimS K E (tAsg (tTup (tCons ta (tCons (tLst tb) tNil))) (gTup K 2 (gCons (gName i) (gCons (gName j) gNil)))) (dParO2 i j da db) := fun B G0 H0 G H σ ρ I Gs sg D C l q =>
  h B G0 H0 G H σ ρ I C.xe l.xe _ _ (fun v G1 H1 d t r z =>
    hb B G0 H0 G1 H1 σ ρ (I.step t) C.xe l.xe _ _ (fun vs G2 H2 ds t2 r2 z2 => ⟨by rw [r2.length]; exact z2.1, fun p hp => ⟨small_line (n := 2) (by decide), fun T hT => by
      have I3 := (((I.step t).step t2).set (i := i) (r.mono t2.gg)).lay (i := j) r2 hp
      have t3 := I3.st.laid (o := .tup [v, .ref p]) hT
      have I4 := I3.step t3
      exact ⟨_, _, rfl, SqT.of upd_same, rfl, _, _, rfl, _, _, rfl, rfl, l.nx _ _ _ _ ((sg.trans t.gg).trans t2.gg) I4 z2.2⟩⟩⟩) z) q
theorem xs_unpO2 {X : Cx} {E : XK} {i j : Nat} {tg a : Expr} {bs : List Expr} {da : DE} {db : DA} {pl pos : Pos} {k2 pt2} (hc : X.calm = true) (ha : XEx X E a da) (hb : XA X E bs db)
    (hg : PG X tg (gTup X.K 2 (gCons (gName i) (gCons (gName j) gNil)))) (hs : swapsWithSole [tg] (.Tuple [a, .List bs pl] k2 pt2) pos.line X.env = pure false := by rfl) (hw : swappedStores [tg] (.Tuple [a, .List bs pl] k2 pt2) X.env = pure none := by rfl)
    (h1 : (assignEach [tg] X.env).map (·.2) = [assign tg X.env] := by rfl) (h3 : starEach [a, .List bs pl] X.env = (false, eval a X.env) :: starEach [.List bs pl] X.env := by rfl) (h2 : starEach [.List bs pl] X.env = (false, eval (.List bs pl) X.env) :: starEach [] X.env := by rfl) :
    XS X E (.Assign [tg] (.Tuple [a, .List bs pl] k2 pt2) pos) (dParO2 i j da db) := .of (ps_asg (pe_tup (pa_cons ha.pe (pa_cons (pe_lst hb.pa) pa_nil h2) h3)) hg hs hw h1) (sim_unpO2 sE sA)
end DL

namespace DL
open PySem PySem.Spec L2
open PyProof.Rows hiding St

/-! ### isinstance of a caught error that has fields -/
def rIsD (K : PySem.W.Frag) (D a dx : Addr) : List V → Hp → VK → Prop := fun xs H Q => ∃ (c : V) (cv : Value) (b : Bool) (fs : List (Str × V)), xs = [.ref a, c] ∧ (∀ u, RelV c u → u = cv) ∧ PySem.W.kitOne K (.ref D) cv = some b ∧ H dx = some (.xd fs) ∧ Q (.bl b) H
theorem call_isD {X : Cx} {a D dx : Addr} {oe : Obj} {pn : List (Addr × Obj)} (C : ExcC X.K D) (hc : (PySem.W.clsIn X.K D).isSome = true) (hz : Zc (.ref D) (some dx) oe) (hf : ∃ vs, oe.data = .fields vs) :
    CallR (X.suite a ((a, oe) :: pn)) (.builtin "isinstance") (rIsD X.K D a dx) := fun pins s σ H xs us Q I r ⟨c, cv, b, fs, e, h1, h2, h3, q⟩ => by
  subst e
  cases r with
  | cons r1 r =>
    cases r with
    | cons r2 r =>
      cases r
      have e1 := h1 _ r2
      subst e1
      cases r1
      have pin := I.pin (a, oe) (by simp)
      obtain ⟨mA, ⟨o, es, ep, g1, _⟩, _⟩ := I.hok dx _ h3
      obtain ⟨vs, hv⟩ := hf
      have at_ : PySem.W.InstAt s.heap a oe D (some o) := ⟨pin.1, hz.1, by unfold PySem.W.notCls; rw [hv], by rw [hz.2]; exact g1⟩
      refine PySem.W.kia_one (PySem.W.kitx_exc hc C.hg C.hk C.hs C.ha C.hn C.ht C.hm) I.kIn at_ h2 (by intro h; cases h) fun tk => ?_
      exact ⟨.bl b, H, ⟨I.ok, I.os, I.bare, I.base, I.loc, I.cell, I.free, I.freeC, I.pin, I.hok, I.len⟩, rfl, q⟩

/-! ### a def read off a class, called: Base.__init__(self, ..) -/
structure ClsM (K : PySem.W.Frag) (C : Addr) (m : Str) (f : Addr) : Prop where
  sp : PySem.W.specialIn K (.ref C) "__getattribute__" = some (some (.builtin "type.__getattribute__"))
  rd : ∃ mc, PySem.W.readsIn K C mc = true ∧ PySem.W.findCls K (.ref C) mc m = some (.val (.ref f))
  hd : PySem.W.handedIn (.ref f) = true
  kf : PySem.W.keepIn K (.ref f) = true
theorem go_ok {X : Cx} {E : XK} {k : Nat} {f : Addr} {fd : FuncData} {ps : List Str} {sp : Sp} {pins : List (Addr × Obj)} {σ : L2.St} {H : Hp} {s : Shared} {Q : VK} {us : List Value} {vs : List V} (F : FnOk X.prog X.w X.K X.mg X.base (L2.CX X.prog X.w) k f fd ps sp) (rg : Room k X.A) (hb : Binds X.K fd ps []) (hx : Passes (L2.CX X.prog X.w) X E)
    (I : Inv X pins σ H s) (r : Vals vs us) (h : sp vs H Q E) : wpAny (model X.prog X.w) X.A (call (.ref f) us) (EP X pins σ Q) X.xe s := by
  have n1 : (us ++ ([] : List Value)).length = ps.length := by rw [List.append_nil, ← r.length]; exact F.len _ _ _ _ h
  have bt := hb s us I.kIn n1
  rw [List.append_nil] at bt
  refine wpAny_call (codeAny_mono (F.run X.A X.stack s H ⟨us, []⟩ us vs Q E rg I.env0 bt r h) fun res s2 z => ?_)
  match res, z with
  | .error e, z => exact hx pins σ H s e s2 I z
  | .ok (.ret u), z => exact I.after z
  | .ok .next, z => exact False.elim z
  | .ok .brk, z => exact False.elim z
  | .ok .cont, z => exact False.elim z
theorem pe_clsm {X : Cx} {E : XK} {C f : Addr} {fd : FuncData} {ps : List Str} {sp : Sp} {k : Nat} {cx m : Str} {p1 p2 pos : Pos} {e : Expr} {es : List Expr} {t : TA} {pl : Sem Bool} (M : ClsM X.K C m f) (F : FnOk X.prog X.w X.K X.mg X.base (L2.CX X.prog X.w) k f fd ps sp) (hr : Room k X.A) (hb : Binds X.K fd ps []) (hx : Passes (L2.CX X.prog X.w) X E)
    (hg : Gl X cx) (hm : X.mg cx = some (.ref C)) (ha : PA X (e :: es) t) (hdb : (cx == ("__debug__" : Str)) = false := by decide)
    (hev : eval (.Call (.Attribute (.Name cx p1) m p2) (e :: es) [] pos) X.env = (do
      let ov ← eval (.Name cx p1) X.env
      standAt p2.atName
      let x ← holding [ov] (getMethod ov m pl)
      match x with
      | (f, first) => callWith pos f first (backTo pos (starEach (e :: es) X.env)) (backToKw pos (keywordEach [] X.env))) := by rfl)
    (he : starEach (e :: es) X.env = (false, eval e X.env) :: starEach es X.env := by rfl) (hpl : (backTo pos (starEach es X.env)).any (·.1) = false := by rfl) :
    PE X (.Call (.Attribute (.Name cx p1) m p2) (e :: es) [] pos) (tCl sp E t) := by
  refine ⟨fun pins s σ H Q I h => ?_⟩
  rw [hev]
  refine wpAny_bind (ld_glob I hg hm ?_ hdb)
  refine wpAny_bind (wpAny_standAt ?_)
  obtain ⟨mc, r1, r2⟩ := M.rd
  refine wpAny_bind (wpAny_holding (PySem.W.method_cls I.kIn M.sp (PySem.W.cls_value I.kIn r1 r2 M.hd ?_)))
  have I' : Inv X pins σ H { heap := s.heap, gens := s.gens, drawn := s.drawn, toks := s.toks + 1, os := s.os } := ⟨I.ok, I.os, I.bare, I.base, I.loc, I.cell, I.free, I.freeC, I.pin, I.hok, I.len⟩
  refine PySem.W.callWith_K (h₀ := X.base) I.ok.mod.kin M.kf (thn (ha.run pos pins _ σ H _ I' h) fun us s1 ⟨vs, H1, I1, r, q⟩ => ⟨I1.kIn, ?_⟩) he hpl
  exact go_ok F hr hb hx I1 r q

/-! ### the __init__s of the error classes -/
theorem Fun.okK {P : Program} {w : World} {K : PySem.W.Frag} {mg : Str → Option Value} {base : Heap} {x qual : Str} {st : Stmt} {f : Addr} {fd : FuncData} {N ps : List Str} {k : Nat} {sp : Sp} (F : Fun K x qual st f fd) (S : FnScope N ps (defScope st)) (len : ∀ vs H Q E, sp vs H Q E → vs.length = ps.length)
    (hb : ∀ (cv : Value) (A : Around) (o : List Env) (s : Shared) (H : Hp) (vs : List V) (Q : VK) (E : XK), Room k (A.deeper (envOfC qual (defScope st) s.heap.objs.size f cv)) → sp vs H Q E →
      ∃ t, PSs (cxOf (L2.CX P w) P w K mg base N qual (defScope st) f cv A o s H E) (defBody st) t ∧ t { nx := fun _ H' => Q .non H', rt := Q } (start N vs) H) : FnOk P w K mg base (L2.CX P w) (k + 1) f fd ps sp := by
  obtain ⟨oc, od, kV, doc, pm, an, cv, ct, osl, rfl, lk, hcd⟩ := F.ex
  refine ⟨len, fun A o s H ar us vs Q E rm e0 bt rv h => ?_⟩
  have n1 := len _ _ _ _ h
  have kin : K.In s.heap := e0.mod.kin.keeps fun b u z => (e0.bs b u z).1
  have nol : s.heap.NoLimit := e0.mod.nolimit.keeps fun b u z => (e0.bs b u z).1
  have kinds : ∀ y ∈ ps.zip us, (defScope st).names.lookup y.1 = some .local ∨ ((defScope st).names.lookup y.1 = some .cell ∧ ((cellsFrom (s.heap.objs.size + 1) (defScope st).names []).lookup y.1).isSome = true) := fun ⟨n, v⟩ hy =>
    (S.par n (List.of_mem_zip hy).1).elim (fun q => .inl q) fun q => .inr ⟨q, PySem.W.cellsFrom_some _ _ _ (.inl q)⟩
  refine codeAny_call_function rm.depth (kin _ _ lk) rfl S.co S.gen rfl (PySem.W.codeRec_of kin hcd) (bt _ _ _ _ ?_)
  refine wpAny_newFunctionEnv_cells S.kind kinds fun env eq s1 x1 => ?_
  subst eq
  refine ⟨nol.keeps x1.toInCall.keep, codeAny_func ?_⟩
  obtain ⟨t, ht, hq⟩ := hb cv A o s H vs Q E (rm.deeper _) h
  have J0 : Inv (cxOf (L2.CX P w) P w K mg base N qual (defScope st) f cv A o s H E) [] (start N vs) H s1 := inv_start S rm.hd e0 n1 rv x1
  refine wpAny_mono (ht.run [] s1 (start N vs) H _ J0 hq) (fun fl s2 z => ?_) fun _ _ z => z
  match fl, z with
  | .ret u, ⟨v, σ', H', J, r2, q⟩ => exact ⟨v, H', J.os, J.bare, J.base, J.hok, r2, q⟩
  | .next, ⟨σ', H', J, q⟩ => exact ⟨V.non, H', J.os, J.bare, J.base, J.hok, rfl, q⟩
  | .brk, ⟨_, _, _, q⟩ => exact q.elim
  | .cont, ⟨_, _, _, q⟩ => exact q.elim
/-- self, text -/
def spOwn (K : PySem.W.Frag) : Sp := fun vs H Q E => ∃ (a C : Addr) (y : V), vs = [.ref a, y] ∧ OexC K C ∧ PySem.W.findIn K (.ref C) "text" = some none ∧ H a = some (exo a C none) ∧
  ∀ dx, H dx = none → dx ≠ a → Q .non (upd (upd H dx (exd dx [("text", y)])) a (exo a C (some dx)))
theorem own_len {K : PySem.W.Frag} {vs : List V} {H : Hp} {Q : VK} {E : XK} (h : spOwn K vs H Q E) : vs.length = 2 := by
  obtain ⟨_, _, _, rfl, _⟩ := h; rfl
theorem own_read {K : PySem.W.Frag} {N : List Str} {vs : List V} {H : Hp} {Q : VK} {E : XK} (h : spOwn K vs H Q E) :
    (tSeq (tDrop (tVeI K (tCons (tVar 0) (tCons (tVar 1) tNil)))) (tOst K "text" (tVar 0) (tVar 1))) { nx := fun _ H' => Q .non H', rt := Q } (start N vs) H := by
  obtain ⟨a, C, y, rfl, oc, ft, ha, q⟩ := h
  refine ⟨_, rfl, _, rfl, a, C, [y], rfl, show 1 ≤ 1000 by decide, oc, ha, ?_⟩
  exact ⟨_, rfl, _, rfl, a, C, rfl, oc, ft, .inl ⟨ha, fun dx hd ne => q dx hd ne⟩⟩
/-- self, one field -/
def spFld (K : PySem.W.Frag) (fld msg : Str) : Sp := fun vs H Q E => ∃ (a C : Addr) (y : V), vs = [.ref a, y] ∧ OexC K C ∧ PySem.W.findIn K (.ref C) "text" = some none ∧ PySem.W.findIn K (.ref C) fld = some none ∧ H a = some (exo a C none) ∧
  ∀ dx, H dx = none → dx ≠ a → ∀ H', H' a = some (exo a C (some dx)) → H' dx = some (exd dx [(fld, y), ("text", .str msg)]) → (∀ b, b ≠ a → b ≠ dx → H' b = H b) → Q .non H'
theorem fld_len {K : PySem.W.Frag} {fld msg : Str} {vs : List V} {H : Hp} {Q : VK} {E : XK} (h : spFld K fld msg vs H Q E) : vs.length = 2 := by
  obtain ⟨_, _, _, rfl, _⟩ := h; rfl
theorem fld_read {K : PySem.W.Frag} {N : List Str} {fld msg : Str} {vs : List V} {H : Hp} {Q : VK} {E E2 : XK} (h : spFld K fld msg vs H Q E) :
    (tSeq (tDrop (tCl (spOwn K) E2 (tCons (tVar 0) (tCons (tC (.str msg)) tNil)))) (tOst K fld (tVar 0) (tVar 1))) { nx := fun _ H' => Q .non H', rt := Q } (start N vs) H := by
  obtain ⟨a, C, y, rfl, oc, ft, ff, ha, q⟩ := h
  refine ⟨_, rfl, a, C, _, rfl, oc, ft, ha, fun dx hd ne => ?_⟩
  refine ⟨_, rfl, _, rfl, a, C, rfl, oc, ff, .inr ⟨dx, [("text", .str msg)], upd_same, by rw [upd_ne ne, upd_same], show 1 ≤ 900 by decide, ?_⟩⟩
  refine q dx hd ne _ (by rw [upd_ne ne.symm, upd_same]) upd_same fun b h1 h2 => ?_
  rw [upd_ne h2, upd_ne h1, upd_ne h2]

/-! ### raise C(e) -/
structure ErC (X : Cx) (x : Str) (C : Addr) (fld msg : Str) (fI : Addr) (fd : FuncData) (k : Nat) : Prop where
  T : OexC X.K C
  ft : PySem.W.findIn X.K (.ref C) "text" = some none
  ff : PySem.W.findIn X.K (.ref C) fld = some none
  iC : PySem.W.findIn X.K (.ref C) "__init__" = some (some (.ref fI))
  tI : PySem.W.typeIn X.K (.ref fI) = some (.type "function")
  ps : ∃ ps, FnOk X.prog X.w X.K X.mg X.base (L2.CX X.prog X.w) k fI fd ps (spFld X.K fld msg) ∧ Binds X.K fd ps []
  hm : X.mg x = some (.ref C)
def dRaise (C : Addr) (fld : Str) (ml : List Nat) (de : DE) : DS := fun Ct ρ => de ρ Ct.xe fun d => Ct.xe ⟨C, [(fld, d), ("text", .str ml)]⟩
theorem rep_text {K : PySem.W.Frag} {G : Hp} {m : Str} {ml : List Nat} (h : m.cps.toList = ml) : Rep K G (.str m) (.str ml) := by
  subst h
  have e : m = ⟨m.cps.toList.toArray⟩ := by cases m; simp
  have r : ∀ (y : Str) (l : List Nat), y = ⟨l.toArray⟩ → Rep K G (.str y) (.str l) := fun y l e => by rw [e]; exact .str _
  exact r _ _ e
theorem xs_raise {X : Cx} {E : XK} {x fld msg : Str} {ml : List Nat} {C fI : Addr} {fd : FuncData} {k : Nat} {e : Expr} {de : DE} {p pos pos' : Pos} (Z : ErC X x C fld msg fI fd k) (hc : X.calm = true) (tk : Takes X fun c d _ H => E c d H) (hr : Room (k + 1) X.A) (hg : Gl X x) (he : XEx X E e de)
    (hml : msg.cps.toList = ml) (hx : Passes (L2.CX X.prog X.w) X fun _ _ _ => False) (hdb : (x == ("__debug__" : Str)) = false := by decide) (h1 : starEach [e] X.env = (false, eval e X.env) :: starEach [] X.env := by rfl) (hpl : (backTo pos (starEach [] X.env)).any (·.1) = false := by rfl) :
    XS X E (.Raise (some (.Call (.Name x p) [e] [] pos)) none pos') (dRaise C fld ml de) := by
  obtain ⟨ps, F, hb⟩ := Z.ps
  refine .of (ps_raise hc tk (pmk_oex Z.T Z.iC Z.tI F hr hb .nil hx hg Z.hm (pa_cons he.pe pa_nil h1) hdb h1 hpl)) fun B G0 H0 G H σ ρ I Gs sg D Ct l q => ?_
  refine sE B G0 H0 G H σ ρ I Ct.xe l.xe _ _ (fun y G1 H1 d t r z => ?_) q
  refine ⟨show 1 ≤ 1000 by decide, fun a ha => ?_⟩
  refine ⟨a, C, y, rfl, Z.T, Z.ft, Z.ff, upd_same, fun dx hd ne H' g1 g2 g3 => ⟨rfl, dx, _, g1, g2, by rw [upd_ne ne] at hd; exact hd, ?_⟩⟩
  have hd1 : H1 dx = none := by rw [upd_ne ne] at hd; exact hd
  have ef : upd (del H' a) dx (.xd [(fld, y), ("text", .str msg)]) = upd H1 dx (.xd [(fld, y), ("text", .str msg)]) := by
    funext b
    by_cases b1 : b = dx
    · subst b1; rw [upd_same, upd_same]
    · rw [upd_ne b1, upd_ne b1]
      by_cases b2 : b = a
      · subst b2; rw [ha]; unfold del; simp
      · have : del H' a b = H' b := by unfold del; rw [if_neg b2]
        rw [this, g3 b b2 b1, upd_ne b2]
  rw [ef]
  have I1 := I.step t
  have t2 : Stt B G1 H1 G1 (upd H1 dx (.xd [(fld, y), ("text", .str msg)])) := I1.st.laid hd1
  exact l.xe ⟨C, [(fld, d), ("text", .str ml)]⟩ G1 _ (some dx) (I1.st.trans t2) (.inr ⟨dx, _, rfl, upd_same, rfl, .cons r (.cons (rep_text hml) .nil), I1.st.before hd1⟩) z
end DL

namespace DL
open PySem PySem.Spec L2
open PyProof.Rows hiding St

/-! ### try .. except T as n -/
/-- what is known of an error's class, where T is caught -/
structure ErF (K : PySem.W.Frag) (T : Value) (D : Addr) : Prop where
  ex : ExcC K D
  cl : (PySem.W.clsIn K D).isSome = true
  xf : XfC K D
  mt : PySem.W.exmOne K (.ref D) T = some true
def dTry (cls : List Addr) (n i : Nat) (db : DS) (dh : Addr → Addr → Addr → DS) : DS := fun C ρ =>
  db { C with xe := fun er => er.cls ∈ cls ∧ er.fs ≠ [] ∧ ∀ a dx, dh a er.cls dx { C with nx := fun _ => False, bk := fun _ => False, ct := fun _ => False, xe := fun _ => False } ((uns n).set i (.ex a (some dx) er)) } ρ
theorem takes_mono {X : Cx} {W W' : WX} (tk : Takes X W) (h : ∀ c d σ H, σ.length = X.N.length → W' c d σ H → W c d σ H) : Takes X W' := fun u s' ⟨a, B, sI, pins, σ, H, cls, d, e, I, k1, k2, k3, k4, k5, k6, w⟩ =>
  tk u s' ⟨a, B, sI, pins, σ, H, cls, d, e, I, k1, k2, k3, k4, k5, k6, h _ _ _ _ I.len w⟩
theorem Stt.addx {B : Option Addr} {G0 H0 G H : Hp} {dx : Addr} {fs : List (Str × V)} (s : Stt B G0 H0 G H) (h : H dx = some (.xd fs)) (h0 : H0 dx = none) : Stt B G0 H0 (upd G dx (.xd fs)) H ∧ Same G (upd G dx (.xd fs)) := by
  have sm : Same G (upd G dx (.xd fs)) := fun a u g => by
    by_cases e : a = dx
    · subst e
      have := s.gh _ _ g
      rw [h] at this
      rw [upd_same]; exact this
    · rw [upd_ne e]; exact g
  refine ⟨⟨s.gg.trans sm, fun a u g => ?_, s.hh, fun a u g => ?_, fun b e => ?_, s.bc⟩, sm⟩
  · by_cases e : a = dx
    · subst e; rw [upd_same] at g; rw [h]; exact g
    · rw [upd_ne e] at g; exact s.gh a u g
  · by_cases e : a = dx
    · subst e; exact .inr h0
    · rw [upd_ne e] at g; exact s.fr a u g
  · obtain ⟨g0, n, sd, i, c, cells, k1, k2, r⟩ := s.bag b e
    refine ⟨?_, n, sd, i, c, cells, k1, sm _ _ k2, r⟩
    by_cases z : b = dx
    · subst z; rw [h] at k1; cases k1
    · rw [upd_ne z]; exact g0
theorem sl_any {K : PySem.W.Frag} {B : Option Addr} {H0 G H : Hp} : ∀ σ : L2.St, Paired (SlOk K B H0 G H) σ (uns σ.length)
  | [] => .nil
  | _ :: σ => .cons .un (sl_any σ)
theorem xs_try {X : Cx} {E : XK} {x n : Str} {c : Value} {i m : Nat} {body suite : List Stmt} {b₀ : Stmt} {np pos pos' : Pos} {cls : List Addr} {db : DS} {dh : Addr → Addr → Addr → DS}
    (hs : X.stack = X.env :: X.outer) (hf : X.env.frame = some X.env.locals) (hN : X.N.Nodup) (hi : X.N[i]? = some n) (hm : X.N.length = m) (hln : X.env.kindOf n = some .local) (hc : Names X x c) (tk : Takes X fun c d _ H => E c d H)
    (hcl : ∀ D ∈ cls, ErF X.K c D)
    (hb : ∀ (E' : XK) (pn : List (Addr × Obj)) (xe : Value → Shared → Prop), Takes (X.tr pn xe) (fun c d _ H => E' c d H) → PassesOwn (model X.prog X.w) X.A X.env xe → XSs (X.tr pn xe) E' body db)
    (hsu : ∀ (a : Addr) (oe : Obj) (D dx : Addr) (pn : List (Addr × Obj)), D ∈ cls → ErF X.K c D → Zc (.ref D) (some dx) oe → (∃ vs, oe.data = .fields vs) → XSs (X.suite a ((a, oe) :: pn)) (fun _ _ _ => False) (b₀ :: suite) (dh a D dx)) :
    XS X E (.Try body [.ExceptHandler (some (.Name x np)) (some n) (b₀ :: suite) pos'] [] [] pos) (dTry cls m i db dh) := by
  let ts : Addr → Value → Option Addr → TS := fun a cv d D σ H => ∃ D0 dx, cv = .ref D0 ∧ d = some dx ∧ D0 ∈ cls ∧ cS X.K (fun _ _ _ => False) (dh a D0 dx) D σ H
  let EW : WX → XK := fun W c d H => ∀ σ : L2.St, σ.length = X.N.length → W c d σ H
  refine .of (ps_try_as (tb := fun W => cS X.K (EW W) db) (ts := ts) (Wout := fun c d _ H => E c d H) hs hf hN hi hln hc tk (fun W pn xe tkW po => (hb (EW W) pn xe (takes_mono tkW fun c d σ H hl h => h σ hl) po).ps) (fun a oe cv d pn hz hd => ⟨fun pins s σ H D I q => ?_⟩)) ?_
  · obtain ⟨D0, dx, e1, e2, hm', q⟩ := q
    subst e1; subst e2
    exact (hsu a oe D0 dx pn hm' (hcl D0 hm') hz hd).ps.run pins s σ H D I q
  · intro B G0 H0 G H σ ρ I Gs sg D C l q
    refine ⟨B, G0, H0, G, Gs, ρ, { C with xe := fun er => er.cls ∈ cls ∧ er.fs ≠ [] ∧ ∀ a dx, dh a er.cls dx { C with nx := fun _ => False, bk := fun _ => False, ct := fun _ => False, xe := fun _ => False } ((uns m).set i (.ex a (some dx) er)) }, I, sg, ⟨l.nx, l.bk, l.ct, l.rt, fun er G' H' d st fo z => ?_, l.rf⟩, q⟩
    obtain ⟨z1, z2, z3⟩ := z
    rcases fo with fo | ⟨dx, fs, e1, e2, e3, e4, e5⟩
    · exact absurd fo z2
    subst e1
    intro σ' hl
    refine ⟨true, (hcl _ z1).mt, fun _ a ha => ?_, fun h => by cases h⟩
    obtain ⟨st2, sm⟩ := st.addx e2 e5
    refine ⟨er.cls, dx, rfl, rfl, z1, B, G0, H0, _, _, (uns m).set i (.ex a (some dx) er), { C with nx := fun _ => False, bk := fun _ => False, ct := fun _ => False, xe := fun _ => False }, ⟨st2, ?_, ?_⟩, Same.refl _, ⟨fun _ _ _ _ _ _ z => z.elim, fun _ _ _ _ _ _ z => z.elim, fun _ _ _ _ _ _ z => z.elim, l.rt, fun _ _ _ _ _ _ z => z.elim, l.rf⟩, z3 a dx⟩
    · have P := pset (SlOk.ex (K := X.K) (B := B) (H0 := H0) (G := upd G' dx (.xd fs)) (H := H') (a := a) (d := some dx) (er := er) (.inr ⟨dx, fs, rfl, upd_same, e3, e4.mono sm⟩)) i (sl_any σ')
      rw [hl, hm] at P
      exact P
    · intro j k p x y f1
      exfalso
      by_cases hj : j = i
      · subst hj
        by_cases lj : j < m
        · rw [List.getElem?_set_self (by unfold uns; rw [List.length_replicate]; exact lj)] at f1; cases f1
        · rw [List.getElem?_eq_none (by rw [List.length_set]; unfold uns; rw [List.length_replicate]; omega)] at f1; cases f1
      · rw [List.getElem?_set_ne (Ne.symm hj)] at f1
        have := List.eq_of_mem_replicate (List.mem_of_getElem? f1)
        cases this

/-! ### in the suite: e.f, isinstance(e, T) -/
def dXf (a D dx : Addr) (i : Nat) (f : Str) : DE := fun ρ _ R => match ρ[i]? with
  | some (.ex a' d' er) => (a' = a ∧ er.cls = D ∧ d' = some dx ∧ er.fs ≠ []) ∧ ∃ v, er.fs.lookup f = some v ∧ R v
  | _ => False
def dIsX (a dx : Addr) (i : Nat) (b : Bool) : DE := fun ρ _ R => match ρ[i]? with
  | some (.ex a' d' er) => (a' = a ∧ d' = some dx ∧ er.fs ≠ []) ∧ R (.bl b)
  | _ => False
theorem lookup_reps {K : PySem.W.Frag} {G : Hp} {f : Str} : ∀ {fs : List (Str × V)} {es : List (Str × D)} {d : D}, fs.map (·.1) = es.map (·.1) → Reps K G (fs.map (·.2)) (es.map (·.2)) → es.lookup f = some d → ∃ v, fs.lookup f = some v ∧ Rep K G v d
  | [], [], _, _, _, h => by cases h
  | [], _ :: _, _, h, _, _ => by cases h
  | _ :: _, [], _, h, _, _ => by cases h
  | (n, v) :: fs, (n', d') :: es, d, h, r, e => by
    cases r with
    | cons r1 r2 =>
      have hn : n = n' := (List.cons.inj h).1
      subst hn
      rw [List.lookup_cons] at e ⊢
      cases z : (f == n) with
      | true =>
        rw [z] at e
        have e : d' = d := Option.some.inj e
        subst e
        exact ⟨v, rfl, r1⟩
      | false =>
        rw [z] at e
        exact lookup_reps (List.cons.inj h).2 r2 e
theorem ex_slot {K : PySem.W.Frag} {B : Option Addr} {G0 H0 G H : Hp} {σ : L2.St} {ρ : List Sl} {i : Nat} {a : Addr} {d : Option Addr} {er : Er} (I : En K B G0 H0 G H σ ρ) (e : ρ[i]? = some (.ex a d er)) : σ[i]? = some (some (.ref a)) ∧ (er.fs = [] ∨ ∃ dx fs, d = some dx ∧ G dx = some (.xd fs) ∧ fs.map (·.1) = er.fs.map (·.1) ∧ Reps K G (fs.map (·.2)) (er.fs.map (·.2))) := by
  obtain ⟨o, h1, h2⟩ := pget I.sl e
  cases h2 with
  | ex h => exact ⟨h1, h⟩
section
variable {X : Cx} {E : XK} {a D dx : Addr} {oe : Obj} {pn : List (Addr × Obj)} {c : Value} {e : Expr} {i : Nat} {f : Str} {pos : Pos}
theorem xXf (Z : ErF X.K c D) (hno : PySem.W.findIn X.K (.ref D) f = some none) (hz : Zc (.ref D) (some dx) oe) (hf : ∃ vs, oe.data = .fields vs) (hv : PE (X.suite a ((a, oe) :: pn)) e (tVar i)) (hb : attributeBase e f X.env (eval e X.env) = eval e X.env := by rfl) :
    XEx (X.suite a ((a, oe) :: pn)) E (.Attribute e f pos) (dXf a D dx i f) := .of (pe_xf Z.xf hno hz hf hv hb) fun B G0 H0 G H σ ρ I xe lx Q R k q => by
  unfold dXf at q
  split at q
  · rename_i a' d' er e1
    obtain ⟨⟨rfl, rfl, rfl, q0⟩, v, q1, q2⟩ := q
    obtain ⟨h1, h2⟩ := ex_slot I e1
    rcases h2 with h2 | ⟨dx', fs, g1, g2, g3, g4⟩
    · exact absurd h2 q0
    cases g1
    obtain ⟨u, l1, l2⟩ := lookup_reps g3 g4 q1
    exact ⟨_, h1, rfl, rfl, _, fs, u, rfl, I.st.gh _ _ g2, l1, k u G H v I.st.here l2 q2⟩
  · exact q.elim
theorem xIsX {p p2 : Pos} {et : Expr} {cval : V} {cv : Value} {b : Bool} (Z : ErF X.K c D) (hz : Zc (.ref D) (some dx) oe) (hf : ∃ vs, oe.data = .fields vs) (hg : Gl (X.suite a ((a, oe) :: pn)) "isinstance") (hm : X.mg "isinstance" = none) (hv : PE (X.suite a ((a, oe) :: pn)) e (tVar i)) (ht : PE (X.suite a ((a, oe) :: pn)) et (tC cval)) (hu : ∀ u, RelV cval u → u = cv)
    (hk : PySem.W.kitOne X.K (.ref D) cv = some b) (h1 : starEach [e, et] X.env = (false, eval e X.env) :: starEach [et] X.env := by rfl) (h2 : starEach [et] X.env = (false, eval et X.env) :: starEach [] X.env := by rfl) (hpl : (backTo pos (starEach [et] X.env)).any (·.1) = false := by rfl) :
    XEx (X.suite a ((a, oe) :: pn)) E (.Call (.Name "isinstance" p) [e, et] [] pos) (dIsX a dx i b) := .of (pe_callB (call_isD Z.ex Z.cl hz hf) hg hm (by decide +kernel) (pa_cons hv (pa_cons ht pa_nil h2) h1) (by decide) (by decide) h1 hpl) fun B G0 H0 G H σ ρ I xe lx Q R k q => by
  unfold dIsX at q
  split at q
  · rename_i a' d' er e1
    obtain ⟨⟨rfl, rfl, q0⟩, q2⟩ := q
    obtain ⟨h1, h2⟩ := ex_slot I e1
    rcases h2 with h2 | ⟨dx', fs, g1, g2, g3, g4⟩
    · exact absurd h2 q0
    cases g1
    exact ⟨_, h1, cval, cv, b, fs, rfl, hu, hk, I.st.gh _ _ g2, k _ G H _ I.st.here (.bl b) q2⟩
  · exact q.elim
end
end DL

namespace DL
open PySem PySem.Spec L2
open PyProof.Rows hiding St

/-! ### while -/
structure whBody (dt : DT) (db : DS) (C : DEnds) (ρ : List Sl) : Prop where
  go : ∃ W : Nat → List Sl → Prop, (∃ m, W m ρ) ∧
    ∀ (m : Nat) ρ', W m ρ' → dt ρ' C.xe fun b => ifB b (∃ N : List Sl → Prop, (∀ ρ2, N ρ2 → ∃ m', m' < m ∧ W m' ρ2) ∧ db { C with nx := N, ct := N, bk := C.nx } ρ') (C.nx ρ')
def dWhile (dt : DT) (db : DS) : DS := whBody dt db
theorem sim_while {K : PySem.W.Frag} {E : XK} {tt : TT} {dt : DT} {tb : TS} {db : DS} (ht : SimT K E tt dt) (hb : SimS K E tb db) : SimS K E (tWhile tt tb) (dWhile dt db) := fun B G0 H0 G H σ ρ I Gs sg D C l q => by
  obtain ⟨W, ⟨m0, w0⟩, hs⟩ := q
  refine ⟨fun m σ' H' => ∃ G' ρ', Same G G' ∧ En K B G0 H0 G' H' σ' ρ' ∧ W m ρ', ⟨m0, G, ρ, Same.refl _, I, w0⟩, ?_⟩
  rintro m σ' H' ⟨G', ρ', s1, I', w⟩
  refine ht B G0 H0 G' H' σ' ρ' I' C.xe l.xe _ _ (fun b G2 H2 t z => ?_) (hs m ρ' w)
  cases b with
  | true =>
    obtain ⟨N, hN, z⟩ := z
    rw [if_pos rfl]
    refine ⟨fun σ2 H3 => ∃ G3 ρ3, Same G G3 ∧ En K B G0 H0 G3 H3 σ2 ρ3 ∧ N ρ3, fun σ2 H3 ⟨G3, ρ3, s3, I3, n3⟩ => ?_, ?_⟩
    · obtain ⟨m', lt, w'⟩ := hN ρ3 n3
      exact ⟨m', lt, G3, ρ3, s3, I3, w'⟩
    · exact hb B G0 H0 G2 H2 σ' ρ' (I'.step t) G (s1.trans t.gg) _ { C with nx := N, ct := N, bk := C.nx }
        ⟨fun G4 H4 σ4 ρ4 s4 I4 w4 => ⟨G4, ρ4, s4, I4, w4⟩, fun G4 H4 σ4 ρ4 s4 I4 w4 => l.nx G4 H4 σ4 ρ4 (sg.trans s4) I4 w4, fun G4 H4 σ4 ρ4 s4 I4 w4 => ⟨G4, ρ4, s4, I4, w4⟩, l.rt, l.xe, l.rf⟩ z
  | false =>
    rw [if_neg (by decide)]
    exact l.nx G2 H2 σ' ρ' (sg.trans (s1.trans t.gg)) (I'.step t) z
theorem xs_while {X : Cx} {E : XK} {c : Expr} {body : List Stmt} {dt : DT} {db : DS} {pos : Pos} (hp : PassesOwn (model X.prog X.w) X.A X.env X.xe) (hc : XT X E c dt) (hb : XSs X E body db) : XS X E (.While c body [] pos) (dWhile dt db) := .of (ps_while hp hc.pt hb.ps) (sim_while sT sS)

/-! ### for x in reversed(list) -/
def dRevI (da : DA) : DI := fun ρ xe R => da ρ xe fun ds => match ds with
  | [.lst xs] => R xs.reverse
  | _ => False
theorem jok_rev {K : PySem.W.Frag} {B : Option Addr} {G H : Hp} {a : Addr} {vs : List V} {ds : List D} (h : G a = some (.lst vs)) (r : Reps K G vs ds) : JOk K B (Itv K a vs.length) ds.reverse G H := fun G' H' s1 s2 bg i => by
  have hl : SqL K H' a vs := SqL.of (s2 _ _ (s1 _ _ h))
  have len := r.length
  refine ⟨fun d e => ?_, fun l => by show vs.length ≤ i; rw [List.length_reverse] at l; omega⟩
  have il : i < ds.length := by have := (List.getElem?_eq_some_iff.mp e).1; rwa [List.length_reverse] at this
  rw [List.getElem?_reverse il] at e
  obtain ⟨v, e1, e2⟩ := r.get e
  rw [← len] at e1
  refine ⟨⟨by omega, vs, v, hl, e1⟩, fun x H'' y => ?_⟩
  obtain ⟨rfl, f⟩ := y
  have := f vs hl
  rw [e1] at this
  cases this
  exact ⟨G', Stt.refl s2 bg, e2.mono s1⟩
section
variable {X : Cx} {E : XK} {e tg : Expr} {p pos : Pos} {da : DA}
theorem xi_rev (hg : Gl X "reversed") (hm : X.mg "reversed" = none) (h : XA X E [e] da) (hs : starEach [e] X.env = [(false, eval e X.env)] := by rfl) : XI X E tg (.Call (.Name "reversed" p) [e] [] pos) (iRev X.K (cA X.K E da)) (dRevI da) :=
  ⟨pi_reversed hg hm h.pa hs, fun B G0 H0 G H σ ρ I xe lx R RR k q => sA B G0 H0 G H σ ρ I xe lx _ _ (fun vs G' H' ds t r z => by
    split at z
    · cases r with
      | cons r1 r =>
        cases r
        cases r1 with
        | lst a1 b1 => exact ⟨_, _, rfl, SqL.of (t.gh _ _ a1), k _ _ _ _ t (jok_rev a1 b1) z⟩
    · exact z.elim) q⟩
end
end DL

namespace DL
open PySem PySem.Spec L2
open PyProof.Rows hiding St

/-! ### error classes of a text -/
/-- what is known of an error class that may be raised: one field, and text -/
structure ErD (P : Program) (w : World) (K : PySem.W.Frag) (mg : Str → Option Value) (base : Heap) (x : Str) (C : Addr) (fld msg : Str) : Prop where
  T : OexC K C
  ft : PySem.W.findIn K (.ref C) "text" = some none
  ff : PySem.W.findIn K (.ref C) fld = some none
  hm : mg x = some (.ref C)
  ini : ∃ (fI : Addr) (fd : FuncData) (ps : List Str), PySem.W.findIn K (.ref C) "__init__" = some (some (.ref fI)) ∧ PySem.W.typeIn K (.ref fI) = some (.type "function") ∧ FnOk P w K mg base (L2.CX P w) 2 fI fd ps (spFld K fld msg) ∧ Binds K fd ps []
theorem xs_raiseD {X : Cx} {E : XK} {x fld msg : Str} {ml : List Nat} {C : Addr} {e : Expr} {de : DE} {p pos pos' : Pos} (Z : ErD X.prog X.w X.K X.mg X.base x C fld msg) (hc : X.calm = true) (tk : Takes X fun c d _ H => E c d H) (hr : Room 3 X.A) (hg : Gl X x) (he : XEx X E e de)
    (hml : msg.cps.toList = ml) (hx : Passes (L2.CX X.prog X.w) X fun _ _ _ => False) (hdb : (x == ("__debug__" : Str)) = false := by decide) (h1 : starEach [e] X.env = (false, eval e X.env) :: starEach [] X.env := by rfl) (hpl : (backTo pos (starEach [] X.env)).any (·.1) = false := by rfl) :
    XS X E (.Raise (some (.Call (.Name x p) [e] [] pos)) none pos') (dRaise C fld ml de) := by
  obtain ⟨fI, fd, ps, i1, i2, F, b⟩ := Z.ini
  exact xs_raise (fI := fI) (k := 2) ⟨Z.T, Z.ft, Z.ff, i1, i2, ⟨ps, F, b⟩, Z.hm⟩ hc tk hr hg he hml hx hdb h1 hpl
theorem passF {P : Program} {w : World} {K : PySem.W.Frag} {mg : Str → Option Value} {base : Heap} {N : List Str} {qual : Str} {sc : Scope} {f : Addr} {cv : Value} {A : Around} {o : List Env} {s : Shared} {H : Hp} {E : XK} :
    Passes (L2.CX P w) (cxOf (L2.CX P w) P w K mg base N qual sc f cv A o s H E) fun _ _ _ => False := passes_call (E := fun _ _ _ => False) (W := fun c d _ H => E c d H) (takes_of rfl rfl rfl rfl) fun _ _ _ _ h => h.elim
theorem passT {X : Cx} {E : XK} (tk : Takes X fun c d _ H => E c d H) : Passes (L2.CX X.prog X.w) X E := passes_call tk fun _ _ _ _ h => h
/-- a class of the program, by its name -/
theorem pe_cls {X : Cx} {x : Str} {C : Addr} {pos : Pos} (hg : Gl X x) (hm : X.mg x = some (.ref C)) (hd : (x == ("__debug__" : Str)) = false := by decide) : PE X (.Name x pos) (tC (.ref C)) := pe_glob (v := .ref C) hg hm rfl hd
/-- the j-th statement of a class -/
def inC (s : Stmt) (j : Nat) : Stmt := match s with
  | .ClassDef (body := b) .. => b.getD j (.Pass ⟨0, 0, 0, 0⟩)
  | s => s
end DL

namespace DL
open PySem PySem.Spec L2
open PyProof.Rows hiding St

/-! ### objects that are made and then stay -/
def lk (f : Str) (ks : List Str) (xs : List D) : Option D := (ks.zip xs).lookup f
theorem lk_rep {K : PySem.W.Frag} {G : Hp} {f : Str} : ∀ {fs : List (Str × V)} {xs : List D} {d : D}, Reps K G (fs.map (·.2)) xs → lk f (fs.map (·.1)) xs = some d → ∃ v, fs.lookup f = some v ∧ Rep K G v d
  | [], [], d, _, h => by cases h
  | (g, u) :: fs, x :: xs, d, r, h => by
    cases r with
    | cons r1 r2 =>
      unfold lk at h
      simp only [List.map_cons, List.zip_cons_cons] at h
      rw [List.lookup_cons] at h ⊢
      cases z : (f == g) with
      | true =>
        rw [z] at h
        have h : x = d := Option.some.inj h
        subst h
        exact ⟨u, rfl, r1⟩
      | false =>
        rw [z] at h
        exact lk_rep (f := f) r2 h
theorem no_key {f : Str} : ∀ {fs : List (Str × V)}, f ∉ fs.map (·.1) → fs.lookup f = none
  | [], _ => rfl
  | (g, u) :: fs, h => by
    have h1 : (f == g) = false := by
      cases z : (f == g) with
      | false => rfl
      | true => exact absurd (List.mem_cons.mpr (.inl (by simpa using z))) h
    rw [List.lookup_cons, h1]
    exact no_key fun z => h (List.mem_cons_of_mem _ z)
section
variable {X : Cx} {E : XK} {e o : Expr} {es : List Expr} {f m x : Str} {C : Addr} {pos apos p : Pos} {de : DE} {da : DA} {k : Nat} {fa : Addr} {fd : FuncData} {ps : List Str}
/-- e.f -/
def dFld (C : Addr) (f : Str) (de : DE) : DE := fun ρ xe R => de ρ xe fun d => match d with
  | .ins C' ks xs => C' = C ∧ ∃ v, lk f ks xs = some v ∧ R v
  | _ => False
theorem xFld (c : L2.Cls X.K C) (n : NoAttr X.K C f) (he : XEx X E e de) (hb : attributeBase e f X.env (eval e X.env) = eval e X.env := by rfl) : XEx X E (.Attribute e f pos) (dFld C f de) := .of (pe_fld he.pe hb) fun B G0 H0 G H σ ρ I xe lx Q R kk q =>
  sE B G0 H0 G H σ ρ I xe lx _ _ (fun v G' H' d t r z => by
    split at z
    · obtain ⟨rfl, u, z1, z2⟩ := z
      cases r with
      | ins a b =>
        obtain ⟨w, l1, l2⟩ := lk_rep b z1
        exact ⟨_, _, _, _, w, rfl, t.gh _ _ a, c, n, l1, kk w G' H' u t l2 z2⟩
    · exact z.elim) q
/-- o.m(e, ..) -/
def tMethG (C : Addr) (m : Str) (sp : Sp) (E : XK) (ta : TE) (t : TA) : TE := fun σ H Q => ta σ H fun x H1 => ∃ a dx fs, x = .ref a ∧ H1 a = some (.ins C dx fs) ∧ fs.lookup m = none ∧ t σ H1 fun vs H2 => sp (x :: vs) H2 Q E
theorem pe_methG {ta : TE} {t : TA} {sp : Sp} {pl : Sem Bool} (he : PE X o ta) (c : L2.Cls X.K C) (hm : Meth X.K C m fa) (F : FnG X.prog X.w X.K X.mg X.base k fa fd ps sp) (rg : RmG k X.A) (hb : Binds X.K fd ps []) (hx : Passes (L2.CX X.prog X.w) X E) (ha : PA X (e :: es) t)
    (hst : starEach (e :: es) X.env = (false, eval e X.env) :: starEach es X.env := by rfl) (hpl : (backTo pos (starEach es X.env)).any (·.1) = false := by rfl)
    (ht : eval (.Call (.Attribute o m apos) (e :: es) [] pos) X.env = (do
      let ov ← eval o X.env
      standAt apos.atName
      let (f, first) ← holding [ov] (getMethod ov m pl)
      callWith pos f first (backTo pos (starEach (e :: es) X.env)) (backToKw pos (keywordEach [] X.env))) := by rfl) :
    PE X (.Call (.Attribute o m apos) (e :: es) [] pos) (tMethG C m sp E ta t) := by
  refine ⟨fun pins s σ H Q I h => ?_⟩
  refine PySem.W.methodCall_KW (pl := pl) (thn (he.run pins s σ H _ I h) fun u s1 ⟨x, H1, I1, rx, a, dx, fs, ex, ea, l, q⟩ => ?_) ht
  subst ex
  obtain rfl : u = Value.ref a := rx
  refine getmeth_ok I1 ea c hm l ?_
  refine PySem.W.callWith_K (first := [.ref a]) (h₀ := X.base) I.ok.mod.kin hm.kp (thn (ha.run pos pins s1 σ H1 _ I1 q) fun us s2 ⟨vs, H2, I2, r, q2⟩ => ⟨I2.kIn, ?_⟩) hst hpl
  exact go_fn (us := .ref a :: us) (vs := .ref a :: vs) F rg hb hx I2 (.cons rfl r) q2
theorem pe_methG0 {ta : TE} {sp : Sp} {pl : Sem Bool} (he : PE X o ta) (c : L2.Cls X.K C) (hm : Meth X.K C m fa) (F : FnG X.prog X.w X.K X.mg X.base k fa fd ps sp) (rg : RmG k X.A) (hb : Binds X.K fd ps []) (hx : Passes (L2.CX X.prog X.w) X E)
    (ht : eval (.Call (.Attribute o m apos) [] [] pos) X.env = (do
      let ov ← eval o X.env
      standAt apos.atName
      let (f, first) ← holding [ov] (getMethod ov m pl)
      callWith pos f first (backTo pos (starEach [] X.env)) (backToKw pos (keywordEach [] X.env))) := by rfl) :
    PE X (.Call (.Attribute o m apos) [] [] pos) (tMethG C m sp E ta tNil) := by
  refine ⟨fun pins s σ H Q I h => ?_⟩
  refine PySem.W.methodCall_KW (pl := pl) (thn (he.run pins s σ H _ I h) fun u s1 ⟨x, H1, I1, rx, a, dx, fs, ex, ea, l, q⟩ => ?_) ht
  subst ex
  obtain rfl : u = Value.ref a := rx
  refine getmeth_ok I1 ea c hm l ?_
  exact PySem.W.callWith_K0 (first := [.ref a]) I1.kIn hm.kp (go_fn (us := [.ref a]) (vs := [.ref a]) F rg hb hx I1 (.cons rfl .nil) q)
def dMeth (C : Addr) (m : Str) (S : DSp) (do_ : DE) (da : DA) : DE := fun ρ xe R => do_ ρ xe fun d => match d with
  | .ins C' ks xs => C' = C ∧ m ∉ ks ∧ da ρ xe fun ds => S (.ins C' ks xs :: ds) xe R
  | _ => False
theorem sim_meth {K : PySem.W.Frag} {S : DSp} {to : TE} {ta : TA} {do_ : DE} (h1 : SimE K E to do_) (h : SimA K E ta da) : SimE K E (tMethG C m (spN K S) E to ta) (dMeth C m S do_ da) := fun B G0 H0 G H σ ρ I xe lx Q R kk q =>
  h1 B G0 H0 G H σ ρ I xe lx _ _ (fun v G1 H1 d t1 r1 z => by
    split at z
    · obtain ⟨rfl, z1, z2⟩ := z
      cases r1 with
      | ins a b =>
        refine ⟨_, _, _, rfl, t1.gh _ _ a, no_key z1, ?_⟩
        exact h B G0 H0 G1 H1 σ ρ (I.step t1) xe lx _ _ (fun vs G' H' ds t r z => ⟨B, G', _, xe, R, .cons (.ins (t.gg _ _ a) (b.mono t.gg)) r, Stt.refl t.gh t.bag, lx.shift (I.st.trans (t1.trans t)), z, fun v G2 H2 d t2 r2 z2 => kk v G2 H2 d ((t1.trans t).trans t2) r2 z2⟩) z2
    · exact z.elim) q
theorem xMeth {S : DSp} {do_ : DE} {pl : Sem Bool} (c : L2.Cls X.K C) (hm : Meth X.K C m fa) (F : FnG X.prog X.w X.K X.mg X.base k fa fd ps (spN X.K S)) (rg : RmG k X.A) (hb : Binds X.K fd ps []) (hx : Passes (L2.CX X.prog X.w) X E) (ho : XEx X E o do_) (ha : XA X E (e :: es) da)
    (hst : starEach (e :: es) X.env = (false, eval e X.env) :: starEach es X.env := by rfl) (hpl : (backTo pos (starEach es X.env)).any (·.1) = false := by rfl)
    (ht : eval (.Call (.Attribute o m apos) (e :: es) [] pos) X.env = (do
      let ov ← eval o X.env
      standAt apos.atName
      let (f, first) ← holding [ov] (getMethod ov m pl)
      callWith pos f first (backTo pos (starEach (e :: es) X.env)) (backToKw pos (keywordEach [] X.env))) := by rfl) :
    XEx X E (.Call (.Attribute o m apos) (e :: es) [] pos) (dMeth C m S do_ da) := .of (pe_methG ho.pe c hm F rg hb hx ha.pa hst hpl ht) (sim_meth sE sA)
theorem xMeth0 {S : DSp} {do_ : DE} {pl : Sem Bool} (c : L2.Cls X.K C) (hm : Meth X.K C m fa) (F : FnG X.prog X.w X.K X.mg X.base k fa fd ps (spN X.K S)) (rg : RmG k X.A) (hb : Binds X.K fd ps []) (hx : Passes (L2.CX X.prog X.w) X E) (ho : XEx X E o do_)
    (ht : eval (.Call (.Attribute o m apos) [] [] pos) X.env = (do
      let ov ← eval o X.env
      standAt apos.atName
      let (f, first) ← holding [ov] (getMethod ov m pl)
      callWith pos f first (backTo pos (starEach [] X.env)) (backToKw pos (keywordEach [] X.env))) := by rfl) :
    XEx X E (.Call (.Attribute o m apos) [] [] pos) (dMeth C m S do_ dNil) := .of (pe_methG0 ho.pe c hm F rg hb hx ht) (sim_meth sE fun B G0 H0 G H σ ρ I xe lx Q R kk q => kk [] G H [] I.st.here .nil q)

/-! ### C(e, ..) -/
/-- __init__: self, then what is passed -/
def spI (K : PySem.W.Frag) (C : Addr) (S : DSp) : Sp := fun vs H Q E => ∃ x dx vs' B G ds xe R, vs = .ref x :: vs' ∧ Reps K G vs' ds ∧ Stt B G H G H ∧ H x = some (.ins C dx []) ∧ G x = none ∧ B ≠ some x ∧ LinkX K B G H E xe ∧ S ds xe R ∧
  ∀ G' Hm (fs : List (Str × V)) es', Stt B G H G' Hm → Hm x = some (.ins C dx []) → Reps K G' (fs.map (·.2)) es' → R (.ins C (fs.map (·.1)) es') → Q .non (upd Hm x (.ins C dx fs))
def tMakeG (C : Addr) (sp : Sp) (E : XK) (t : TA) : TE := fun σ H Q => t σ H fun vs H1 => ∀ x dx, H1 x = none → H1 dx = none → dx ≠ x →
  sp (.ref x :: vs) (upd (upd H1 dx (.own x)) x (.ins C dx [])) (fun v H2 => v = .non ∧ Q (.ref x) H2) E
theorem guards_make {A : Around} {C : Addr} {us : List Value} {kw : List (Str × Value)} (h : A.guards = some []) : (A.under (.builtin "type.__call__" ⟨.ref C :: us, kw⟩)).guards = some [] := by
  first | exact h | simpa [Around.under, Code.isGuard, guardIds] using h
theorem run_makeG {sp : Sp} {pins : List (Addr × Obj)} {σ : L2.St} {H : Hp} {s : Shared} {Q : VK} {us : List Value} {vs : List V} (M : Mk X.K C fa) (F : FnG X.prog X.w X.K X.mg X.base k fa fd ps sp) (hr : RmG (k + 1) X.A) (hb : Binds X.K fd ps [])
    (hx : Passes (L2.CX X.prog X.w) X E) (I : Inv X pins σ H s) (r : Vals vs us)
    (h : ∀ x dx, H x = none → H dx = none → dx ≠ x → sp (.ref x :: vs) (upd (upd H dx (.own x)) x (.ins C dx [])) (fun v H2 => v = .non ∧ Q (.ref x) H2) E) :
    wpAny (model X.prog X.w) X.A (call (.ref C) us) (EP X pins σ Q) X.xe s := by
  have hq := h (s.heap.objs.size + 1) s.heap.objs.size (I.hok.fresh (Nat.le_succ _)) (I.hok.fresh (Nat.le_refl _)) (Nat.ne_of_lt (Nat.lt_succ_self _))
  have I2 := Inv.made (C := C) I
  have r2 : Vals (V.ref (s.heap.objs.size + 1) :: vs) (Value.ref (s.heap.objs.size + 1) :: us) := .cons rfl r
  have hl : ((Value.ref (s.heap.objs.size + 1) :: us) ++ ([] : List Value)).length = ps.length := by
    have e := r2.length
    rw [F.len _ _ _ _ hq] at e
    rw [List.append_nil]
    exact e.symm
  have bt := hb _ (Value.ref (s.heap.objs.size + 1) :: us) I2.kIn hl
  rw [List.append_nil] at bt
  refine wpAny_call (make_map (f := fa) I.kIn M.makes M.init (beq_iff_eq.mp M.fn) (codeAny_mono (F.go _ X.stack _ _ ⟨Value.ref (s.heap.objs.size + 1) :: us, []⟩ (Value.ref (s.heap.objs.size + 1) :: us) _ _ E ⟨hr.rm.make C us [], guards_make hr.gd⟩
    (I2.env0.make C us []) bt r2 hq) fun r s' hq' => ?_))
  cases r with
  | error e => exact hx pins σ _ _ e s' I2 hq'
  | ok fl =>
    cases fl with
    | ret u =>
      obtain ⟨v, H', I3, rv, ev, q3⟩ := I2.after hq'
      subst ev
      exact ⟨rv, ⟨V.ref (s.heap.objs.size + 1), H', I3, rfl, q3⟩⟩
    | next => exact False.elim hq'
    | brk => exact False.elim hq'
    | cont => exact False.elim hq'
theorem pe_makeG {sp : Sp} {t : TA} (M : Mk X.K C fa) (F : FnG X.prog X.w X.K X.mg X.base k fa fd ps sp) (hr : RmG (k + 1) X.A) (hg : Gl X x) (hm : X.mg x = some (.ref C)) (hb : Binds X.K fd ps []) (hx : Passes (L2.CX X.prog X.w) X E)
    (ha : PA X (e :: es) t) (hdb : (x == ("__debug__" : Str)) = false := by decide) (he : starEach (e :: es) X.env = (false, eval e X.env) :: starEach es X.env := by rfl) (hpl : (backTo pos (starEach es X.env)).any (·.1) = false := by rfl) :
    PE X (.Call (.Name x p) (e :: es) [] pos) (tMakeG C sp E t) := by
  refine ⟨fun pins s σ H Q I h => ?_⟩
  refine wpAny_Call_Name_kw (ld_glob I hg hm ?_ hdb)
  refine PySem.W.callWith_K (h₀ := X.base) I.ok.mod.kin M.kp (thn (ha.run pos pins s σ H _ I h) fun us s1 ⟨vs, H1, I1, r, q⟩ => ⟨I1.kIn, ?_⟩) he hpl
  exact run_makeG M F hr hb hx I1 r q
/-- the object, laid -/
theorem Stt.made {B : Option Addr} {G H G' Hm : Hp} {C x dx : Addr} {fs : List (Str × V)} (s : Stt B G H G H) (hx : H x = none) (hd : H dx = none) (ne : dx ≠ x) (t : Stt B G (upd (upd H dx (.own x)) x (.ins C dx [])) G' Hm) (hm : Hm x = some (.ins C dx [])) :
    Stt B G H (upd G' x (.ins C dx fs)) (upd Hm x (.ins C dx fs)) := by
  have gx : G' x = none := by
    cases z : G' x with
    | none => rfl
    | some u =>
      rcases t.fr x u z with q | q
      · rw [s.gh x u q] at hx; cases hx
      · rw [upd_same] at q; cases q
  have xb : ∀ b, B = some b → b ≠ x := fun b e z => by
    obtain ⟨_, _, _, _, _, _, h, _⟩ := s.bag b e
    rw [z, hx] at h; cases h
  have db : ∀ b, B = some b → b ≠ dx := fun b e z => by
    obtain ⟨_, _, _, _, _, _, h, _⟩ := s.bag b e
    rw [z, hd] at h; cases h
  refine ⟨fun a u h => ?_, fun a u h => ?_, fun a u n h => ?_, fun a u h => ?_, fun b e => ?_, fun b e => ?_⟩
  · have h' := t.gg a u h
    rw [upd_ne (fun z => by rw [z, gx] at h'; cases h')]; exact h'
  · by_cases z : a = x
    · subst z; rw [upd_same] at h ⊢; exact h
    · rw [upd_ne z] at h ⊢; exact t.gh a u h
  · have nx : a ≠ x := fun z => by rw [z, hx] at h; cases h
    have nd : a ≠ dx := fun z => by rw [z, hd] at h; cases h
    rw [upd_ne nx]
    exact t.hh a u n (by rw [upd_ne nx, upd_ne nd]; exact h)
  · by_cases z : a = x
    · subst z; exact .inr hx
    · rw [upd_ne z] at h
      rcases t.fr a u h with q | q
      · exact .inl q
      · rw [upd_ne z] at q
        by_cases z2 : a = dx
        · subst z2; exact .inr hd
        · rw [upd_ne z2] at q; exact .inr q
  · obtain ⟨g0, n, sd, i, c, cells, k1, k2, q⟩ := t.bag b e
    refine ⟨by rw [upd_ne (xb b e)]; exact g0, n, sd, i, c, cells, by rw [upd_ne (xb b e)]; exact k1, ?_, q⟩
    rw [upd_ne (fun z => by rw [z, gx] at k2; cases k2)]; exact k2
  · have e1 := t.bc b e
    unfold bagC at e1 ⊢
    rw [upd_ne (xb b e), e1, upd_ne (xb b e), upd_ne (db b e)]
def dMake (S : DSp) (da : DA) : DE := fun ρ xe R => da ρ xe fun ds => S ds xe R
theorem sim_make {K : PySem.W.Frag} {S : DSp} {ta : TA} (h : SimA K E ta da) : SimE K E (tMakeG C (spI K C S) E ta) (dMake S da) := fun B G0 H0 G H σ ρ I xe lx Q R kk q =>
  h B G0 H0 G H σ ρ I xe lx _ _ (fun vs G' H' ds t r z => fun x dx hx hd ne => by
    have s1 : Stt B G' H' G' H' := Stt.refl t.gh t.bag
    have s2 := s1.laid (o := .own x) hd
    have hx2 : upd H' dx (.own x) x = none := by rw [upd_ne ne.symm]; exact hx
    have s3 := s2.laid (o := .ins C dx []) hx2
    have nb : B ≠ some x := fun e => by
      obtain ⟨_, _, _, _, _, _, h, _⟩ := t.bag x e
      rw [hx] at h; cases h
    refine ⟨x, dx, vs, B, G', ds, xe, R, rfl, r, Stt.refl s3.gh s3.bag, upd_same, s1.gfree hx, nb, lx.shift ((I.st.trans t).trans (s2.trans s3)), z, fun G2 Hm fs es' t2 hm r2 z2 => ⟨rfl, ?_⟩⟩
    have t3 := Stt.made (fs := fs) s1 hx hd ne t2 hm
    have sm : Same G2 (upd G2 x (.ins C dx fs)) := fun a u h => by
      rw [upd_ne (fun z => by
        subst z
        rcases t2.fr _ u h with q | q
        · rw [s1.gfree hx] at q; cases q
        · rw [upd_same] at q; cases q)]; exact h
    exact kk _ _ _ _ (t.trans t3) (.ins upd_same (r2.mono sm)) z2) q
theorem xMake {S : DSp} (M : Mk X.K C fa) (F : FnG X.prog X.w X.K X.mg X.base k fa fd ps (spI X.K C S)) (hr : RmG (k + 1) X.A) (hg : Gl X x) (hm : X.mg x = some (.ref C)) (hb : Binds X.K fd ps []) (hx : Passes (L2.CX X.prog X.w) X E)
    (ha : XA X E (e :: es) da) (hdb : (x == ("__debug__" : Str)) = false := by decide) (he : starEach (e :: es) X.env = (false, eval e X.env) :: starEach es X.env := by rfl) (hpl : (backTo pos (starEach es X.env)).any (·.1) = false := by rfl) :
    XEx X E (.Call (.Name x p) (e :: es) [] pos) (dMake S da) := .of (pe_makeG M F hr hg hm hb hx ha.pa hdb he hpl) (sim_make sA)
end
end DL

namespace DL
open PySem PySem.Spec L2
open PyProof.Rows hiding St

/-! ### __init__(self, one, other): two tests, then self.f1 = one, self.f2 = list(other) -/
theorem upd_upd {H : Hp} {x : Addr} {o u : HO} : upd (upd H x o) x u = upd H x u := by
  funext b
  by_cases z : b = x
  · subst z; rw [upd_same, upd_same]
  · rw [upd_ne z, upd_ne z, upd_ne z]
def self0 (x C : Addr) : Sl := .ex x none ⟨C, []⟩
/-- a write at x, which is not among what stays, then more -/
theorem Stt.past {B : Option Addr} {G H G1 H1 G2 H2 : Hp} {x : Addr} {o u : HO} (s : Stt B G H G1 H1) (hx : H x = some o) (gx : G x = none) (nb : B ≠ some x) (t : Stt B G1 (upd H1 x u) G2 H2) : G2 x = none ∧ H2 x = some u ∧ H1 x = some o ∧ Stt B G H G2 (upd H2 x o) := by
  have h1x : H1 x = some o := s.hh x o (fun z => nb z.symm) hx
  have g1x : G1 x = none := by
    cases z : G1 x with
    | none => rfl
    | some v =>
      rcases s.fr x v z with q | q
      · rw [gx] at q; cases q
      · rw [hx] at q; cases q
  have g2x : G2 x = none := by
    cases z : G2 x with
    | none => rfl
    | some v =>
      rcases t.fr x v z with q | q
      · rw [g1x] at q; cases q
      · rw [upd_same] at q; cases q
  have h2x : H2 x = some u := t.hh x u (fun z => nb z.symm) upd_same
  have xb : ∀ b, B = some b → b ≠ x := fun b e z => nb (by rw [e, z])
  refine ⟨g2x, h2x, h1x, s.gg.trans t.gg, fun a v h => ?_, fun a v n h => ?_, fun a v h => ?_, fun b e => ?_, fun b e => ?_⟩
  · have : a ≠ x := fun z => by rw [z, g2x] at h; cases h
    rw [upd_ne this]; exact t.gh a v h
  · by_cases z : a = x
    · subst z; rw [hx] at h; cases h; exact upd_same
    · rw [upd_ne z]; exact t.hh a v n (by rw [upd_ne z]; exact s.hh a v n h)
  · have nx : a ≠ x := fun z => by rw [z, g2x] at h; cases h
    rcases t.fr a v h with q | q
    · exact s.fr a v q
    · rw [upd_ne nx] at q; exact .inr (s.before q)
  · obtain ⟨g0, n, sd, i, c, cells, k1, k2, q⟩ := t.bag b e
    exact ⟨g0, n, sd, i, c, cells, by rw [upd_ne (xb b e)]; exact k1, k2, q⟩
  · have e1 := t.bc b e
    have e2 := s.bc b e
    unfold bagC at e1 e2 ⊢
    rw [upd_ne (xb b e), e1, upd_ne (xb b e), e2]
theorem Stt.at {B : Option Addr} {G H G1 H1 : Hp} {x : Addr} {o u : HO} (s : Stt B G H G1 H1) (hx : H x = some o) (gx : G x = none) (nb : B ≠ some x) : Stt B G1 (upd H1 x u) G1 (upd H1 x u) := by
  have g1x : G1 x = none := by
    cases z : G1 x with
    | none => rfl
    | some v =>
      rcases s.fr x v z with q | q
      · rw [gx] at q; cases q
      · rw [hx] at q; cases q
  refine Stt.refl (fun a v h => ?_) fun b e => ?_
  · rw [upd_ne (fun z => by rw [z, g1x] at h; cases h)]; exact s.gh a v h
  · obtain ⟨g0, n, sd, i, c, cells, k1, k2, q⟩ := s.bag b e
    exact ⟨g0, n, sd, i, c, cells, by rw [upd_ne (fun z => nb (by rw [e, z]))]; exact k1, k2, q⟩
theorem LinkX.at {K : PySem.W.Frag} {B : Option Addr} {G0 H0 G1 H1 : Hp} {E : XK} {x : Addr} {o u : HO} (s : Stt B G0 H0 G1 H1) : LinkX K B G1 (upd H1 x u) E fun _ => False := noX
theorem okI2 {P : Program} {w : World} {K : PySem.W.Frag} {mg : Str → Option Value} {base : Heap} {y qual f1 f2 p1 p2 : Str} {st : Stmt} {f C : Addr} {fd : FuncData} {k : Nat} {S : DSp} {d1 d2 : DS} (F : Fun K y qual st f fd) (Z : FnScope ["self", p1, p2] ["self", p1, p2] (defScope st))
    (c : L2.Cls K C) (n1 : NoAttr K C f1) (n2 : NoAttr K C f2) (ne : f1 ≠ f2)
    (hS : ∀ ds xe R, S ds xe R → ∃ a bs, ds = [a, .lst bs] ∧ ∀ x, (dSeq d1 d2) { nx := fun ρ => ρ = [self0 x C, .dd a, .dd (.lst bs)] ∧ R (.ins C [f1, f2] [a, .lst bs]), rt := fun _ => False, xe := xe } [self0 x C, .dd a, .dd (.lst bs)])
    (hb : ∀ (cv : Value) (A : Around) (o : List Env) (s : Shared) (H : Hp) (E : XK), RmG k (A.deeper (envOfC qual (defScope st) s.heap.objs.size f cv)) → ∃ s1 s2 a1 a2, defBody st = [s1, s2, a1, a2] ∧
      XS (cxOf (L2.CX P w) P w K mg base ["self", p1, p2] qual (defScope st) f cv A o s H E) E s1 d1 ∧ XS (cxOf (L2.CX P w) P w K mg base ["self", p1, p2] qual (defScope st) f cv A o s H E) E s2 d2 ∧
      PS (cxOf (L2.CX P w) P w K mg base ["self", p1, p2] qual (defScope st) f cv A o s H E) a1 (sFld K (tVar 0) (tVar 1) f1) ∧
      PS (cxOf (L2.CX P w) P w K mg base ["self", p1, p2] qual (defScope st) f cv A o s H E) a2 (sFld K (tVar 0) (cE K E (dCB cList (dCons (dVar 2) dNil))) f2)) :
    FnG P w K mg base (k + 1) f fd ["self", p1, p2] (spI K C S) := by
  refine Fun.okG F Z (fun vs H Q E h => ?_) fun cv A o s H vs Q E rg h => ?_
  · obtain ⟨x, dx, vs', B, G, ds, xe, R, rfl, r, _, _, _, _, _, hs, _⟩ := h
    obtain ⟨a, bs, rfl, _⟩ := hS ds xe R hs
    rw [List.length_cons, r.length]; rfl
  · obtain ⟨x, dx, vs', B, G, ds, xe, R, rfl, r, st0, hx, gx, nb, lx, hs, q⟩ := h
    obtain ⟨a, bs, rfl, hd⟩ := hS ds xe R hs
    obtain ⟨s1, s2, a1, a2, eb, X1, X2, P1, P2⟩ := hb cv A o s H E rg
    rw [eb]
    refine ⟨_, pss_cons X1.ps (pss_cons X2.ps (pss_cons P1 (pss_one P2))), ?_⟩
    cases r with
    | cons r1 r =>
      cases r with
      | cons r2 r =>
        cases r
        have I0 : En K B G H G H (start ["self", p1, p2] [.ref x, _, _]) [self0 x C, .dd a, .dd (.lst bs)] := ⟨st0, .cons (.ex (.inl rfl)) (.cons (.dd r1) (.cons (.dd r2) .nil)), fun i j p u v e => by
          match i, e with
          | 0, e => cases e
          | 1, e => cases e
          | 2, e => cases e
          | n + 3, e => cases e⟩
        refine sS B G H G H _ _ I0 G (Same.refl _) _ { nx := d2 { nx := fun ρ => ρ = [self0 x C, .dd a, .dd (.lst bs)] ∧ R (.ins C [f1, f2] [a, .lst bs]), rt := fun _ => False, xe := xe }, rt := fun _ => False, xe := xe } ⟨fun G1 H1 σ1 ρ1 sg1 I1 z1 => ?_, fun _ _ _ _ _ _ z => z.elim, fun _ _ _ _ _ _ z => z.elim, fun _ _ _ _ _ _ z => z.elim, lx, fun _ _ _ _ _ _ _ z => z.elim⟩ (hd x)
        refine sS B G H G1 H1 _ _ I1 G sg1 _ { nx := fun ρ => ρ = [self0 x C, .dd a, .dd (.lst bs)] ∧ R (.ins C [f1, f2] [a, .lst bs]), rt := fun _ => False, xe := xe } ⟨fun G2 H2 σ2 ρ2 sg2 I2 z2 => ?_, fun _ _ _ _ _ _ z => z.elim, fun _ _ _ _ _ _ z => z.elim, fun _ _ _ _ _ _ z => z.elim, lx, fun _ _ _ _ _ _ _ z => z.elim⟩ z1
        obtain ⟨rfl, zR⟩ := z2
        have e0 := (ex_slot (i := 0) I2 rfl).1
        obtain ⟨v1, e1, q1⟩ := I2.var (i := 1) rfl
        have x2 : H2 x = some (.ins C dx []) := I2.st.hh x _ (fun z => nb z.symm) hx
        refine ⟨v1, e1, _, e0, x, C, dx, [], rfl, x2, c, n1, by decide, ?_⟩
        have sl := I2.sl
        have I3 : En K B G2 (upd H2 x (.ins C dx (putF f1 v1 []))) G2 (upd H2 x (.ins C dx (putF f1 v1 []))) σ2 [self0 x C, .dd a, .dd (.lst bs)] := ⟨I2.st.at hx gx nb, by
          cases sl with
          | cons w0 sl => cases sl with
            | cons w1 sl => cases sl with
              | cons w2 sl =>
                cases sl
                cases w0 with
                | ex h0 => cases w1 with
                  | dd h1 => cases w2 with
                    | dd h2 => exact .cons (.ex (.inl rfl)) (.cons (.dd h1) (.cons (.dd h2) .nil)), fun i j p u v e => by
          match i, e with
          | 0, e => cases e
          | 1, e => cases e
          | 2, e => cases e
          | n + 3, e => cases e⟩
        refine sE B _ _ _ _ σ2 _ I3 (fun _ => False) noX _ (fun d => d = .lst bs) (fun v G3 H3 d t3 r3 z3 => ?_) (show dCB cList (dCons (dVar 2) dNil) _ _ _ from rfl)
        subst z3
        obtain ⟨g3x, h3x, _, T⟩ := I2.st.past hx gx nb t3
        refine ⟨_, e0, x, C, dx, _, rfl, h3x, c, n2, (by show 1 < 1000; decide), ?_⟩
        have ef : putF f2 v (putF f1 v1 []) = [(f1, v1), (f2, v)] := by
          show (if f1 = f2 then _ else _) = _
          rw [if_neg ne]; rfl
        rw [ef]
        have fin := q G3 (upd H3 x (.ins C dx [])) [(f1, v1), (f2, v)] [a, .lst bs] T upd_same (.cons (q1.mono t3.gg) (.cons r3 .nil)) zR
        rw [upd_upd] at fin
        exact fin

/-! ### a << b -/
abbrev oShl : O2 := oIC CPow fun i j => .int (i * 2 ^ j.toNat)
theorem xShl {X : Cx} {E : XK} {a b : Expr} {pos : Pos} {da db : DE} (ha : XEx X E a da) (hb : XEx X E b db) : XEx X E (.BinOp a .LShift b pos) (dOp oShl da db) := xe_op op_shl (simr_I fun _ _ _ => .int _) ha hb
/-! ### return f(..), f's result fresh -/
def dRetC (S : DSp) (da : DA) : DS := fun C ρ => da ρ C.xe fun ds => S ds C.xe C.rf
theorem xs_retC {X : Cx} {E : XK} {k : Nat} {f : Addr} {fd : FuncData} {ps : List Str} {S : DSp} {x : Str} {p pos pos' : Pos} {e : Expr} {es : List Expr} {da : DA} (F : FnG X.prog X.w X.K X.mg X.base k f fd ps (spF X.K S)) (rg : RmG k X.A) (hg : Gl X x) (hm : X.mg x = some (.ref f)) (hk : PySem.W.keepIn X.K (.ref f) = true) (hb : Binds X.K fd ps []) (hx : Passes (L2.CX X.prog X.w) X E)
    (ha : XA X E (e :: es) da) (hdb : (x == ("__debug__" : Str)) = false := by decide) (he : starEach (e :: es) X.env = (false, eval e X.env) :: starEach es X.env := by rfl) (hpl : (backTo pos (starEach es X.env)).any (·.1) = false := by rfl) :
    XS X E (.Return (some (.Call (.Name x p) (e :: es) [] pos)) pos') (dRetC S da) := .of (ps_ret (pe_cl F rg hg hm hk hb hx ha.pa hdb he hpl)) fun B G0 H0 G H σ ρ I Gs sg D C l q =>
  sA B G0 H0 G H σ ρ I C.xe l.xe _ _ (fun vs G' H' ds t r z => ⟨B, G', ds, C.xe, C.rf, r, Stt.refl t.gh t.bag, l.xe.shift (I.st.trans t), z, fun v G2 H2 d t2 r2 fr q2 => l.rf v d G2 H2 ((I.st.trans t).trans t2) r2 (fr.mono (fun _ h => (I.st.trans t).before h) (Same.refl _)) q2⟩) q
/-! ### x = o.m(e, ..), the result x's own -/
def dMethO (i : Nat) (C : Addr) (m : Str) (S : DSp) (do_ : DE) (da : DA) : DS := fun Ct ρ => do_ ρ Ct.xe fun d => match d with
  | .ins C' ks xs => C' = C ∧ m ∉ ks ∧ da ρ Ct.xe fun ds => S (.ins C' ks xs :: ds) Ct.xe (toOwn i Ct ρ)
  | _ => False

section
variable {X : Cx} {E : XK} {e o : Expr} {es : List Expr} {m y : Str} {C : Addr} {pos pos2 apos py : Pos} {da : DA} {do_ : DE} {k i : Nat} {fa : Addr} {fd : FuncData} {ps : List Str} {S : DSp}
theorem sim_methO {K : PySem.W.Frag} {to : TE} {ta : TA} (h1 : SimE K E to do_) (h : SimA K E ta da) : SimS K E (tAsg (tMethG C m (spF K S) E to ta) (gName i)) (dMethO i C m S do_ da) := fun B G0 H0 G H σ ρ I Gs sg D' Ct l q =>
  h1 B G0 H0 G H σ ρ I Ct.xe l.xe _ _ (fun v G1 H1 d t1 r1 z => by
    split at z
    · obtain ⟨rfl, z1, z2⟩ := z
      cases r1 with
      | ins a b =>
        refine ⟨_, _, _, rfl, t1.gh _ _ a, no_key z1, ?_⟩
        exact h B G0 H0 G1 H1 σ ρ (I.step t1) Ct.xe l.xe _ _ (fun vs G' H' ds t r z => ⟨B, G', _, Ct.xe, _, .cons (.ins (t.gg _ _ a) (b.mono t.gg)) r, Stt.refl t.gh t.bag, l.xe.shift (I.st.trans (t1.trans t)), z, fun v G2 H2 d t2 r2 fr z2 => to_own (I.step (t1.trans t)) (sg.trans (t1.trans t).gg) l t2 r2 fr z2⟩) z2
    · exact z.elim) q
theorem xs_methO {pl : Sem Bool} (c : L2.Cls X.K C) (hm : Meth X.K C m fa) (F : FnG X.prog X.w X.K X.mg X.base k fa fd ps (spF X.K S)) (rg : RmG k X.A) (hb : Binds X.K fd ps []) (hx : Passes (L2.CX X.prog X.w) X E) (hN : X.N.Nodup) (hi : X.N[i]? = some y) (hy : Loc X.env.scope y) (ho : XEx X E o do_) (ha : XA X E (e :: es) da)
    (hst : starEach (e :: es) X.env = (false, eval e X.env) :: starEach es X.env := by rfl) (hpl : (backTo pos (starEach es X.env)).any (·.1) = false := by rfl)
    (ht : eval (.Call (.Attribute o m apos) (e :: es) [] pos) X.env = (do
      let ov ← eval o X.env
      standAt apos.atName
      let (f, first) ← holding [ov] (getMethod ov m pl)
      callWith pos f first (backTo pos (starEach (e :: es) X.env)) (backToKw pos (keywordEach [] X.env))) := by rfl)
    (hs : swapsWith (.Call (.Attribute o m apos) (e :: es) [] pos) (some (.Name y py)) pos2.line X.env = pure false := by rfl) (hf : X.fn y = true ∨ X.env.scope.names.lookup y = some .local := by first | exact .inl rfl | exact .inr rfl | assumption) :
    XS X E (.Assign [.Name y py] (.Call (.Attribute o m apos) (e :: es) [] pos) pos2) (dMethO i C m S do_ da) := .of (ps_set hN hi hy (pe_methG ho.pe c hm F rg hb hx ha.pa hst hpl ht) hs hf) (sim_methO sE sA)
/-! ### x.reverse(), x.clear(), x a list of one's own -/
def dRevO (i : Nat) : DS := fun Ct ρ => match ρ[i]? with
  | some (.own ds) => Ct.nx (ρ.set i (.own ds.reverse))
  | _ => False
def dClrO (i : Nat) : DS := fun Ct ρ => match ρ[i]? with
  | some (.own _) => Ct.nx (ρ.set i (.own []))
  | _ => False
theorem xs_revO {c : Expr} (h : PE X c (tBM0 X.K "list" rReverse (tVar i))) (hs : swapsWith c none pos.line X.env = pure false := by rfl) : XS X E (.Expr c pos) (dRevO i) := .of (ps_expr h hs) fun B G0 H0 G H σ ρ I Gs sg D' Ct l q => by
  unfold dRevO at q
  split at q
  · rename_i ds e
    obtain ⟨p, vs, h1, h2, h3, h4, h5, h6⟩ := I.owned e
    exact ⟨.ref p, h1, .inl ⟨rfl, _, SqL.of h2⟩, p, vs, rfl, rfl, h2, l.nx _ _ _ _ sg (I.put e h1 h3.reverse) q⟩
  · exact q.elim
theorem xs_clrO {c : Expr} (h : PE X c (tBM0 X.K "list" rClear (tVar i))) (hs : swapsWith c none pos.line X.env = pure false := by rfl) : XS X E (.Expr c pos) (dClrO i) := .of (ps_expr h hs) fun B G0 H0 G H σ ρ I Gs sg D' Ct l q => by
  unfold dClrO at q
  split at q
  · rename_i ds e
    obtain ⟨p, vs, h1, h2, h3, h4, h5, h6⟩ := I.owned e
    exact ⟨.ref p, h1, .inl ⟨rfl, _, SqL.of h2⟩, p, vs, rfl, rfl, h2, l.nx _ _ _ _ sg (I.put e h1 .nil) q⟩
  · exact q.elim
end

/-! ### a, b = [..], [..]: both owned -/
def dParOO (i j : Nat) (da db : DA) : DS := fun C ρ => da ρ C.xe fun xs => xs.length ≤ sizeLine ∧ db ρ C.xe fun ds => ds.length ≤ sizeLine ∧ C.nx ((ρ.set i (.own xs)).set j (.own ds))
theorem sim_parOO {K : PySem.W.Frag} {E : XK} {i j : Nat} {ta tb : TA} {da db : DA} (h : SimA K E ta da) (hb : SimA K E tb db) : SimS K E (tPar i j (tCons (tLst ta) (tCons (tLst tb) tNil))) (dParOO i j da db) := fun B G0 H0 G H σ ρ I Gs sg D C l q =>
  h B G0 H0 G H σ ρ I C.xe l.xe _ _ (fun vs G1 H1 ds t r z => ⟨by rw [r.length]; exact z.1, fun p hp => by
    have I1 := I.step t
    have t2 : Stt B G1 H1 G1 (upd H1 p (.lst vs)) := I1.st.laid hp
    have I2 := I1.lay (i := i) r hp
    refine hb B G0 H0 G1 (upd H1 p (.lst vs)) σ ρ (I1.step t2) C.xe l.xe _ _ (fun ws G2 H2 es t3 r3 z3 => ⟨by rw [r3.length]; exact z3.1, fun p2 hp2 => ?_⟩) z.2
    exact ⟨_, _, rfl, l.nx _ _ _ _ ((sg.trans t.gg).trans t3.gg) ((I2.step t3).lay r3 hp2) z3.2⟩⟩) q
theorem xs_parOO {X : Cx} {E : XK} {i j : Nat} {x y : Str} {as bs : List Expr} {da db : DA} {px py pt pl pl2 pos : Pos} {kt k2 pt2} (hc : X.calm = true) (hN : X.N.Nodup) (hi : X.N[i]? = some x) (hj : X.N[j]? = some y) (hij : i ≠ j)
    (hx : X.env.scope.names.lookup x = some .local) (hy : X.env.scope.names.lookup y = some .local) (ha : XA X E as da) (hb : XA X E bs db)
    (hw : swappedStores [.Tuple [.Name x px, .Name y py] kt pt] (.Tuple [.List as pl2, .List bs pl] k2 pt2) X.env = pure (some [x, y]) := by rfl)
    (hs : swapsWithSole [.Tuple [.Name x px, .Name y py] kt pt] (.Tuple [.List as pl2, .List bs pl] k2 pt2) pos.line X.env = pure false := by rfl)
    (h1 : starEach [.List as pl2, .List bs pl] X.env = (false, eval (.List as pl2) X.env) :: starEach [.List bs pl] X.env := by rfl) (h2 : starEach [.List bs pl] X.env = (false, eval (.List bs pl) X.env) :: starEach [] X.env := by rfl) :
    XS X E (.Assign [.Tuple [.Name x px, .Name y py] kt pt] (.Tuple [.List as pl2, .List bs pl] k2 pt2) pos) (dParOO i j da db) := .of (ps_par hc hN hi hj hij hx hy (pa_cons (pe_lst ha.pa) (pa_cons (pe_lst hb.pa) pa_nil h2) h1) hw hs) (sim_parOO sA sA)

/-- where the classes of the program lie -/
structure Kl where
  (OwnError Wrong NoPlace NoCall TooLong TooMany NoNumber NoLetter NotCalled NoElder Several EqualEnds NoTwins TooShort NoText NoBook NoCommand Far Marks Book Console : Addr)

/-! ### x = [e, ..], x's own -/
def dLstO (i : Nat) (da : DA) : DS := fun C ρ => da ρ C.xe fun ds => ds.length ≤ sizeLine ∧ C.nx (ρ.set i (.own ds))
theorem xs_lstO {X : Cx} {E : XK} {i : Nat} {x : Str} {es : List Expr} {da : DA} {pl pos' pos : Pos} (hN : X.N.Nodup) (hi : X.N[i]? = some x) (hx : Loc X.env.scope x) (ha : XA X E es da) (hs : swapsWith (.List es pl) (some (.Name x pos')) pos.line X.env = pure false := by rfl) (hf : X.fn x = true ∨ X.env.scope.names.lookup x = some .local := by first | exact .inl rfl | exact .inr rfl | assumption) :
    XS X E (.Assign [.Name x pos'] (.List es pl) pos) (dLstO i da) := .of (ps_set hN hi hx (pe_lst ha.pa) hs hf) fun B G0 H0 G H σ ρ I Gs sg D C l q =>
  sA B G0 H0 G H σ ρ I C.xe l.xe _ _ (fun vs G' H' ds t r z => ⟨by rw [r.length]; exact z.1, fun p hp => l.nx _ _ _ _ (sg.trans t.gg) ((I.step t).lay r hp) z.2⟩) q
end DL

namespace DL
open PySem PySem.Spec L2
open PyProof.Rows hiding St

/-! ### words and rows that a law draws -/
def letters (w : List Nat) : Prop := ∀ c ∈ w, 97 ≤ c ∧ c ≤ 122
/-- the row that a call makes -/
def mk (w : List Nat) (p : Nat) : List Nat := w.take p ++ w.take p ++ w[p]?.toList ++ w.drop (p + 1) ++ w.drop (p + 1)
def s_word : DSp := fun ds _ R => ∃ m : Int, ds = [.int m] ∧ 1 ≤ m ∧ m ≤ 100000 ∧ ∀ w : List Nat, letters w → 1 ≤ w.length → (w.length : Int) ≤ m → R (.str w)
def s_row : DSp := fun ds _ R => ∃ m : Int, ds = [.int m] ∧ 1 ≤ m ∧ m ≤ 100000 ∧ ∀ w : List Nat, letters w → 2 ≤ w.length → ((w.length : Int) ≤ m ∨ w.length = 2) → R (.str w)
def s_called : DSp := fun ds _ R => ∃ (w : List Nat) (p : Nat), ds = [.str w, .int (p : Int)] ∧ p < w.length ∧ w.length ≤ 100000 ∧ R (.str (mk w p))
def s_made : DSp := s_called
def s_any_row : DSp := fun ds _ R => ∃ m : Int, ds = [.int m] ∧ 2 ≤ m ∧ m ≤ 100000 ∧ ∀ w : List Nat, letters w → 2 ≤ w.length → (w.length : Int) ≤ m → R (.str w)
/-- _law_word(_law_bag_here 0, _law_most 1, _law_start 2, _law_few 3, _law_letters 4, _law_way 5, _law_size 6, _law_many 7, _law_word_here 8, _law_k 9) -/
def b_word : DS :=
  (dSeq (dUnpack2 2 3 (dTup (dCons (dCallB 0 s_take (dCons (dC (.int 24)) dNil)) (dCons (dOp oAdd (dC (.int 1)) (dCallB 0 s_take (dCons (dC (.int 3)) dNil))) dNil)))) (dSeq (dAsg 4 (dSl oSlS (dC (.str [97, 98, 99, 100, 101, 102, 103, 104, 105, 106, 107, 108, 109, 110, 111, 112, 113, 114, 115, 116, 117, 118, 119, 120, 121, 122])) (dPart (dVar 2)) (dPart (dOp oAdd (dVar 2) (dVar 3))))) (dSeq (dPar 5 6 (dCallB 0 s_take (dCons (dC (.int 4)) dNil)) (dOp oAdd (dC (.int 1)) (dCallB 0 s_take (dCons (dVar 1) dNil)))) (dSeq (dAsg 7 (dOp oIx (dLst (dCons (dVar 6) (dCons (dOp oAdd (dC (.int 1)) (dCallB 0 s_take (dCons (dC (.int 4)) dNil))) dNil))) (dCB cInt (dCons (dOp oGt (dVar 5) (dC (.int 1))) dNil)))) (dSeq (dAsg 8 (dJoin0 (dLc (dRng1 (dCons (dVar 7) dNil)) (dgName 9) dYes (dOp oIx (dVar 4) (dCallB 0 s_take (dCons (dVar 3) dNil))) [9]))) (dSeq (dAsg 8 (dSl oSlS (dOp oRepT (dVar 8) (dOp oAdd (dOp oDiv (dVar 6) (dVar 7)) (dC (.int 1)))) dNo (dPart (dVar 6)))) (dRet (dOp oIx (dLst (dCons (dVar 8) (dCons (dVar 8) (dCons (dVar 8) (dCons (dRevS (dVar 8)) dNil))))) (dVar 5)))))))))

/-- _law_row(_law_bag_here 0, _law_most 1, _law_text 2, _law_way 3, _law_turn 4, _law_letter 5) -/
def b_row : DS :=
  (dSeq (dAsg 2 (dCallB 0 s_word (dCons (dVar 1) dNil))) (dSeq (dIfS (dTest (dOp oLt (dCB cLen (dCons (dVar 2) dNil)) (dC (.int 2)))) (dAsg 2 (dOp oCatS (dVar 2) (dVar 2))) dNext) (dSeq (dPar 3 4 (dCallB 0 s_take (dCons (dC (.int 3)) dNil)) (dCallB 0 s_take (dCons (dC (.int 2)) dNil))) (dSeq (dIfS (dTest (dOp oEqI (dVar 3) (dC (.int 1)))) (dRet (dOp oCatS (dSl oSlS (dVar 2) dNo (dPart (dNeg (dC (.int 1))))) (dOp oIx (dLc (dSigns (dC (.str [97, 98, 99]))) (dgName 5) (dTest (dOp oNeS (dVar 5) (dOp oIx (dVar 2) (dC (.int 0))))) (dVar 5) [5]) (dVar 4)))) dNext) (dRet (dOp oIx (dLst (dCons (dVar 2) (dCons (dVar 2) (dCons (dOp oCatS (dSl oSlS (dVar 2) dNo (dPart (dNeg (dC (.int 1))))) (dOp oIx (dVar 2) (dC (.int 0)))) dNil)))) (dVar 3)))))))

/-- _law_called(_law_row_here 0, _law_place 1, _law_ahead 2, _law_behind 3) -/
def b_called : DS :=
  (dSeq (dPar 2 3 (dSl oSlS (dVar 0) dNo (dPart (dVar 1))) (dSl oSlS (dVar 0) (dPart (dOp oAdd (dVar 1) (dC (.int 1)))) dNo)) (dRet (dOp oCatS (dOp oCatS (dOp oCatS (dOp oCatS (dVar 2) (dVar 2)) (dOp oIx (dVar 0) (dVar 1))) (dVar 3)) (dVar 3))))

/-- made(row 0, place 1, before 2, after 3) -/
def b_made : DS :=
  (dSeq (dAsg 2 (dSl oSlS (dVar 0) dNo (dPart (dVar 1)))) (dSeq (dAsg 3 (dSl oSlS (dVar 0) (dPart (dOp oAdd (dVar 1) (dC (.int 1)))) dNo)) (dRet (dOp oCatS (dOp oCatS (dOp oCatS (dOp oCatS (dVar 2) (dVar 2)) (dOp oIx (dVar 0) (dVar 1))) (dVar 3)) (dVar 3)))))

/-- _law_any_row(_law_bag_here 0, _law_most 1, _law_size 2, _law_k 3) -/
def b_any_row : DS :=
  (dSeq (dIfS (dTest (dOp oGt (dCallB 0 s_take (dCons (dC (.int 3)) dNil)) (dC (.int 0)))) (dRet (dCallB 0 s_row (dCons (dVar 1) dNil))) dNext) (dSeq (dAsg 2 (dOp oAdd (dC (.int 2)) (dCallB 0 s_take (dCons (dOp oSub (dVar 1) (dC (.int 1))) dNil)))) (dRet (dJoin0 (dLc (dRng1 (dCons (dVar 2) dNil)) (dgName 3) dYes (dOp oIx (dC (.str [97, 98, 99, 100, 101, 102, 103, 104, 105, 106, 107, 108, 109, 110, 111, 112, 113, 114, 115, 116, 117, 118, 119, 120, 121, 122])) (dCallB 0 s_take (dCons (dC (.int 26)) dNil))) [3])))))


/-! slices -/
theorem cut_to {α : Type} (w : List α) (p : Nat) : cut w none (some (p : Int)) = w.take p := by
  unfold cut
  rw [HT.sIx_none, HT.sIx_nat, List.drop_zero, Nat.sub_zero, ← List.take_eq_take_min]
theorem cut_from {α : Type} (w : List α) (p : Nat) : cut w (some (p : Int)) none = w.drop p := by
  unfold cut
  rw [HT.sIx_none, HT.sIx_nat]
  by_cases h : p ≤ w.length
  · rw [Nat.min_eq_left h, List.take_of_length_le (by rw [List.length_drop]; exact Nat.le_refl _)]
  · rw [Nat.min_eq_right (by omega), List.drop_of_length_le (Nat.le_refl _), List.drop_of_length_le (show w.length ≤ p by omega)]; simp
theorem cut_fromto {α : Type} (w : List α) (p q : Nat) : cut w (some (p : Int)) (some (q : Int)) = (w.take q).drop p := by
  unfold cut
  rw [HT.sIx_nat, HT.sIx_nat]
  rw [List.drop_take]
  by_cases h : p ≤ w.length
  · rw [Nat.min_eq_left h]
    by_cases g : q ≤ w.length
    · rw [Nat.min_eq_left g]
    · rw [Nat.min_eq_right (by omega), List.take_of_length_le (by rw [List.length_drop]; omega), List.take_of_length_le (by rw [List.length_drop]; omega)]
  · rw [Nat.min_eq_right (show w.length ≤ p by omega), List.drop_of_length_le (Nat.le_refl _), List.drop_of_length_le (show w.length ≤ p by omega)]; simp
theorem cut_last {α : Type} (w : List α) : cut w none (some (-1)) = w.take (w.length - 1) := by
  unfold cut
  rw [HT.sIx_none, List.drop_zero]
  have : HT.sIx w.length w.length (some (-1)) = w.length - 1 := by
    unfold HT.sIx
    simp only [show (-1 : Int) < 0 by decide, if_true]
    omega
  rw [this, Nat.sub_zero]
theorem letters.take {w : List Nat} (h : letters w) (n : Nat) : letters (w.take n) := fun c hc => h c (List.mem_of_mem_take hc)
theorem letters.drop {w : List Nat} (h : letters w) (n : Nat) : letters (w.drop n) := fun c hc => h c (List.mem_of_mem_drop hc)
theorem letters.app {w v : List Nat} (h : letters w) (g : letters v) : letters (w ++ v) := fun c hc => (List.mem_append.mp hc).elim (h c) (g c)
theorem letters.rev {w : List Nat} (h : letters w) : letters w.reverse := fun c hc => h c (List.mem_reverse.mp hc)
theorem letters.one {c : Nat} (h : 97 ≤ c ∧ c ≤ 122) : letters [c] := fun x hx => by
  have : x = c := by simpa using hx
  rw [this]; exact h
theorem letters.flat {w : List Nat} (h : letters w) (n : Nat) : letters (List.replicate n w).flatten := fun c hc => by
  obtain ⟨l, hl, hc⟩ := List.mem_flatten.mp hc
  rw [List.eq_of_mem_replicate hl] at hc
  exact h c hc
theorem letters.fine {w : List Nat} (h : letters w) (l : w.length ≤ 1000000) : fine (.str w) := fine_str (fun c hc => by have := h c hc; omega) l
theorem flat_len {w : List Nat} (n : Nat) : (List.replicate n w).flatten.length = n * w.length := by
  induction n with
  | zero => simp
  | succ n ih => rw [List.replicate_succ, List.flatten_cons, List.length_append, ih, Nat.succ_mul]; omega
def abc : List Nat := [97, 98, 99, 100, 101, 102, 103, 104, 105, 106, 107, 108, 109, 110, 111, 112, 113, 114, 115, 116, 117, 118, 119, 120, 121, 122]
theorem abc_letters : letters abc := by unfold letters abc; decide
/-- signs, one by one, are a text -/
theorem signs_join {acc : List D} (h : ∀ y ∈ acc, ∃ c : Nat, y = .str [c] ∧ 97 ≤ c ∧ c ≤ 122) : ∃ w : List Nat, strsD acc = some (w.map fun c => [c]) ∧ w.length = acc.length ∧ letters w := by
  induction acc with
  | nil => exact ⟨[], rfl, rfl, fun _ h => nomatch h⟩
  | cons y r ih =>
    obtain ⟨w, h1, h2, h3⟩ := ih fun z hz => h z (List.mem_cons_of_mem _ hz)
    obtain ⟨c, rfl, hc⟩ := h y List.mem_cons_self
    refine ⟨c :: w, ?_, by rw [List.length_cons, List.length_cons, h2], fun x hx => ?_⟩
    · show (strsD r).map ([c] :: ·) = _
      rw [h1]; rfl
    · rcases List.mem_cons.mp hx with rfl | hx
      · exact hc
      · exact h3 x hx
theorem flat_ones (w : List Nat) : (w.map fun c => [c]).flatten = w := by
  induction w with
  | nil => rfl
  | cons c r ih => rw [List.map_cons, List.flatten_cons, ih]; rfl
/-- an item of a text -/
theorem ixS {w : List Nat} {v : Int} {R : D → Prop} (hl : w.length ≤ 1000000) (h0 : 0 ≤ v) (h1 : v < w.length) (k : ∀ c, w[v.toNat]? = some c → R (.str [c])) : oIx (.str w) (.int v) R := by
  have l : v.toNat < w.length := by omega
  have g : atI w ((v.toNat : Nat) : Int) = some w[v.toNat] := atI_nat (List.getElem?_eq_getElem l)
  rw [show ((v.toNat : Nat) : Int) = v by omega] at g
  exact ⟨Nat.le_trans hl (by decide), _, g, k _ (List.getElem?_eq_getElem l)⟩
theorem ixS_letter {w : List Nat} {v : Int} {R : D → Prop} (hw : letters w) (hl : w.length ≤ 1000000) (h0 : 0 ≤ v) (h1 : v < w.length) (k : ∀ c : Nat, 97 ≤ c → c ≤ 122 → R (.str [c])) : oIx (.str w) (.int v) R :=
  ixS hl h0 h1 fun c e => k c (hw c (List.mem_of_getElem? e)).1 (hw c (List.mem_of_getElem? e)).2
theorem ok_word : OkB 1 10 s_word b_word := by
  rintro ds xe R ⟨m, rfl, m0, m1, q⟩
  refine ⟨rfl, ?_⟩
  refine ⟨rfl, 24, rfl, by decide, by decide, fun st a0 a1 => ⟨rfl, 3, rfl, by decide, by decide, fun fw b0 b1 => ⟨small_line (n := 2) (by decide), ?_⟩⟩⟩
  refine ⟨small_line (n := 26) (by decide), ?_⟩
  obtain ⟨L, hL, lL, gL⟩ : ∃ L : List Nat, cut abc (some st) (some (st + (1 + fw))) = L ∧ (L.length : Int) = 1 + fw ∧ letters L := by
    refine ⟨_, rfl, ?_, ?_⟩
    · have e1 : st = ((st.toNat : Nat) : Int) := by omega
      have e2 : st + (1 + fw) = (((st + (1 + fw)).toNat : Nat) : Int) := by omega
      rw [e2, e1, cut_fromto, List.length_drop, List.length_take]
      have : abc.length = 26 := rfl
      rw [this]; omega
    · have e1 : st = ((st.toNat : Nat) : Int) := by omega
      have e2 : st + (1 + fw) = (((st + (1 + fw)).toNat : Nat) : Int) := by omega
      rw [e2, e1, cut_fromto]
      exact (abc_letters.take _).drop _
  show (dSeq _ _) _ [_, _, _, _, .dd (.str (cut abc (some st) (some (st + (1 + fw))))), _, _, _, _, _]
  rw [hL]
  refine ⟨rfl, 4, rfl, by decide, by decide, fun way c0 c1 => ⟨rfl, m, rfl, by omega, by omega, fun sz d0 d1 => ?_⟩⟩
  refine ⟨rfl, 4, rfl, by decide, by decide, fun mm e0 e1 => ⟨small_line (n := 2) (by decide), ?_⟩⟩
  refine ix_P (fun d => ∃ k : Int, d = .int k ∧ 1 ≤ k ∧ k ≤ 100004) (by split <;> omega) (by show (if _ then (1 : Int) else 0) < 2; split <;> omega) ?_ ?_
  · simp only [List.forall_mem_cons]
    exact ⟨⟨_, rfl, by omega, by omega⟩, ⟨_, rfl, by omega, by omega⟩, fun _ h => nomatch h⟩
  rintro _ ⟨k, rfl, k0, k1⟩
  refine ⟨by omega, by omega, ?_⟩
  refine lc_all (fun y => ∃ c : Nat, y = .str [c] ∧ 97 ≤ c ∧ c ≤ 122) (by rw [span_length]; omega) (fun i d Q e h => ?_) fun acc la pa => ?_
  · refine ⟨rfl, _, rfl, by omega, by omega, fun v f0 f1 => ?_⟩
    exact ixS_letter gL (by omega) f0 (by omega) fun c g0 g1 => h _ ⟨c, rfl, g0, g1⟩
  obtain ⟨w, h1, h2, h3⟩ := signs_join pa
  rw [span_length] at la
  refine ⟨_, h1, by rw [flat_ones]; omega, ?_⟩
  rw [flat_ones]
  have wl : (w.length : Int) = k := by omega
  have dv : k * ((1 + sz) / k) ≤ 1 + sz := Int.mul_ediv_self_le (by omega)
  have dv2 : 1 + sz < k * ((1 + sz) / k) + k := by
    have := Int.lt_mul_ediv_self_add (x := 1 + sz) (k := k) (by omega)
    exact this
  have n0 : 0 ≤ (1 + sz) / k := Int.ediv_nonneg (by omega) (by omega)
  have nk : (1 + sz) / k ≤ 1 + sz := Int.ediv_le_self _ (by omega)
  have ml : k * ((1 + sz) / k + 1) = k * ((1 + sz) / k) + k := by rw [Int.mul_add, Int.mul_one]
  have tot : ((List.replicate ((1 + sz) / k + 1).toNat w).flatten.length : Int) = k * ((1 + sz) / k) + k := by
    rw [flat_len, Int.natCast_mul, wl, Int.toNat_of_nonneg (by omega), Int.mul_comm, ml]
  have totN : w.length * ((1 + sz) / k + 1).toNat = (List.replicate ((1 + sz) / k + 1).toNat w).flatten.length := by rw [flat_len, Nat.mul_comm]
  refine ⟨cdiv_wide (by omega) (by omega), by omega, by omega, by omega, Nat.le_trans (show _ ≤ 1000000 by omega) (by decide), ?_⟩
  obtain ⟨v, hv, lv, gv⟩ : ∃ v : List Nat, cut (List.replicate ((1 + sz) / k + 1).toNat w).flatten none (some (1 + sz)) = v ∧ (v.length : Int) = 1 + sz ∧ letters v := by
    refine ⟨_, rfl, ?_, ?_⟩
    · have e2 : 1 + sz = (((1 + sz).toNat : Nat) : Int) := by omega
      rw [show some (1 + sz) = some (((1 + sz).toNat : Nat) : Int) from congrArg some e2, cut_to, List.length_take]
      omega
    · have e2 : 1 + sz = (((1 + sz).toNat : Nat) : Int) := by omega
      rw [show some (1 + sz) = some (((1 + sz).toNat : Nat) : Int) from congrArg some e2, cut_to]
      exact (h3.flat _).take _
  rw [hv]
  refine ⟨Nat.le_trans (show v.length ≤ 1000000 by omega) (by decide), small_line (n := 4) (by decide), ?_⟩
  refine ix_all c0 c1 ?_
  simp only [List.forall_mem_cons]
  exact ⟨q v gv (by omega) (by omega), q v gv (by omega) (by omega), q v gv (by omega) (by omega), q _ gv.rev (by rw [List.length_reverse]; omega) (by rw [List.length_reverse]; omega), fun _ h => nomatch h⟩
theorem mk_len {w : List Nat} {p : Nat} (h : p < w.length) : (mk w p).length = 2 * w.length - 1 := by
  unfold mk
  rw [List.getElem?_eq_getElem h]
  simp only [List.length_append, List.length_take, List.length_drop, Option.toList_some, List.length_cons, List.length_nil]
  omega
theorem mk_letters {w : List Nat} {p : Nat} (g : letters w) : letters (mk w p) := by
  unfold mk
  refine ((((g.take p).app (g.take p)).app ?_).app (g.drop _)).app (g.drop _)
  intro c hc
  cases e : w[p]? with
  | none => rw [e] at hc; cases hc
  | some y =>
    rw [e] at hc
    have : c = y := by simpa using hc
    rw [this]
    exact g y (List.mem_of_getElem? e)
/-- its parts, glued as the text glues them -/
theorem glue {w : List Nat} {p : Nat} {R : D → Prop} (h : p < w.length) (hl : w.length ≤ 100000) (q : R (.str (mk w p))) :
    oCatS (.str (w.take p)) (.str (w.take p)) fun d => oIx (.str w) (.int (p : Int)) fun e => oCatS d e fun d => oCatS d (.str (w.drop (p + 1))) fun d => oCatS d (.str (w.drop (p + 1))) R := by
  have e : sizeLine = 16777216 := sizeLine_eq
  have lt : (w.take p).length = p := by rw [List.length_take]; omega
  have ld : (w.drop (p + 1)).length = w.length - (p + 1) := List.length_drop
  refine ⟨by omega, by omega, w[p], atI_nat (List.getElem?_eq_getElem h), ?_⟩
  refine ⟨by simp only [List.length_append, List.length_cons, List.length_nil]; omega, by simp only [List.length_append, List.length_cons, List.length_nil]; omega, by simp only [List.length_append, List.length_cons, List.length_nil]; omega, ?_⟩
  unfold mk at q
  rw [List.getElem?_eq_getElem h] at q
  exact q
theorem line_of {n : Nat} (h : n ≤ 1000000) : n ≤ sizeLine := Nat.le_trans h (by decide)
theorem ok_called : OkN 2 4 s_called b_called := by
  rintro ds xe R ⟨w, p, rfl, h, hl, q⟩
  refine ⟨rfl, ?_⟩
  refine ⟨line_of (by omega), line_of (by omega), ?_⟩
  rw [cut_to, show (p : Int) + 1 = ((p + 1 : Nat) : Int) by omega, cut_from]
  exact glue h hl q
theorem ok_made : OkN 2 4 s_made b_made := by
  rintro ds xe R ⟨w, p, rfl, h, hl, q⟩
  refine ⟨rfl, ?_⟩
  refine ⟨line_of (by omega), line_of (by omega), ?_⟩
  rw [cut_to, show (p : Int) + 1 = ((p + 1 : Nat) : Int) by omega, cut_from]
  exact glue h hl q
theorem ok_row : OkB 1 6 s_row b_row := by
  rintro ds xe R ⟨m, rfl, m0, m1, q⟩
  refine ⟨rfl, ?_⟩
  refine ⟨rfl, m, rfl, m0, m1, fun w0 g0 l0 l1 => ?_⟩
  refine ⟨line_of (by omega), ?_⟩
  -- behind the doubling
  have rest : ∀ w : List Nat, letters w → 2 ≤ w.length → ((w.length : Int) ≤ m ∨ w.length = 2) →
      (dSeq (dPar 3 4 (dCallB 0 s_take (dCons (dC (.int 3)) dNil)) (dCallB 0 s_take (dCons (dC (.int 2)) dNil))) (dSeq (dIfS (dTest (dOp oEqI (dVar 3) (dC (.int 1)))) (dRet (dOp oCatS (dSl oSlS (dVar 2) dNo (dPart (dNeg (dC (.int 1))))) (dOp oIx (dLc (dSigns (dC (.str [97, 98, 99]))) (dgName 5) (dTest (dOp oNeS (dVar 5) (dOp oIx (dVar 2) (dC (.int 0))))) (dVar 5) [5]) (dVar 4)))) dNext) (dRet (dOp oIx (dLst (dCons (dVar 2) (dCons (dVar 2) (dCons (dOp oCatS (dSl oSlS (dVar 2) dNo (dPart (dNeg (dC (.int 1))))) (dOp oIx (dVar 2) (dC (.int 0)))) dNil)))) (dVar 3)))))
        { nx := fun _ => R .non, rt := R, xe := xe } [.bg, .dd (.int m), .dd (.str w), .un, .un, .un] := by
    intro w g l l2
    have wl : w.length ≤ 100000 := by omega
    refine ⟨rfl, 3, rfl, by decide, by decide, fun way a0 a1 => ⟨rfl, 2, rfl, by decide, by decide, fun turn b0 b1 => ?_⟩⟩
    have c0 : w[0]? = some (w[0]'(by omega)) := List.getElem?_eq_getElem (by omega)
    have el : (w.take (w.length - 1)).length = w.length - 1 := by rw [List.length_take]; omega
    have new : ∀ c : Nat, 97 ≤ c → c ≤ 122 → R (.str (w.take (w.length - 1) ++ [c])) := fun c h0 h1 =>
      q _ ((g.take _).app (letters.one ⟨h0, h1⟩)) (by rw [List.length_append, el]; simp; omega) (by rw [List.length_append, el]; simp; omega)
    refine ifB2 (fun h => ?_) (fun h => ?_)
    · refine ⟨line_of (by omega), ?_⟩
      rw [show -(1 : Int) = -1 by rfl, cut_last]
      refine lc_filter (items := ([97, 98, 99] : List Nat).map fun c => D.str [c]) (fun d => match d with | .str s => !decide (s = [w[0]'(by omega)]) | _ => false) id (by decide) (fun i d Q Z e h1 h2 => ?_) ?_
      · have hd : ∃ c, d = .str [c] := by
          have := List.mem_of_getElem? e
          obtain ⟨c, _, rfl⟩ := List.mem_map.mp this
          exact ⟨c, rfl⟩
        obtain ⟨c, rfl⟩ := hd
        refine ⟨line_of (by omega), _, atI_nat (j := 0) c0, ?_⟩
        show ifB (!decide ([c] = [w[0]'(by omega)])) (Q (.str [c])) Z
        by_cases hc : [c] = [w[0]'(by omega)]
        · exact ifBf (by rw [decide_eq_true hc]; rfl) (h2 (by show (!decide _) = false; rw [decide_eq_true hc]; rfl))
        · exact ifBt (by rw [decide_eq_false hc]; rfl) (h1 (by show (!decide _) = true; rw [decide_eq_false hc]; rfl))
      · -- at least two are left
        rw [List.map_id]
        have all : ∀ d ∈ ((([97, 98, 99] : List Nat).map fun c => D.str [c]).filter fun d => match d with | .str s => !decide (s = [w[0]'(by omega)]) | _ => false), ∃ c : Nat, d = .str [c] ∧ 97 ≤ c ∧ c ≤ 122 := fun d hd => by
          have := (List.mem_filter.mp hd).1
          simp only [List.map_cons, List.map_nil, List.mem_cons, List.not_mem_nil, or_false] at this
          rcases this with rfl | rfl | rfl
          · exact ⟨97, rfl, by decide, by decide⟩
          · exact ⟨98, rfl, by decide, by decide⟩
          · exact ⟨99, rfl, by decide, by decide⟩
        have len : 2 ≤ ((([97, 98, 99] : List Nat).map fun c => D.str [c]).filter fun d => match d with | .str s => !decide (s = [w[0]'(by omega)]) | _ => false).length := by
          generalize w[0]'(by omega) = z
          by_cases z1 : z = 97
          · subst z1; decide
          · by_cases z2 : z = 98
            · subst z2; decide
            · by_cases z3 : z = 99
              · subst z3; decide
              · have e1 : ¬ (97 : Nat) = z := fun h => z1 h.symm
                have e2 : ¬ (98 : Nat) = z := fun h => z2 h.symm
                have e3 : ¬ (99 : Nat) = z := fun h => z3 h.symm
                simp [e1, e2, e3]
        refine ix_all b0 (by omega) fun d hd => ?_
        obtain ⟨c, rfl, h0, h1⟩ := all d hd
        exact ⟨by show _ + 1 ≤ sizeLine; exact line_of (by omega), new c h0 h1⟩
    · refine ⟨line_of (by omega), ?_⟩
      rw [show -(1 : Int) = -1 by rfl, cut_last]
      refine ⟨line_of (by omega), _, atI_nat (j := 0) c0, line_of (by show _ + 1 ≤ _; omega), small_line (n := 3) (by decide), ?_⟩
      refine ix_all a0 a1 ?_
      simp only [List.forall_mem_cons]
      have gc := g _ (List.mem_of_getElem? c0)
      exact ⟨q w g l l2, q w g l l2, new _ gc.1 gc.2, fun _ h => nomatch h⟩
  refine ifB2 (fun h => ?_) (fun h => ?_)
  · refine ⟨line_of (by omega), ?_⟩
    exact rest (w0 ++ w0) (g0.app g0) (by rw [List.length_append]; omega) (.inr (by rw [List.length_append]; omega))
  · exact rest w0 g0 (by omega) (.inl l1)
theorem ok_any_row : OkB 1 4 s_any_row b_any_row := by
  rintro ds xe R ⟨m, rfl, m0, m1, q⟩
  refine ⟨rfl, ?_⟩
  refine ⟨rfl, 3, rfl, by decide, by decide, fun v a0 a1 => ?_⟩
  refine ifB2 (fun h => ?_) (fun h => ?_)
  · exact ⟨rfl, m, rfl, by omega, m1, fun w g l l2 => q w g l (by omega)⟩
  · refine ⟨rfl, _, rfl, by omega, by omega, fun sz b0 b1 => ?_⟩
    refine ⟨by omega, by omega, ?_⟩
    refine lc_all (fun y => ∃ c : Nat, y = .str [c] ∧ 97 ≤ c ∧ c ≤ 122) (by rw [span_length]; omega) (fun i d Q e h => ?_) fun acc la pa => ?_
    · refine ⟨rfl, 26, rfl, by decide, by decide, fun v f0 f1 => ?_⟩
      exact ixS_letter abc_letters (by decide) f0 f1 fun c g0 g1 => h _ ⟨c, rfl, g0, g1⟩
    obtain ⟨w, h1, h2, h3⟩ := signs_join pa
    rw [span_length] at la
    refine ⟨_, h1, by rw [flat_ones]; omega, ?_⟩
    rw [flat_ones]
    exact q w h3 (by omega) (by omega)
end DL

namespace DL
open PySem PySem.Spec L2
open PyProof.Rows hiding St

/-! ### stories: places called one after another -/
def okS : Nat → List Nat → Prop
  | _, [] => True
  | l, p :: r => p ≤ l ∧ okS (2 * l) r
def pls (ps : List Nat) : List D := ps.map fun (p : Nat) => D.int (p : Int)
def mks (w : List Nat) (ps : List Nat) : List Nat := ps.foldl mk w
theorem pls_length {ps : List Nat} : (pls ps).length = ps.length := by unfold pls; simp
theorem pls_get {ps : List Nat} {i : Nat} {d : D} (h : (pls ps)[i]? = some d) : ∃ p, ps[i]? = some p ∧ d = .int (p : Int) := by
  unfold pls at h
  rw [List.getElem?_map] at h
  cases e : ps[i]? with
  | none => rw [e] at h; cases h
  | some p => rw [e] at h; exact ⟨p, rfl, (Option.some.inj h).symm⟩
theorem okS.get : ∀ {ps : List Nat} {l i p : Nat}, okS l ps → ps[i]? = some p → p ≤ l * 2 ^ i
  | [], _, _, _, _, e => by simp at e
  | q :: r, l, 0, p, h, e => by
    have : q = p := by simpa using e
    subst this
    simpa using h.1
  | q :: r, l, i + 1, p, h, e => by
    have := okS.get (i := i) (p := p) h.2 (by simpa using e)
    rw [Nat.pow_succ]
    calc p ≤ 2 * l * 2 ^ i := this
      _ = l * (2 ^ i * 2) := by rw [Nat.mul_comm 2 l, Nat.mul_assoc, Nat.mul_comm 2]
theorem atI_last {α : Type} {xs : List α} {y : α} : atI (xs ++ [y]) (-1) = some y := by
  unfold atI
  rw [show ixN (xs ++ [y]).length (-1) = some xs.length by unfold ixN; simp; omega]
  simp
theorem okS.bound {ps : List Nat} {l p : Nat} (h : okS l ps) (hp : p ∈ ps) : p ≤ l * 2 ^ ps.length := by
  obtain ⟨i, e⟩ := List.mem_iff_getElem?.mp hp
  have il := (List.getElem?_eq_some_iff.mp e).1
  exact Nat.le_trans (h.get e) (Nat.mul_le_mul_left _ (Nat.pow_le_pow_right (by decide) (by omega)))
theorem pls_fine {ps : List Nat} (h : ∀ p ∈ ps, p < 10 ^ 150) (hl : ps.length ≤ 10000) : fine (.lst (pls ps)) := by
  have e : pls ps = (ps.map fun (p : Nat) => (p : Int)).map D.int := by unfold pls; rw [List.map_map]; rfl
  rw [e]
  refine fine_ints (fun i hi => ?_) (by rw [List.length_map]; omega)
  obtain ⟨p, hp, rfl⟩ := List.mem_map.mp hi
  have := h p hp
  omega
theorem okS.take : ∀ {ps : List Nat} {l : Nat} (n : Nat), okS l ps → okS l (ps.take n)
  | _, _, 0, _ => trivial
  | [], _, _ + 1, _ => trivial
  | _ :: _, _, n + 1, h => ⟨h.1, okS.take n h.2⟩
theorem okS.snoc : ∀ {ps : List Nat} {l p : Nat}, okS l ps → p ≤ l * 2 ^ ps.length → okS l (ps ++ [p])
  | [], l, p, _, e => ⟨by simpa using e, trivial⟩
  | q :: r, l, p, h, e => ⟨h.1, okS.snoc h.2 (by
    rw [List.length_cons, Nat.pow_succ] at e
    calc p ≤ l * (2 ^ r.length * 2) := e
      _ = 2 * l * 2 ^ r.length := by rw [Nat.mul_comm 2 l, Nat.mul_assoc, Nat.mul_comm 2])⟩
theorem mks_snoc {w ps : List Nat} {p : Nat} : mks w (ps ++ [p]) = mk (mks w ps) p := by unfold mks; rw [List.foldl_append]; rfl
theorem mks_len : ∀ {ps w : List Nat}, 1 ≤ w.length → okS (w.length - 1) ps → (mks w ps).length = (w.length - 1) * 2 ^ ps.length + 1
  | [], w, h, _ => by show w.length = _; simp; omega
  | p :: r, w, h, k => by
    have hp : p < w.length := by have := k.1; omega
    have e := mk_len hp
    have l1 : (mk w p).length - 1 = 2 * (w.length - 1) := by omega
    have := mks_len (ps := r) (w := mk w p) (by omega) (by rw [l1]; exact k.2)
    show (mks (mk w p) r).length = _
    rw [this, l1, List.length_cons, Nat.pow_succ, Nat.mul_comm 2 (w.length - 1), Nat.mul_assoc, Nat.mul_comm 2]
theorem mks_letters : ∀ {ps w : List Nat}, letters w → letters (mks w ps)
  | [], _, h => h
  | _ :: r, _, h => mks_letters (ps := r) (mk_letters h)
theorem take_snoc {ps : List Nat} {i p : Nat} (h : ps[i]? = some p) : ps.take (i + 1) = ps.take i ++ [p] := by
  rw [List.take_add_one, h]; rfl

def s_call : DSp := fun ds _ R => ∃ (w : List Nat) (p : Nat), ds = [.str w, .int (p : Int)] ∧ p < w.length ∧ w.length ≤ 500 ∧ R (.str (mk w p))
def s_follow : DSp := fun ds _ R => ∃ w ps : List Nat, ds = [.str w, .lst (pls ps)] ∧ 1 ≤ w.length ∧ okS (w.length - 1) ps ∧ (w.length - 1) * 2 ^ ps.length + 1 ≤ 1000 ∧ R (.str (mks w ps))
def s_story : DSp := fun ds _ R => ∃ (l m : Nat), ds = [.int (l : Int), .int (m : Int)] ∧ l ≤ 10 ^ 50 ∧ m ≤ 64 ∧ ∀ ps : List Nat, ps.length = m → okS l ps → R (.lst (pls ps))
/-- call(row 0, place 1, last 2) -/
def b_call : DS :=
  (dSeq (dAsg 2 (dOp oSub (dCB cLen (dCons (dVar 0) dNil)) (dC (.int 1)))) (dSeq (dIfS (dNot (dTest (dChain oLe oLe (dC (.int 0)) (dVar 1) (dVar 2)))) dNever dNext) (dSeq (dIfS (dTest (dOp oGt (dOp oAdd (dOp oMul (dC (.int 2)) (dVar 2)) (dC (.int 1))) (dC (.int 1000)))) dNever dNext) (dRet (dCall s_made (dCons (dVar 0) (dCons (dVar 1) dNil)))))))

/-- follow(row 0, calls 1, last 2, at 3, place 4, result 5) -/
def b_follow : DS :=
  (dSeq (dAsg 2 (dOp oSub (dCB cLen (dCons (dVar 0) dNil)) (dC (.int 1)))) (dSeq (dFor (dEnum (dCons (dVar 1) dNil)) (dgPair 3 4) (dSeq (dIfS (dNot (dTest (dChain oLe oLe (dC (.int 0)) (dVar 4) (dVar 2)))) dNever dNext) (dAsg 2 (dOp oMul (dC (.int 2)) (dVar 2))))) (dSeq (dIfS (dTest (dOp oGt (dOp oAdd (dVar 2) (dC (.int 1))) (dC (.int 1000)))) dNever dNext) (dSeq (dAsg 5 (dVar 0)) (dSeq (dFor (dItems (dVar 1)) (dgName 4) (dAsg 5 (dCall s_made (dCons (dVar 5) (dCons (dVar 4) dNil))))) (dRet (dVar 5)))))))

/-- _law_story(_law_bag_here 0, _law_last 1, _law_calls 2, _law_found 3, _law_k 4, _law_again 5, _law_some 6) -/
def b_story : DS :=
  (dSeq (dNewO 3) (dSeq (dFor (dRng1 (dCons (dVar 2) dNil)) (dgName 4) (dSeq (dAsg 5 (dIf (dThawT 3 (dTest (dOp oNe (dVar 3) (dLst dNil)))) (dOp oMul (dC (.int 2)) (dThaw 3 (dOp oIx (dVar 3) (dNeg (dC (.int 1)))))) (dC (.int 0)))) (dSeq (dAsg 6 (dLst (dCons (dC (.int 0)) (dCons (dVar 1) (dCons (dOp oDiv (dVar 1) (dC (.int 2))) (dCons (dVar 5) (dCons (dCallB 0 s_take (dCons (dOp oAdd (dVar 1) (dC (.int 1))) dNil)) (dCons (dCallB 0 s_take (dCons (dOp oAdd (dVar 1) (dC (.int 1))) dNil)) dNil)))))))) (dSeq (dApp 3 (dOp oIx (dVar 6) (dCallB 0 s_take (dCons (dC (.int 6)) dNil)))) (dAsg 1 (dOp oMul (dC (.int 2)) (dVar 1))))))) (dFrz 3 (dRet (dVar 3)))))


theorem ok_call : OkN 2 3 s_call b_call := by
  rintro ds xe R ⟨w, p, rfl, h, hl, q⟩
  refine ⟨rfl, ?_⟩
  refine ⟨line_of (by omega), ?_⟩
  refine ifBf (k := !decide ((p : Int) ≤ (w.length : Int) - 1)) (by rw [decide_eq_true (by omega)]; rfl) ?_
  refine ⟨cmul_small (by decide) (by decide), ?_⟩
  refine ifB2 (fun h1 => ?_) fun h1 => ?_
  · omega
  · exact ⟨w, p, rfl, h, by omega, q⟩
theorem ok_follow : OkN 2 6 s_follow b_follow := by
  rintro ds xe R ⟨w, ps, rfl, h1, hs, hl, q⟩
  refine ⟨rfl, ?_⟩
  have pw : 1 ≤ 2 ^ ps.length := Nat.one_le_two_pow
  have lw : w.length - 1 ≤ (w.length - 1) * 2 ^ ps.length := Nat.le_mul_of_pos_right _ pw
  refine ⟨line_of (by omega), ?_⟩
  have L0 : (w.length : Int) - 1 = (((w.length - 1 : Nat)) : Int) := by omega
  refine ⟨fun i ρ => ∃ a b, ρ = [.dd (.str w), .dd (.lst (pls ps)), .dd (.int (((w.length - 1) * 2 ^ i : Nat) : Int)), a, b, .un], ⟨.un, .un, ?_⟩, fun i d ρ e wv => ?_, fun ρ wv => ?_⟩
  · show [_, _, Sl.dd (.int ((w.length : Int) - 1)), _, _, _] = _
    rw [L0, Nat.pow_zero, Nat.mul_one]
  · obtain ⟨a, b, rfl⟩ := wv
    obtain ⟨x, e1, rfl⟩ := pairs_get e
    obtain ⟨p, e2, rfl⟩ := pls_get e1
    have pb := hs.get e2
    refine ifBf (k := !decide ((p : Int) ≤ (((w.length - 1) * 2 ^ i : Nat) : Int))) (by rw [decide_eq_true (by omega)]; rfl) ?_
    refine ⟨cmul_small (by decide) (by decide), ?_⟩
    refine ⟨.dd (.int (i : Int)), .dd (.int (p : Int)), ?_⟩
    show [_, _, Sl.dd (.int (2 * (((w.length - 1) * 2 ^ i : Nat) : Int))), _, _, _] = _
    have : (2 : Int) * (((w.length - 1) * 2 ^ i : Nat) : Int) = (((w.length - 1) * 2 ^ (i + 1) : Nat) : Int) := by
      rw [Nat.pow_succ, ← Nat.mul_assoc]; omega
    rw [this]
  · obtain ⟨a, b, rfl⟩ := wv
    rw [pairs_length, pls_length]
    refine ifB2 (fun g => ?_) (fun g => ?_)
    · omega
    refine ⟨fun i ρ => ∃ b, ρ = [.dd (.str w), .dd (.lst (pls ps)), .dd (.int (((w.length - 1) * 2 ^ ps.length : Nat) : Int)), a, b, .dd (.str (mks w (ps.take i)))], ⟨_, rfl⟩, fun i d ρ e wv => ?_, fun ρ wv => ?_⟩
    · obtain ⟨b, rfl⟩ := wv
      obtain ⟨p, e2, rfl⟩ := pls_get e
      have il : i < ps.length := (List.getElem?_eq_some_iff.mp e2).1
      have pb := hs.get e2
      have ln := mks_len h1 (hs.take i)
      rw [List.length_take, Nat.min_eq_left (by omega)] at ln
      have pm : (w.length - 1) * 2 ^ i ≤ (w.length - 1) * 2 ^ ps.length := Nat.mul_le_mul_left _ (Nat.pow_le_pow_right (by decide) (by omega))
      refine ⟨_, p, rfl, by omega, by omega, ?_⟩
      refine ⟨.dd (.int (p : Int)), ?_⟩
      rw [take_snoc e2, mks_snoc]; rfl
    · obtain ⟨b, rfl⟩ := wv
      rw [pls_length, List.take_length]
      exact q
theorem ok_story : OkB 2 7 s_story b_story := by
  rintro ds xe R ⟨l, m, rfl, hl, hm, q⟩
  refine ⟨rfl, ?_⟩
  refine ⟨by omega, by omega, ?_⟩
  refine ⟨fun i ρ => ∃ (ps : List Nat) (a b c : Sl), ps.length = i ∧ okS l ps ∧ ρ = [.bg, .dd (.int ((l * 2 ^ i : Nat) : Int)), .dd (.int (m : Int)), .own (pls ps), a, b, c], ⟨[], .un, .un, .un, rfl, trivial, ?_⟩, fun i d ρ e wv => ?_, fun ρ wv => ?_⟩
  · show _ = [Sl.bg, Sl.dd (D.int ((l * 2 ^ 0 : Nat) : Int)), _, _, _, _, _]
    rw [Nat.pow_zero, Nat.mul_one]; rfl
  · obtain ⟨ps, a, b, c, pl, hs, rfl⟩ := wv
    have sl : pls ps = [] ∨ ∃ qs p, ps = qs ++ [p] := by
      rcases List.eq_nil_or_concat ps with h | ⟨qs, p, h⟩
      · exact .inl (by rw [h]; rfl)
      · exact .inr ⟨qs, p, by rw [h]; simp⟩
    have ib : i < m := by have := span_get e; omega
    have big : l * 2 ^ i ≤ 10 ^ 50 * 2 ^ 64 := Nat.mul_le_mul hl (Nat.pow_le_pow_right (by decide) (by omega))
    obtain ⟨j, rfl⟩ : ∃ j : Int, d = .int j := by have := (span_get e).2; exact ⟨_, this⟩
    have fn : fine (.lst (pls ps)) := by
      refine pls_fine (fun p hp => ?_) (by omega)
      have h1 := hs.bound hp
      rw [pl] at h1
      have h2 : (10 ^ 50 * 2 ^ 64 : Nat) < 10 ^ 150 := by decide
      exact Nat.lt_of_le_of_lt (Nat.le_trans h1 big) h2
    -- what follows, behind the number told again
    have rest : ∀ A : Nat, A ≤ l * 2 ^ i → ∀ C : DEnds, (∀ (ps' : List Nat) (a b c : Sl), ps'.length = i + 1 → okS l ps' → C.nx [.bg, .dd (.int ((l * 2 ^ (i + 1) : Nat) : Int)), .dd (.int (m : Int)), .own (pls ps'), a, b, c]) →
      (dSeq (dAsg 6 (dLst (dCons (dC (.int 0)) (dCons (dVar 1) (dCons (dOp oDiv (dVar 1) (dC (.int 2))) (dCons (dVar 5) (dCons (dCallB 0 s_take (dCons (dOp oAdd (dVar 1) (dC (.int 1))) dNil)) (dCons (dCallB 0 s_take (dCons (dOp oAdd (dVar 1) (dC (.int 1))) dNil)) dNil)))))))) (dSeq (dApp 3 (dOp oIx (dVar 6) (dCallB 0 s_take (dCons (dC (.int 6)) dNil)))) (dAsg 1 (dOp oMul (dC (.int 2)) (dVar 1))))) C
        [.bg, .dd (.int ((l * 2 ^ i : Nat) : Int)), .dd (.int (m : Int)), .own (pls ps), .dd (.int j), .dd (.int (A : Int)), c] := by
      intro A hA C hC
      have hb : ((l * 2 ^ i : Nat) : Int) + 1 < 10 ^ 120 := by
        have : (10 ^ 50 * 2 ^ 64 : Nat) + 1 < 10 ^ 120 := by decide
        omega
      refine ⟨cdiv_wide (by decide) (by decide), rfl, _, rfl, by omega, hb, fun v1 a0 a1 => ⟨rfl, _, rfl, by omega, hb, fun v2 b0 b1 => ⟨small_line (n := 6) (by decide), ?_⟩⟩⟩
      refine ⟨Nat.lt_of_le_of_lt (show (pls ps).length ≤ 64 by rw [pls_length]; omega) (by decide), rfl, 6, rfl, by decide, by decide, fun v3 c0 c1 => ?_⟩
      refine ix_P (fun d => ∃ p : Nat, d = .int (p : Int) ∧ p ≤ l * 2 ^ i) c0 c1 ?_ ?_
      · simp only [List.forall_mem_cons]
        exact ⟨⟨0, rfl, Nat.zero_le _⟩, ⟨_, rfl, Nat.le_refl _⟩, ⟨l * 2 ^ i / 2, rfl, Nat.div_le_self _ _⟩, ⟨A, rfl, hA⟩, ⟨v1.toNat, by congr 1; omega, by omega⟩, ⟨v2.toNat, by congr 1; omega, by omega⟩, fun _ h => nomatch h⟩
      rintro _ ⟨p, rfl, hp⟩
      refine ⟨cmul_small (by decide) (by decide), ?_⟩
      have := fun z : Sl => hC (ps ++ [p]) (.dd (.int j)) (.dd (.int (A : Int))) z (by rw [List.length_append, pl]; rfl) (hs.snoc (by rw [pl]; exact hp))
      have e2 : (2 : Int) * ((l * 2 ^ i : Nat) : Int) = ((l * 2 ^ (i + 1) : Nat) : Int) := by rw [Nat.pow_succ, ← Nat.mul_assoc]; omega
      have e3 : pls (ps ++ [p]) = pls ps ++ [.int (p : Int)] := by unfold pls; rw [List.map_append]; rfl
      rw [e3] at this
      show C.nx [_, Sl.dd (.int (2 * ((l * 2 ^ i : Nat) : Int))), _, _, _, _, _]
      rw [e2]
      exact this _
    have fin : ∀ (ps' : List Nat) (a b c : Sl), ps'.length = i + 1 → okS l ps' → ∃ (ps : List Nat) (a' b' c' : Sl), ps.length = i + 1 ∧ okS l ps ∧ [Sl.bg, .dd (.int ((l * 2 ^ (i + 1) : Nat) : Int)), .dd (.int (m : Int)), .own (pls ps'), a, b, c] = [Sl.bg, .dd (.int ((l * 2 ^ (i + 1) : Nat) : Int)), .dd (.int (m : Int)), .own (pls ps), a', b', c'] := fun ps' a b c h1 h2 => ⟨ps', a, b, c, h1, h2, rfl⟩
    refine ⟨small_line (n := 0) (by decide), fn.eq, (fine_lst (xs := []) (n := 0) (m := 0) (fun _ h => nomatch h) (by decide) (by decide)).eq, ?_⟩
    rcases sl with sl | ⟨qs, p, rfl⟩
    · rw [sl]
      refine ifBf rfl ?_
      rw [← sl]
      exact rest 0 (Nat.zero_le _) _ fin
    · refine ifBt ?_ ?_
      · cases qs <;> rfl
      · have pl' : qs.length + 1 = i := by rw [List.length_append] at pl; exact pl
        have hp : p ≤ l * 2 ^ (i - 1) := hs.get (i := i - 1) (by rw [List.getElem?_append_right (by omega), show i - 1 - qs.length = 0 by omega]; rfl)
        have e3 : pls (qs ++ [p]) = pls qs ++ [.int (p : Int)] := by unfold pls; rw [List.map_append]; rfl
        refine ⟨.int (p : Int), by rw [e3]; exact atI_last, rfl, cmul_small (by decide) (by decide), ?_⟩
        have hi : l * 2 ^ i = l * 2 ^ (i - 1) * 2 := by rw [Nat.mul_assoc, ← Nat.pow_succ]; congr 2; omega
        exact rest (2 * p) (by omega) _ fin
  · obtain ⟨ps, a, b, c, pl, hs, rfl⟩ := wv
    rw [span_length] at pl
    exact q ps (by omega) hs
end DL

namespace DL
open PySem PySem.Spec L2
open PyProof.Rows hiding St

/-! ### kinds -/
theorem ifN2' {c a b : Prop} [Decidable c] (h1 : ¬ c → a) (h2 : c → b) : ifB (!decide c) a b := by
  by_cases h : c
  · rw [decide_eq_true h]; exact h2 h
  · rw [decide_eq_false h]; exact h1 h
theorem kit_ii : kitB "int" "int" = some true := by decide +kernel
theorem kit_ib : kitB "int" "bool" = some false := by decide +kernel
theorem kit_ss : kitB "str" "str" = some true := by decide +kernel
theorem kit_ll : kitB "list" "list" = some true := by decide +kernel
/-- the value told otherwise -/
theorem conv {R : D → Prop} {d : D} (d' : D) (h : d = d') (q : R d') : R d := by rw [h]; exact q
def s_is_integer : DSp := fun ds _ R => ∃ i : Int, ds = [.int i] ∧ R (.bl true)
def s_has_only_letters : DSp := fun ds _ R => ∃ w : List Nat, ds = [.str w] ∧ letters w ∧ R (.bl true)
def s_is_text : DSp := fun ds _ R => ∃ (w : List Nat) (m : Int), ds = [.str w, .int m] ∧ letters w ∧ 1 ≤ w.length ∧ (w.length : Int) ≤ m ∧ m ≤ 1000 ∧ R (.bl true)
def s_is_row : DSp := fun ds _ R => ∃ w : List Nat, ds = [.str w] ∧ letters w ∧ 2 ≤ w.length ∧ w.length ≤ 1000 ∧ R (.bl true)
def s_is_story : DSp := fun ds _ R => ∃ (l : Nat) (st : List Nat), ds = [.int (l : Int), .lst (pls st)] ∧ okS l st ∧ st.length ≤ 64 ∧ R (.bl true)
/-- is_integer(thing 0) -/
def b_is_integer : DS :=
  (dRet (dAndV (dIsi "int" (dVar 0)) (dNotV (dIsi "bool" (dVar 0)))))

/-- has_only_letters(string 0, sign 1) -/
def b_has_only_letters : DS :=
  (dSeq (dFor (dSigns (dVar 0)) (dgName 1) (dIfS (dOr (dTest (dOp oLtS (dVar 1) (dC (.str [97])))) (dTest (dOp oGtS (dVar 1) (dC (.str [122]))))) (dRet (dC (.bl false))) dNext)) (dRet (dC (.bl true))))

/-- is_text(thing 0, most 1) -/
def b_is_text : DS :=
  (dRet (dAndV (dIsi "str" (dVar 0)) (dAndV (dChain oLe oLe (dC (.int 1)) (dCB cLen (dCons (dVar 0) dNil)) (dVar 1)) (dCall s_has_only_letters (dCons (dVar 0) dNil)))))

/-- is_row(thing 0) -/
def b_is_row : DS :=
  (dRet (dAndV (dCall s_is_text (dCons (dVar 0) (dCons (dC (.int 1000)) dNil))) (dOp oGe (dCB cLen (dCons (dVar 0) dNil)) (dC (.int 2)))))

/-- is_story(last 0, thing 1, last_then 2, place 3) -/
def b_is_story : DS :=
  (dSeq (dIfS (dOr (dNot (dTest (dIsi "list" (dVar 1)))) (dTest (dOp oGt (dCB cLen (dCons (dVar 1) dNil)) (dC (.int 64))))) (dRet (dC (.bl false))) dNext) (dSeq (dAsg 2 (dVar 0)) (dSeq (dFor (dItems (dVar 1)) (dgName 3) (dSeq (dIfS (dOr (dNot (dTest (dCall s_is_integer (dCons (dVar 3) dNil)))) (dNot (dTest (dChain oLe oLe (dC (.int 0)) (dVar 3) (dVar 2))))) (dRet (dC (.bl false))) dNext) (dAsg 2 (dOp oMul (dC (.int 2)) (dVar 2))))) (dRet (dC (.bl true))))))

theorem ok_is_integer : OkN 1 1 s_is_integer b_is_integer := by
  rintro ds xe R ⟨i, rfl, q⟩
  refine ⟨rfl, true, kit_ii, ?_⟩
  exact ⟨false, kit_ib, q⟩
theorem ok_has_only_letters : OkN 1 2 s_has_only_letters b_has_only_letters := by
  rintro ds xe R ⟨w, rfl, g, q⟩
  refine ⟨rfl, ?_⟩
  refine ⟨fun _ ρ => ∃ a, ρ = [.dd (.str w), a], ⟨_, rfl⟩, fun i d ρ e wv => ?_, fun ρ wv => ?_⟩
  · obtain ⟨a, rfl⟩ := wv
    rw [List.getElem?_map] at e
    cases z : w[i]? with
    | none => rw [z] at e; cases e
    | some c =>
      rw [z] at e
      cases e
      have gc := g c (List.mem_of_getElem? z)
      have h1 : ¬ ([c] < ([97] : List Nat)) := by
        intro h
        rcases List.cons_lt_cons_iff.mp h with h | ⟨_, h⟩
        · omega
        · exact absurd h (List.not_lt_nil _)
      have h2 : ¬ (([122] : List Nat) < [c]) := by
        intro h
        rcases List.cons_lt_cons_iff.mp h with h | ⟨_, h⟩
        · omega
        · exact absurd h (List.not_lt_nil _)
      refine ifB2 (c := [c] < ([97] : List Nat)) (fun h => absurd h h1) fun _ => ?_
      exact ifB2 (c := ([122] : List Nat) < [c]) (fun h => absurd h h2) fun _ => ⟨_, rfl⟩
  · obtain ⟨a, rfl⟩ := wv
    exact q
theorem ok_is_text : OkN 2 2 s_is_text b_is_text := by
  rintro ds xe R ⟨w, m, rfl, g, h1, h2, h3, q⟩
  refine ⟨rfl, true, kit_ss, ?_⟩
  refine ⟨line_of (by omega), ?_⟩
  refine ifBt (k := decide ((1 : Int) ≤ (w.length : Int))) (decide_eq_true (by omega)) ?_
  refine ifBt (k := decide ((w.length : Int) ≤ m)) (decide_eq_true (by omega)) ?_
  exact ⟨w, rfl, g, q⟩
theorem ok_is_row : OkN 1 1 s_is_row b_is_row := by
  rintro ds xe R ⟨w, rfl, g, h1, h2, q⟩
  refine ⟨rfl, w, 1000, rfl, g, by omega, by omega, by decide, ?_⟩
  refine ⟨line_of (by omega), ?_⟩
  have e1 : decide ((2 : Int) ≤ (w.length : Int)) = true := decide_eq_true (by omega)
  show R (.bl (decide ((2 : Int) ≤ (w.length : Int))))
  rw [e1]; exact q
theorem ok_is_story : OkN 2 4 s_is_story b_is_story := by
  rintro ds xe R ⟨l, st, rfl, hs, h1, q⟩
  refine ⟨rfl, true, kit_ll, ?_⟩
  refine ifB2 (c := (64 : Int) < ((pls st).length : Int)) (fun h => by rw [pls_length] at h; omega) fun _ => ?_
  refine ⟨fun i ρ => ∃ a, ρ = [.dd (.int (l : Int)), .dd (.lst (pls st)), .dd (.int ((l * 2 ^ i : Nat) : Int)), a], ⟨.un, ?_⟩, fun i d ρ e wv => ?_, fun ρ wv => ?_⟩
  · show _ = [_, _, Sl.dd (.int ((l * 2 ^ 0 : Nat) : Int)), _]
    rw [Nat.pow_zero, Nat.mul_one]; rfl
  · obtain ⟨a, rfl⟩ := wv
    obtain ⟨p, e2, rfl⟩ := pls_get e
    have pb := hs.get e2
    refine ⟨_, rfl, ?_⟩
    refine ifBf (k := !decide ((p : Int) ≤ ((l * 2 ^ i : Nat) : Int))) (by rw [decide_eq_true (by omega)]; rfl) ?_
    refine ⟨cmul_small (by decide) (by decide), ?_⟩
    refine ⟨.dd (.int (p : Int)), ?_⟩
    show [_, _, Sl.dd (.int (2 * ((l * 2 ^ i : Nat) : Int))), _] = _
    have : (2 : Int) * ((l * 2 ^ i : Nat) : Int) = ((l * 2 ^ (i + 1) : Nat) : Int) := by
      rw [Nat.pow_succ, ← Nat.mul_assoc]; omega
    rw [this]
  · obtain ⟨a, rfl⟩ := wv
    exact q

/-! ### the place that a place shows, down to the row -/
def shownN (l c p : Nat) : Nat := if p < c then p else if p ≤ c + l then p - c else p - l
theorem shownN_lt {l c j : Nat} (h : c ≤ l) (hj : j ≤ 2 * l) : shownN l c j ≤ l := by unfold shownN; split <;> (try split) <;> omega
def pth (l : Nat) (st : List Nat) (p : Nat) : Nat → Nat
  | 0 => p
  | i + 1 => shownN (l * 2 ^ (st.length - (i + 1))) (st.getD (st.length - 1 - i) 0) (pth l st p i)
/-- the places that show one another, down to the row -/
def orgs (l : Nat) (st : List Nat) (p : Nat) : List Nat := (List.range (st.length + 1)).map (pth l st p)
theorem pow_half {l n i : Nat} (h : i + 1 ≤ n) : l * 2 ^ (n - i) = 2 * (l * 2 ^ (n - (i + 1))) := by
  have : n - i = (n - (i + 1)) + 1 := by omega
  rw [this, Nat.pow_succ, Nat.mul_comm 2, Nat.mul_assoc]
theorem pth_le {l : Nat} {st : List Nat} {p : Nat} (hs : okS l st) (hp : p ≤ l * 2 ^ st.length) : ∀ i, i ≤ st.length → pth l st p i ≤ l * 2 ^ (st.length - i)
  | 0, _ => hp
  | i + 1, h => by
    have ih := pth_le hs hp i (by omega)
    rw [pow_half h] at ih
    have il : st.length - 1 - i < st.length := by omega
    have g : st.getD (st.length - 1 - i) 0 ≤ l * 2 ^ (st.length - (i + 1)) := by
      have := hs.get (i := st.length - 1 - i) (p := st[st.length - 1 - i]) (List.getElem?_eq_getElem il)
      rw [List.getD_eq_getElem?_getD, List.getElem?_eq_getElem il]
      rw [show st.length - (i + 1) = st.length - 1 - i by omega]
      exact this
    exact shownN_lt g ih
theorem orgs_len {l : Nat} {st : List Nat} {p : Nat} : (orgs l st p).length = st.length + 1 := by unfold orgs; simp
theorem orgs_last {l : Nat} {st : List Nat} {p : Nat} : (orgs l st p).getLast? = some (pth l st p st.length) := by
  unfold orgs
  rw [List.range_succ, List.map_append]; simp
theorem orgs_atI {l : Nat} {st : List Nat} {p : Nat} : atI (pls (orgs l st p)) (-1) = some (.int (pth l st p st.length : Nat)) := by
  unfold orgs pls
  rw [List.range_succ, List.map_append, List.map_append]
  exact atI_last
/-- the place of the row from which a place descends -/
def rootP (l : Nat) (st : List Nat) (p : Nat) : Nat := pth l st p st.length
theorem rootP_le {l : Nat} {st : List Nat} {p : Nat} (hs : okS l st) (hp : p ≤ l * 2 ^ st.length) : rootP l st p ≤ l := by
  have := pth_le hs hp st.length (Nat.le_refl _)
  rw [Nat.sub_self, Nat.pow_zero, Nat.mul_one] at this
  exact this
theorem pls_snoc (ps : List Nat) (p : Nat) : pls (ps ++ [p]) = pls ps ++ [.int (p : Int)] := by unfold pls; rw [List.map_append]; rfl
def upto (l : Nat) (st : List Nat) (p i : Nat) : List Nat := (List.range (i + 1)).map (pth l st p)
theorem upto_succ {l : Nat} {st : List Nat} {p i : Nat} : upto l st p (i + 1) = upto l st p i ++ [pth l st p (i + 1)] := by
  unfold upto; rw [List.range_succ, List.map_append]; rfl
def s_shown : DSp := fun ds _ R => ∃ l c p : Nat, ds = [.int (l : Int), .int (c : Int), .int (p : Int)] ∧ c ≤ l ∧ R (.int (shownN l c p : Nat))
def s_shown_places : DSp := fun ds _ R => ∃ (l : Nat) (st : List Nat) (p : Nat), ds = [.int ((l * 2 ^ st.length : Nat) : Int), .lst (pls st), .int (p : Int)] ∧ okS l st ∧ st.length ≤ 64 ∧ R (.lst (pls (orgs l st p)))
def s_l_shown : DSp := fun ds _ R => ∃ l c p : Nat, ds = [.int (l : Int), .int (c : Int), .int (p : Int)] ∧ c ≤ l ∧ p ≤ 2 * l ∧ R (.int (shownN l c p : Nat))
def s_doubled : DSp := fun ds _ R => ∃ l n : Nat, ds = [.int (l : Int), .int (n : Int)] ∧ n ≤ 1000 ∧ R (.int ((l * 2 ^ n : Nat) : Int))
def s_origins : DSp := fun ds _ R => ∃ (w st : List Nat) (p : Nat), ds = [.str w, .lst (pls st), .int (p : Int)] ∧ 1 ≤ w.length ∧ w.length ≤ 1000 ∧ okS (w.length - 1) st ∧ st.length ≤ 64 ∧ p ≤ (w.length - 1) * 2 ^ st.length ∧ R (.lst (pls (orgs (w.length - 1) st p)))
def s_spot : DSp := fun ds _ R => ∃ w st : List Nat, ds = [.str w, .lst (pls st)] ∧ 1 ≤ w.length ∧ w.length ≤ 1000 ∧ okS (w.length - 1) st ∧ st.length ≤ 64 ∧ ∀ p : Nat, p ≤ (w.length - 1) * 2 ^ st.length → R (.int (p : Int))
/-- shown(last 0, called 1, place 2) -/
def b_shown : DS :=
  (dSeq (dIfS (dTest (dOp oLt (dVar 2) (dVar 1))) (dRet (dVar 2)) dNext) (dSeq (dIfS (dTest (dOp oLe (dVar 2) (dOp oAdd (dVar 1) (dVar 0)))) (dRet (dOp oSub (dVar 2) (dVar 1))) dNext) (dRet (dOp oSub (dVar 2) (dVar 0)))))

/-- shown_places(last 0, calls 1, place 2, places 3, last_then 4, place_then 5, called 6) -/
def b_shown_places : DS :=
  (dSeq (dLstO 3 (dCons (dVar 2) dNil)) (dSeq (dAsg 4 (dVar 0)) (dSeq (dAsg 5 (dVar 2)) (dSeq (dFor (dRevI (dCons (dVar 1) dNil)) (dgName 6) (dSeq (dAsg 4 (dOp oDiv (dVar 4) (dC (.int 2)))) (dSeq (dAsg 5 (dCall s_shown (dCons (dVar 4) (dCons (dVar 6) (dCons (dVar 5) dNil))))) (dApp 3 (dVar 5))))) (dRetO 3)))))

/-- _law_doubled(_law_last 0, _law_calls 1, _law_k 2) -/
def b_doubled : DS :=
  (dSeq (dFor (dRng1 (dCons (dVar 1) dNil)) (dgName 2) (dAsg 0 (dOp oMul (dC (.int 2)) (dVar 0)))) (dRet (dVar 0)))

/-- _law_shown(_law_last 0, _law_place_called 1, _law_place 2, _law_rest 3, _law_size 4, _law_first 5) -/
def b_l_shown : DS :=
  (dSeq (dAsg 3 (dVar 2)) (dSeq (dFor (dItems (dLst (dCons (dTup (dCons (dVar 1) (dCons (dC (.int 0)) dNil))) (dCons (dTup (dCons (dOp oAdd (dVar 0) (dC (.int 1))) (dCons (dC (.int 0)) dNil))) (dCons (dTup (dCons (dOp oSub (dVar 0) (dVar 1)) (dCons (dOp oAdd (dVar 1) (dC (.int 1))) dNil))) dNil))))) (dgPair 4 5) (dSeq (dIfS (dTest (dOp oLt (dVar 3) (dVar 4))) (dRet (dOp oAdd (dVar 5) (dVar 3))) dNext) (dAsg 3 (dOp oSub (dVar 3) (dVar 4))))) (dRet (dC .non))))

/-- _law_origins(_law_row_here 0, _law_story_here 1, _law_place 2, _law_lasts 3, _law_found 4, _law_k 5) -/
def b_origins : DS :=
  (dSeq (dParOO 3 4 (dCons (dOp oSub (dCB cLen (dCons (dVar 0) dNil)) (dC (.int 1))) dNil) (dCons (dVar 2) dNil)) (dSeq (dFor (dRng1 (dCons (dCB cLen (dCons (dVar 1) dNil)) dNil)) (dgName 5) (dApp 3 (dOp oMul (dC (.int 2)) (dThaw 3 (dOp oIx (dVar 3) (dNeg (dC (.int 1)))))))) (dSeq (dFor (dRng3 (dCons (dOp oSub (dCB cLen (dCons (dVar 1) dNil)) (dC (.int 1))) (dCons (dNeg (dC (.int 1))) (dCons (dNeg (dC (.int 1))) dNil)))) (dgName 5) (dApp 4 (dCall s_l_shown (dCons (dThaw 3 (dOp oIx (dVar 3) (dVar 5))) (dCons (dOp oIx (dVar 1) (dVar 5)) (dCons (dThaw 4 (dOp oIx (dVar 4) (dNeg (dC (.int 1))))) dNil)))))) (dFrz 4 (dRet (dVar 4))))))

/-- _law_spot(_law_bag_here 0, _law_row_here 1, _law_story_here 2, _law_last 3, _law_before 4, _law_at 5, _law_near 6) -/
def b_spot : DS :=
  (dSeq (dAsg 3 (dCall s_doubled (dCons (dOp oSub (dCB cLen (dCons (dVar 1) dNil)) (dC (.int 1))) (dCons (dCB cLen (dCons (dVar 2) dNil)) dNil)))) (dSeq (dAsg 4 (dIf (dTest (dOp oNe (dVar 2) (dLst dNil))) (dOp oDiv (dVar 3) (dC (.int 2))) (dVar 3))) (dSeq (dAsg 5 (dIf (dTest (dOp oNe (dVar 2) (dLst dNil))) (dOp oIx (dVar 2) (dNeg (dC (.int 1)))) (dC (.int 0)))) (dSeq (dAsg 6 (dOp oIx (dLst (dCons (dC (.int 0)) (dCons (dVar 3) (dCons (dVar 5) (dCons (dOp oMul (dC (.int 2)) (dVar 5)) (dCons (dOp oAdd (dVar 5) (dVar 4)) (dCons (dCallB 0 s_take (dCons (dOp oAdd (dVar 3) (dC (.int 1))) dNil)) (dCons (dCallB 0 s_take (dCons (dOp oAdd (dVar 3) (dC (.int 1))) dNil)) dNil)))))))) (dCallB 0 s_take (dCons (dC (.int 7)) dNil)))) (dRet (dCB cMax (dCons (dC (.int 0)) (dCons (dCB cMin (dCons (dVar 3) (dCons (dOp oSub (dOp oAdd (dVar 6) (dCallB 0 s_take (dCons (dC (.int 3)) dNil))) (dC (.int 1))) dNil))) dNil))))))))

theorem ok_shown : OkN 3 3 s_shown b_shown := by
  rintro ds xe R ⟨l, c, p, rfl, hc, q⟩
  refine ⟨rfl, ?_⟩
  unfold shownN at q
  refine ifB2 (fun h => ?_) (fun h => ?_)
  · rw [if_pos (by omega)] at q; exact q
  · rw [if_neg (by omega)] at q
    refine ifB2 (fun h => ?_) (fun h => ?_)
    · rw [if_pos (by omega)] at q
      rw [show ((p - c : Nat) : Int) = (p : Int) - (c : Int) by omega] at q; exact q
    · rw [if_neg (by omega)] at q
      rw [show ((p - l : Nat) : Int) = (p : Int) - (l : Int) by omega] at q; exact q
theorem rev_get {st : List Nat} {i : Nat} {d : D} (e : (pls st).reverse[i]? = some d) : i < st.length ∧ d = .int (st.getD (st.length - 1 - i) 0 : Nat) := by
  have il : i < st.length := by have := (List.getElem?_eq_some_iff.mp e).1; rwa [List.length_reverse, pls_length] at this
  rw [List.getElem?_reverse (by rw [pls_length]; exact il), pls_length] at e
  obtain ⟨p, e1, rfl⟩ := pls_get e
  refine ⟨il, ?_⟩
  rw [List.getD_eq_getElem?_getD, e1]; rfl
theorem get_le {l i : Nat} {st : List Nat} (hs : okS l st) (h : i < st.length) : st.getD (st.length - 1 - i) 0 ≤ l * 2 ^ (st.length - (i + 1)) := by
  have il : st.length - 1 - i < st.length := by omega
  have := hs.get (i := st.length - 1 - i) (p := st[st.length - 1 - i]) (List.getElem?_eq_getElem il)
  rw [List.getD_eq_getElem?_getD, List.getElem?_eq_getElem il]
  rw [show st.length - (i + 1) = st.length - 1 - i by omega]
  exact this
theorem pls_nol {ps : List Nat} : nols (pls ps) = true := nols_iff.mpr fun d h => by
  unfold pls at h
  obtain ⟨_, _, rfl⟩ := List.mem_map.mp h
  rfl
theorem ok_shown_places : OkNF 3 7 s_shown_places b_shown_places := by
  rintro ds xe R ⟨l, st, p, rfl, hs, hn, q⟩
  refine ⟨rfl, ?_⟩
  refine ⟨small_line (n := 1) (by decide), ?_⟩
  refine ⟨fun i ρ => ∃ a, ρ = [.dd (.int ((l * 2 ^ st.length : Nat) : Int)), .dd (.lst (pls st)), .dd (.int (p : Int)), .own (pls (upto l st p i)), .dd (.int ((l * 2 ^ (st.length - i) : Nat) : Int)), .dd (.int (pth l st p i : Nat)), a], ⟨.un, rfl⟩, fun i d ρ e wv => ?_, fun ρ wv => ?_⟩
  · obtain ⟨a, rfl⟩ := wv
    obtain ⟨il, rfl⟩ := rev_get e
    refine ⟨cdiv_wide (by decide) (by decide), ?_⟩
    have hf : ((l * 2 ^ (st.length - i) : Nat) : Int) / 2 = ((l * 2 ^ (st.length - (i + 1)) : Nat) : Int) := by rw [pow_half (by omega)]; omega
    refine conv (.int ((l * 2 ^ (st.length - (i + 1)) : Nat) : Int)) (congrArg D.int hf) ?_
    refine ⟨_, _, _, rfl, get_le hs il, ?_⟩
    refine ⟨Nat.lt_of_le_of_lt (show (pls (upto l st p i)).length ≤ 65 by rw [pls_length]; unfold upto; simp; omega) (by decide), ?_⟩
    refine ⟨.dd (.int (st.getD (st.length - 1 - i) 0 : Nat)), ?_⟩
    rw [upto_succ, pls_snoc]; rfl
  · obtain ⟨a, rfl⟩ := wv
    rw [List.length_reverse, pls_length]
    exact ⟨pls_nol, q⟩
theorem ok_l_shown : OkN 3 6 s_l_shown b_l_shown := by
  rintro ds xe R ⟨l, c, p, rfl, h1, h3, q⟩
  refine ⟨rfl, ?_⟩
  unfold shownN at q
  refine ⟨small_line (n := 2) (by decide), small_line (n := 2) (by decide), small_line (n := 2) (by decide), small_line (n := 3) (by decide), ?_⟩
  refine ⟨fun i ρ => ∃ a b, match i with
      | 0 => ρ = [.dd (.int (l : Int)), .dd (.int (c : Int)), .dd (.int (p : Int)), .dd (.int (p : Int)), a, b]
      | 1 => ρ = [.dd (.int (l : Int)), .dd (.int (c : Int)), .dd (.int (p : Int)), .dd (.int ((p : Int) - (c : Int))), a, b] ∧ c ≤ p
      | 2 => ρ = [.dd (.int (l : Int)), .dd (.int (c : Int)), .dd (.int (p : Int)), .dd (.int ((p : Int) - (c : Int) - ((l : Int) + 1))), a, b] ∧ c + l < p
      | _ => False, ⟨_, _, rfl⟩, fun i d ρ e w => ?_, fun ρ w => ?_⟩
  · obtain ⟨a, b, w⟩ := w
    match i, e, w with
    | 0, e, w =>
      cases e; cases w
      refine ifB2 (c := (p : Int) < (c : Int)) (fun h => ?_) (fun h => ?_)
      · rw [if_pos (by omega)] at q
        show R (.int (0 + (p : Int)))
        rw [Int.zero_add]; exact q
      · exact ⟨_, _, rfl, by omega⟩
    | 1, e, w =>
      cases e
      obtain ⟨w, w2⟩ := w
      cases w
      refine ifB2 (c := (p : Int) - (c : Int) < (l : Int) + 1) (fun h => ?_) (fun h => ?_)
      · rw [if_neg (by omega), if_pos (by omega)] at q
        show R (.int (0 + ((p : Int) - (c : Int))))
        rw [show (0 : Int) + ((p : Int) - (c : Int)) = ((p - c : Nat) : Int) by omega]; exact q
      · exact ⟨_, _, rfl, by omega⟩
    | 2, e, w =>
      cases e
      obtain ⟨w, w2⟩ := w
      cases w
      refine ifB2 (c := (p : Int) - (c : Int) - ((l : Int) + 1) < (l : Int) - (c : Int)) (fun h => ?_) (fun h => ?_)
      · rw [if_neg (by omega), if_neg (by omega)] at q
        show R (.int ((c : Int) + 1 + ((p : Int) - (c : Int) - ((l : Int) + 1))))
        rw [show (c : Int) + 1 + ((p : Int) - (c : Int) - ((l : Int) + 1)) = ((p - l : Nat) : Int) by omega]; exact q
      · exact absurd h3 (by omega)
    | n + 3, e, w => exact w.elim
  · obtain ⟨a, b, w⟩ := w
    exact w.elim
theorem two_pow {l i : Nat} : (2 : Int) * ((l * 2 ^ i : Nat) : Int) = ((l * 2 ^ (i + 1) : Nat) : Int) := by rw [Nat.pow_succ, ← Nat.mul_assoc]; omega
theorem ok_doubled : OkN 2 3 s_doubled b_doubled := by
  rintro ds xe R ⟨l, n, rfl, hn, q⟩
  refine ⟨rfl, ?_⟩
  refine ⟨by omega, by omega, ?_⟩
  refine ⟨fun i ρ => ∃ a, ρ = [.dd (.int ((l * 2 ^ i : Nat) : Int)), .dd (.int (n : Int)), a], ⟨.un, ?_⟩, fun i d ρ e wv => ?_, fun ρ wv => ?_⟩
  · show _ = [Sl.dd (.int ((l * 2 ^ 0 : Nat) : Int)), _, _]
    rw [Nat.pow_zero, Nat.mul_one]; rfl
  · obtain ⟨a, rfl⟩ := wv
    refine ⟨cmul_small (by decide) (by decide), ⟨.dd d, ?_⟩⟩
    show [Sl.dd (.int (2 * ((l * 2 ^ i : Nat) : Int))), _, _] = _
    rw [two_pow]
  · obtain ⟨a, rfl⟩ := wv
    rw [span_length, Int.toNat_natCast]
    exact q
def lasts (l i : Nat) : List Nat := (List.range (i + 1)).map fun j => l * 2 ^ j
theorem lasts_succ {l i : Nat} : lasts l (i + 1) = lasts l i ++ [l * 2 ^ (i + 1)] := by unfold lasts; rw [List.range_succ, List.map_append]; rfl
theorem pls_last {i : Nat} {f : Nat → Nat} : atI (pls ((List.range (i + 1)).map f)) (-1) = some (.int (f i : Nat)) := by
  unfold pls
  rw [List.range_succ, List.map_append, List.map_append]
  exact atI_last
theorem ok_origins : OkN 3 6 s_origins b_origins := by
  rintro ds xe R ⟨w, st, p, rfl, h1, h2, hs, hn, hp, q⟩
  refine ⟨rfl, ?_⟩
  refine ⟨line_of (by omega), small_line (n := 1) (by decide), small_line (n := 1) (by decide), ?_⟩
  have e0 : (w.length : Int) - 1 = ((w.length - 1 : Nat) : Int) := by omega
  refine ⟨by rw [pls_length]; omega, by rw [pls_length]; omega, ?_⟩
  refine ⟨fun i ρ => ∃ a, ρ = [.dd (.str w), .dd (.lst (pls st)), .dd (.int (p : Int)), .own (pls (lasts (w.length - 1) i)), .own (pls (upto (w.length - 1) st p 0)), a], ⟨.un, ?_⟩, fun i d ρ e wv => ?_, fun ρ wv => ?_⟩
  · show [_, _, _, Sl.own [D.int ((w.length : Int) - 1)], _, _] = _
    rw [e0]
    show _ = [_, _, _, Sl.own [D.int (((w.length - 1) * 2 ^ 0 : Nat) : Int)], _, _]
    rw [Nat.pow_zero, Nat.mul_one]; rfl
  · obtain ⟨a, rfl⟩ := wv
    have il := (span_get e).1
    rw [pls_length, Int.toNat_natCast] at il
    refine ⟨Nat.lt_of_le_of_lt (show (pls (lasts (w.length - 1) i)).length ≤ 65 by rw [pls_length]; unfold lasts; simp; omega) (by decide), .int (((w.length - 1) * 2 ^ i : Nat) : Int), pls_last, rfl, cmul_small (by decide) (by decide), ⟨.dd d, ?_⟩⟩
    rw [lasts_succ, pls_snoc, ← two_pow]; rfl
  · obtain ⟨a, rfl⟩ := wv
    rw [span_length, pls_length, Int.toNat_natCast]
    refine ⟨_, rgc_down (n := ((pls st).length : Int) - 1) (by rw [pls_length]; omega) (by rw [pls_length]; omega), ?_⟩
    have cnt : (((pls st).length : Int) - 1 + 1).toNat = st.length := by rw [pls_length]; omega
    rw [cnt]
    refine ⟨fun i ρ => ∃ a, ρ = [.dd (.str w), .dd (.lst (pls st)), .dd (.int (p : Int)), .own (pls (lasts (w.length - 1) st.length)), .own (pls (upto (w.length - 1) st p i)), a], ⟨_, rfl⟩, fun i d ρ e wv => ?_, fun ρ wv => ?_⟩
    · obtain ⟨a, rfl⟩ := wv
      obtain ⟨il, rfl⟩ := spanC_get e
      have hk : ((pls st).length : Int) - 1 + (i : Int) * -1 = ((st.length - 1 - i : Nat) : Int) := by rw [pls_length]; omega
      rw [hk]
      have jl : st.length - 1 - i < st.length := by omega
      have g1 : (pls (lasts (w.length - 1) st.length))[st.length - 1 - i]? = some (.int (((w.length - 1) * 2 ^ (st.length - (i + 1)) : Nat) : Int)) := by
        unfold pls lasts
        rw [List.map_map, List.getElem?_map, List.getElem?_range (by omega)]
        show some (D.int (((w.length - 1) * 2 ^ (st.length - 1 - i) : Nat) : Int)) = _
        rw [show st.length - 1 - i = st.length - (i + 1) by omega]
      have g2 : (pls st)[st.length - 1 - i]? = some (.int (st.getD (st.length - 1 - i) 0 : Nat)) := by
        unfold pls
        rw [List.getElem?_map, List.getElem?_eq_getElem jl, List.getD_eq_getElem?_getD, List.getElem?_eq_getElem jl]; rfl
      have le1 := pth_le hs hp i (by omega)
      rw [pow_half (by omega)] at le1
      refine ⟨Nat.lt_of_le_of_lt (show (pls (upto (w.length - 1) st p i)).length ≤ 65 by rw [pls_length]; unfold upto; simp; omega) (by decide), ?_⟩
      refine ⟨_, atI_nat g1, rfl, _, atI_nat g2, .int (pth (w.length - 1) st p i : Nat), pls_last, rfl, ?_⟩
      refine ⟨_, _, _, rfl, get_le hs il, le1, ⟨.dd (.int ((st.length - 1 - i : Nat) : Int)), ?_⟩⟩
      rw [upto_succ, pls_snoc]; rfl
    · obtain ⟨a, rfl⟩ := wv
      rw [spanC_length]
      exact q
theorem nil_fine : fine (.lst []) := fine_lst (xs := []) (n := 0) (m := 0) (fun _ h => nomatch h) (by decide) (by decide)
theorem big_place {l n : Nat} (hl : l ≤ 1000) (hn : n ≤ 64) : l * 2 ^ n ≤ 1000 * 2 ^ 64 := Nat.mul_le_mul hl (Nat.pow_le_pow_right (by decide) hn)
theorem story_fine {l : Nat} {st : List Nat} (hl : l ≤ 1000) (hs : okS l st) (hn : st.length ≤ 64) : fine (.lst (pls st)) := pls_fine (fun p hp => Nat.lt_of_le_of_lt (Nat.le_trans (hs.bound hp) (big_place hl hn)) (by decide)) (by omega)
theorem pls_nil : pls [] = [] := rfl
theorem nil_or {st : List Nat} : st = [] ∨ ∃ qs p, st = qs ++ [p] := by
  rcases List.eq_nil_or_concat st with h | ⟨qs, p, h⟩
  · exact .inl h
  · exact .inr ⟨qs, p, by rw [h]; simp⟩
theorem ne_nil {qs : List Nat} {p : Nat} : (!PyData.eqv (toPy (.lst (pls (qs ++ [p])))) (toPy (.lst []))) = true := by cases qs <;> rfl
theorem spot_rest {w st : List Nat} {L : Nat} {xe : XE} {R : D → Prop} (bL : (L : Int) + 1 < 10 ^ 120) (q : ∀ p : Nat, p ≤ L → R (.int (p : Int))) (a b : Int) (ha : 0 ≤ a) (hb : 0 ≤ b) :
      (dSeq (dAsg 6 (dOp oIx (dLst (dCons (dC (.int 0)) (dCons (dVar 3) (dCons (dVar 5) (dCons (dOp oMul (dC (.int 2)) (dVar 5)) (dCons (dOp oAdd (dVar 5) (dVar 4)) (dCons (dCallB 0 s_take (dCons (dOp oAdd (dVar 3) (dC (.int 1))) dNil)) (dCons (dCallB 0 s_take (dCons (dOp oAdd (dVar 3) (dC (.int 1))) dNil)) dNil)))))))) (dCallB 0 s_take (dCons (dC (.int 7)) dNil)))) (dRet (dCB cMax (dCons (dC (.int 0)) (dCons (dCB cMin (dCons (dVar 3) (dCons (dOp oSub (dOp oAdd (dVar 6) (dCallB 0 s_take (dCons (dC (.int 3)) dNil))) (dC (.int 1))) dNil))) dNil)))))
        { nx := fun _ => R .non, rt := R, xe := xe } [.bg, .dd (.str w), .dd (.lst (pls st)), .dd (.int (L : Int)), .dd (.int b), .dd (.int a), .un] := by
  refine ⟨cmul_small (by decide) (by decide), rfl, _, rfl, by omega, bL, fun v1 a0 a1 => ⟨rfl, _, rfl, by omega, bL, fun v2 b0 b1 => ⟨small_line (n := 7) (by decide), rfl, 7, rfl, by decide, by decide, fun v3 c0 c1 => ?_⟩⟩⟩
  refine ix_P (fun d => ∃ x : Int, d = .int x ∧ 0 ≤ x) c0 c1 ?_ ?_
  · simp only [List.forall_mem_cons]
    exact ⟨⟨_, rfl, by omega⟩, ⟨_, rfl, by omega⟩, ⟨_, rfl, by omega⟩, ⟨_, rfl, by omega⟩, ⟨_, rfl, by omega⟩, ⟨_, rfl, by omega⟩, ⟨_, rfl, by omega⟩, fun _ h => nomatch h⟩
  rintro _ ⟨x, rfl, x0⟩
  refine ⟨rfl, 3, rfl, by decide, by decide, fun v4 d0 d1 => ?_⟩
  obtain ⟨y, hy, y1⟩ : ∃ y : Nat, (y : Int) = (if (if x + v4 - 1 < (L : Int) then x + v4 - 1 else (L : Int)) > 0 then (if x + v4 - 1 < (L : Int) then x + v4 - 1 else (L : Int)) else 0) ∧ y ≤ L :=
    ⟨(if (if x + v4 - 1 < (L : Int) then x + v4 - 1 else (L : Int)) > 0 then (if x + v4 - 1 < (L : Int) then x + v4 - 1 else (L : Int)) else 0).toNat, by split <;> (try split) <;> omega, by split <;> (try split) <;> omega⟩
  have := q y y1
  rw [hy] at this
  exact this
theorem big_take {L : Nat} (h : L ≤ 1000 * 2 ^ 64) : (L : Int) + 1 < 10 ^ 120 := by
  have : (1000 * 2 ^ 64 : Nat) + 1 < 10 ^ 120 := by decide
  omega
theorem dC_intro {d : D} {ρ : List Sl} {xe : XE} {R : D → Prop} (h : R d) : dC d ρ xe R := h
theorem ok_spot : OkB 2 7 s_spot b_spot := by
  rintro ds xe R ⟨w, st, rfl, h1, h2, hs, hn, q⟩
  refine ⟨rfl, ?_⟩
  have e0 : (w.length : Int) - 1 = ((w.length - 1 : Nat) : Int) := by omega
  refine ⟨line_of (by omega), w.length - 1, st.length, by show [D.int ((w.length : Int) - 1), D.int ((pls st).length : Int)] = _; rw [pls_length, e0], by omega, ?_⟩
  have bL := big_take (big_place (l := w.length - 1) (n := st.length) (by omega) hn)
  have fn := story_fine (l := w.length - 1) (by omega) hs hn
  have rest := spot_rest (w := w) (st := st) (xe := xe) bL q
  rcases nil_or (st := st) with e | ⟨qs, p, e⟩
  · refine ⟨small_line (n := 0) (by decide), fn.eq, nil_fine.eq, ?_⟩
    have e1 : (!PyData.eqv (toPy (.lst (pls st))) (toPy (.lst []))) = false := by rw [e, pls_nil, eqv_fine nil_fine]; rfl
    refine ifBf e1 ?_
    refine ⟨small_line (n := 0) (by decide), fn.eq, nil_fine.eq, ifBf e1 (dC_intro ?_)⟩
    exact rest 0 _ (Int.le_refl _) (Int.natCast_nonneg _)
  · refine ⟨small_line (n := 0) (by decide), fn.eq, nil_fine.eq, ?_⟩
    have e1 : (!PyData.eqv (toPy (.lst (pls st))) (toPy (.lst []))) = true := by rw [e]; exact ne_nil
    refine ifBt e1 ?_
    refine ⟨cdiv_wide (by decide) (by decide), ?_⟩
    refine ⟨small_line (n := 0) (by decide), fn.eq, nil_fine.eq, ifBt e1 ?_⟩
    refine ⟨.int (p : Int), by rw [e, pls_snoc]; exact atI_last, ?_⟩
    exact rest p _ (Int.natCast_nonneg _) (Int.ediv_nonneg (Int.natCast_nonneg _) (by decide))

/-! ### Far -/
def farD (c : Kl) (w st : List Nat) : D := .ins c.Far ["_row", "_story"] [.str w, .lst (pls st)]
structure okF (w st : List Nat) : Prop where
  lt : letters w
  l2 : 2 ≤ w.length
  l3 : w.length ≤ 1000
  os : okS (w.length - 1) st
  sl : st.length ≤ 64
def lastF (w st : List Nat) : Nat := (w.length - 1) * 2 ^ st.length
abbrev m_place : List Nat := [116, 104, 101, 114, 101, 32, 105, 115, 32, 110, 111, 32, 115, 117, 99, 104, 32, 112, 108, 97, 99, 101]
def erP (c : Kl) (i : Int) : Er := ⟨c.NoPlace, [("place", .int i), ("text", .str m_place)]⟩
def s_Far___init__ (c : Kl) : DSp := fun ds _ R => ∃ w st : List Nat, ds = [.str w, .lst (pls st)] ∧ okF w st ∧ R (farD c w st)
def s_Far_story (c : Kl) : DSp := fun ds _ R => ∃ w st : List Nat, ds = [farD c w st] ∧ R (.lst (pls st))
def s_Far_length (c : Kl) : DSp := fun ds _ R => ∃ w st : List Nat, ds = [farD c w st] ∧ okF w st ∧ R (.int ((lastF w st : Nat) + 1 : Int))
def s_Far__check_place (c : Kl) : DSp := fun ds xe R => ∃ (w st : List Nat) (p : Int), ds = [farD c w st, .int p] ∧ okF w st ∧ (0 ≤ p → p ≤ lastF w st → R .non) ∧ (¬ (0 ≤ p ∧ p ≤ lastF w st) → xe (erP c p))
def s_Far_origins (c : Kl) : DSp := fun ds xe R => ∃ (w st : List Nat) (p : Int), ds = [farD c w st, .int p] ∧ okF w st ∧ (∀ n : Nat, p = n → n ≤ lastF w st → R (.lst (pls (orgs (w.length - 1) st n)))) ∧ (¬ (0 ≤ p ∧ p ≤ lastF w st) → xe (erP c p))
def s_Far_letter (c : Kl) : DSp := fun ds xe R => ∃ (w st : List Nat) (p : Int), ds = [farD c w st, .int p] ∧ okF w st ∧ (∀ n : Nat, p = n → n ≤ lastF w st → R (.str [(w[rootP (w.length - 1) st n]?).getD 0])) ∧ (¬ (0 ≤ p ∧ p ≤ lastF w st) → xe (erP c p))
/-- Far___init__(self 0, row 1, story 2) -/
def b_Far___init__ (c : Kl) : DS :=
  (dSeq (dIfS (dNot (dTest (dCall s_is_row (dCons (dVar 1) dNil)))) dNever dNext) (dIfS (dNot (dTest (dCall s_is_story (dCons (dOp oSub (dCB cLen (dCons (dVar 1) dNil)) (dC (.int 1))) (dCons (dVar 2) dNil))))) dNever dNext))

/-- Far_story(self 0) -/
def b_Far_story (c : Kl) : DS :=
  (dRet (dCB cList (dCons (dFld c.Far "_story" (dVar 0)) dNil)))

/-- Far_length(self 0) -/
def b_Far_length (c : Kl) : DS :=
  (dRet (dOp oAdd (dOp oShl (dOp oSub (dCB cLen (dCons (dFld c.Far "_row" (dVar 0)) dNil)) (dC (.int 1))) (dCB cLen (dCons (dFld c.Far "_story" (dVar 0)) dNil))) (dC (.int 1))))

/-- Far__check_place(self 0, place 1) -/
def b_Far__check_place (c : Kl) : DS :=
  (dIfS (dNot (dTest (dChain oLe oLt (dC (.int 0)) (dVar 1) (dMeth c.Far "length" (s_Far_length c) (dVar 0) dNil)))) (dRaise c.NoPlace "place" [116, 104, 101, 114, 101, 32, 105, 115, 32, 110, 111, 32, 115, 117, 99, 104, 32, 112, 108, 97, 99, 101] (dVar 1)) dNext)

/-- Far_origins(self 0, place 1) -/
def b_Far_origins (c : Kl) : DS :=
  (dSeq (dDrop (dMeth c.Far "_check_place" (s_Far__check_place c) (dVar 0) (dCons (dVar 1) dNil))) (dRetC s_shown_places (dCons (dOp oSub (dMeth c.Far "length" (s_Far_length c) (dVar 0) dNil) (dC (.int 1))) (dCons (dFld c.Far "_story" (dVar 0)) (dCons (dVar 1) dNil)))))

/-- Far_letter(self 0, place 1) -/
def b_Far_letter (c : Kl) : DS :=
  (dRet (dOp oIx (dFld c.Far "_row" (dVar 0)) (dOp oIx (dMeth c.Far "origins" (s_Far_origins c) (dVar 0) (dCons (dVar 1) dNil)) (dNeg (dC (.int 1))))))

theorem ok_Far___init__ (c : Kl) : ∀ ds xe R, s_Far___init__ c ds xe R → ∃ a bs, ds = [a, .lst bs] ∧ ∀ x, b_Far___init__ c { nx := fun ρ => ρ = [self0 x c.Far, .dd a, .dd (.lst bs)] ∧ R (.ins c.Far ["_row", "_story"] [a, .lst bs]), rt := fun _ => False, xe := xe } [self0 x c.Far, .dd a, .dd (.lst bs)] := by
  rintro ds xe R ⟨w, st, rfl, ok, q⟩
  refine ⟨_, _, rfl, fun x => ?_⟩
  refine ⟨w, rfl, ok.lt, ok.l2, ok.l3, ?_⟩
  refine ⟨line_of (by have := ok.l3; omega), w.length - 1, st, ?_, ok.os, ok.sl, rfl, q⟩
  have e0 : (w.length : Int) - 1 = ((w.length - 1 : Nat) : Int) := by have := ok.l2; omega
  show [D.int ((w.length : Int) - 1), _] = _
  rw [e0]
theorem ok_Far_story (c : Kl) : OkN 1 1 (s_Far_story c) (b_Far_story c) := by
  rintro ds xe R ⟨w, st, rfl, q⟩
  exact ⟨rfl, rfl, _, rfl, q⟩
theorem ok_Far_length (c : Kl) : OkN 1 1 (s_Far_length c) (b_Far_length c) := by
  rintro ds xe R ⟨w, st, rfl, ok, q⟩
  refine ⟨rfl, rfl, _, rfl, line_of (by have := ok.l3; omega), rfl, _, rfl, ?_⟩
  have l2 := ok.l2; have l3 := ok.l3; have sl := ok.sl
  refine ⟨⟨by rw [pls_length]; omega, by rw [pls_length]; omega, ?_⟩, ?_⟩
  · have : ((w.length : Int) - 1).natAbs ≤ 1000 := by omega
    exact Nat.lt_of_le_of_lt this (by decide)
  · have e0 : (w.length : Int) - 1 = ((w.length - 1 : Nat) : Int) := by omega
    have e1 : ((w.length : Int) - 1) * 2 ^ ((((pls st).length : Nat) : Int)).toNat = ((lastF w st : Nat) : Int) := by
      rw [pls_length, Int.toNat_natCast, e0]; unfold lastF; rw [Int.natCast_mul, Int.natCast_pow]; rfl
    refine conv (.int ((lastF w st : Nat) : Int)) (congrArg D.int e1) ?_
    exact q
theorem ok_Far__check_place (c : Kl) : OkN 2 2 (s_Far__check_place c) (b_Far__check_place c) := by
  rintro ds xe R ⟨w, st, p, rfl, ok, q1, q2⟩
  refine ⟨rfl, ?_⟩
  by_cases h0 : 0 ≤ p
  · refine ifBt (k := decide ((0 : Int) ≤ p)) (decide_eq_true h0) ?_
    refine ⟨rfl, by decide, w, st, rfl, ok, ?_⟩
    by_cases h1 : p < (lastF w st : Int) + 1
    · refine ifBf (k := !decide (p < (lastF w st : Int) + 1)) (by rw [decide_eq_true h1]; rfl) ?_
      exact q1 h0 (by omega)
    · refine ifBt (k := !decide (p < (lastF w st : Int) + 1)) (by rw [decide_eq_false h1]; rfl) ?_
      exact q2 fun h => h1 (by omega)
  · refine ifBf (k := decide ((0 : Int) ≤ p)) (decide_eq_false h0) ?_
    exact q2 fun h => h0 h.1
theorem ok_Far_origins (c : Kl) : OkNF 2 2 (s_Far_origins c) (b_Far_origins c) := by
  rintro ds xe R ⟨w, st, p, rfl, ok, q1, q2⟩
  refine ⟨rfl, rfl, by decide, w, st, p, rfl, ok, fun h0 h1 => ?_, q2⟩
  refine ⟨rfl, by decide, w, st, rfl, ok, rfl, _, rfl, w.length - 1, st, p.toNat, ?_, ok.os, ok.sl, q1 p.toNat (by omega) (by omega)⟩
  have e1 : ((lastF w st : Nat) : Int) + 1 - 1 = (((w.length - 1) * 2 ^ st.length : Nat) : Int) := by unfold lastF; omega
  have e2 : p = ((p.toNat : Nat) : Int) := by omega
  show [D.int (((lastF w st : Nat) : Int) + 1 - 1), _, D.int p] = _
  rw [e1, ← e2]
theorem ok_Far_letter (c : Kl) : OkN 2 2 (s_Far_letter c) (b_Far_letter c) := by
  rintro ds xe R ⟨w, st, p, rfl, ok, q1, q2⟩
  refine ⟨rfl, rfl, _, rfl, rfl, by decide, w, st, p, rfl, ok, fun n hn h1 => ?_, q2⟩
  refine ⟨_, orgs_atI, line_of (by have := ok.l3; omega), ?_⟩
  have rl := rootP_le ok.os (p := n) h1
  have l2 := ok.l2
  have e : w[rootP (w.length - 1) st n]? = some (w[rootP (w.length - 1) st n]'(by omega)) := List.getElem?_eq_getElem (by omega)
  have q := q1 n hn h1
  rw [e] at q
  exact ⟨_, atI_nat e, q⟩
end DL

namespace DL
open PySem PySem.Spec L2
open PyProof.Rows hiding St
theorem lc_ix {items : List D} {dg : DG} {de : DE} {vs : List Nat} {ρ : List Sl} {R : D → Prop} (P : Nat → D → Prop) (hl : items.length ≤ 1000000) (h : ∀ (i : Nat) d (Q : D → Prop), items[i]? = some d → (∀ y, P i y → Q y) → dg d (dwipe ρ vs) fun ρ2 => de ρ2 (fun _ => False) Q)
    (q : ∀ acc, acc.length = items.length → (∀ (i : Nat) y, acc[i]? = some y → P i y) → R (.lst acc)) : lcBody dg dYes de vs ρ R items := by
  refine ⟨Nat.le_trans hl (by decide), fun i acc => acc.length = i ∧ ∀ (j : Nat) y, acc[j]? = some y → P j y, ⟨rfl, fun _ _ h => by simp at h⟩, fun i d acc e _ w => ?_, fun acc _ w => q acc w.1 w.2⟩
  refine h i d _ e fun y hy => ⟨by rw [List.length_append, w.1]; rfl, fun j z hz => ?_⟩
  by_cases c : j < acc.length
  · rw [List.getElem?_append_left c] at hz; exact w.2 j z hz
  · have jl : j < (acc ++ [y]).length := (List.getElem?_eq_some_iff.mp hz).1
    rw [List.length_append] at jl
    have : j = acc.length := by have : ([y] : List D).length = 1 := rfl; omega
    rw [this, List.getElem?_append_right (Nat.le_refl _), Nat.sub_self] at hz
    have e2 : y = z := by simpa using hz
    subst e2
    have e3 : j = i := by have := w.1; omega
    subst e3
    exact hy
/-- a list of two -/
theorem two_of {P : Nat → D → Prop} {acc : List D} (l : acc.length = 2) (h : ∀ (i : Nat) y, acc[i]? = some y → P i y) : ∃ a b, acc = [a, b] ∧ P 0 a ∧ P 1 b := by
  match acc, l with
  | [a, b], _ => exact ⟨a, b, rfl, h 0 a rfl, h 1 b rfl⟩
/-- one of two -/
theorem ix2 {a b : D} {v : Int} {R : D → Prop} (h0 : 0 ≤ v) (h1 : v < 2) (q0 : v = 0 → R a) (q1 : v = 1 → R b) : oIx (.lst [a, b]) (.int v) R := by
  have : v = 0 ∨ v = 1 := by omega
  rcases this with e | e
  · subst e; exact ⟨a, rfl, q0 rfl⟩
  · subst e; exact ⟨b, rfl, q1 rfl⟩
/-! ### what is told of a letter, and of no place -/
abbrev m_np : List Nat := [110, 111, 32, 112, 108, 97, 99, 101]
theorem erP_ne {c : Kl} {p : Int} : (erP c p).fs ≠ [] := fun h => by cases h
theorem erP_place {c : Kl} {p : Int} : (erP c p).fs.lookup ("place" : Str) = some (D.int p) := rfl

theorem ne_same {d d' : D} {R : D → Prop} (e : d = d') (f : fine d) (q : R (.bl false)) : oNe d d' R := by
  subst e
  refine ⟨f.eq, f.eq, ?_⟩
  rw [eqv_fine f]; exact q
theorem eq_same {d d' : D} {R : D → Prop} (e : d = d') (f : fine d) (q : R (.bl true)) : oEq d d' R := by
  subst e
  refine ⟨f.eq, f.eq, ?_⟩
  rw [eqv_fine f]; exact q
theorem ne_fin {d : D} (f : fine d) : (!PyData.eqv (toPy d) (toPy d)) = false := by rw [eqv_fine f]; rfl
/-- the letter of a row at a place -/
def letN (w : List Nat) (p : Nat) : Nat := (w[p]?).getD 0
theorem letN_at {w : List Nat} {p : Nat} (h : p < w.length) : atI w (p : Int) = some (letN w p) := by
  refine atI_nat ?_
  unfold letN
  rw [List.getElem?_eq_getElem h]; rfl
theorem letN_fine {w : List Nat} {p : Nat} (g : letters w) : fine (.str [letN w p]) := fine_str (fun c hc => by
  have : c = letN w p := by simpa using hc
  unfold letN at this
  cases e : w[p]? with
  | none => rw [e] at this; rw [this]; decide
  | some x => rw [e] at this; have := g x (List.mem_of_getElem? e); simp at *; omega) (show 1 ≤ 1000000 by decide)
theorem letN_root {c : Kl} {w st : List Nat} (ok : okF w st) {p : Nat} (hp : p ≤ lastF w st) : rootP (w.length - 1) st p < w.length := by
  have := rootP_le ok.os (p := p) hp
  have := ok.l2
  omega
theorem lastF_le {w st : List Nat} (ok : okF w st) : lastF w st ≤ 1000 * 2 ^ 64 := big_place (by have := ok.l3; omega) ok.sl
theorem np_fine {i : Int} (h : i.natAbs < 10 ^ 150) : fine (.tup [.str m_np, .int i]) := by
  refine fine_tup (n := 20000) (m := 2) (fun x hx => ?_) (Nat.le_refl _) (by decide)
  simp only [List.mem_cons, List.not_mem_nil, or_false] at hx
  rcases hx with rfl | rfl
  · exact ⟨fine_str (by decide) (by decide), by decide, Nat.zero_le _⟩
  · exact ⟨fine_int (Nat.lt_of_lt_of_le h (by decide)), by unfold wt; decide, Nat.zero_le _⟩

theorem pls_wt {st : List Nat} (h : st.length ≤ 65) : wt (.lst (pls st)) ≤ 40000 ∧ dpD (.lst (pls st)) ≤ 50 := by
  have i : ∀ x ∈ pls st, ∃ p : Nat, x = .int (p : Int) := fun x hx => by
    unfold pls at hx
    obtain ⟨p, _, rfl⟩ := List.mem_map.mp hx
    exact ⟨p, rfl⟩
  have a := wts_le (xs := pls st) (n := 202) fun x hx => by obtain ⟨p, rfl⟩ := i x hx; exact Nat.le_refl _
  have b := dpDs_le (xs := pls st) (n := 0) fun x hx => by obtain ⟨p, rfl⟩ := i x hx; exact Nat.le_refl _
  rw [pls_length] at a
  have c : wt (.lst (pls st)) = wts (pls st) + 3 := by unfold wt; rfl
  have d : dpD (.lst (pls st)) = dpDs (pls st) + 1 := by unfold dpD; omega
  omega
end DL

namespace DL
open PySem PySem.Spec L2
open PyProof.Rows hiding St

/-! ### try .. except T as n, errors of several classes -/
abbrev Hd := Addr × (Addr → Addr → DS)
def dTryM (hs : List Hd) (n i : Nat) (db : DS) : DS := fun C ρ =>
  db { C with xe := fun er => ∃ h ∈ hs, er.cls = h.1 ∧ er.fs ≠ [] ∧ ∀ a dx, h.2 a dx { C with nx := fun _ => False, bk := fun _ => False, ct := fun _ => False, xe := fun _ => False } ((uns n).set i (.ex a (some dx) er)) } ρ
theorem xs_tryM {X : Cx} {E : XK} {x n : Str} {c : Value} {i m : Nat} {body suite : List Stmt} {b₀ : Stmt} {np pos pos' : Pos} {hs : List Hd} {db : DS}
    (hst : X.stack = X.env :: X.outer) (hf : X.env.frame = some X.env.locals) (hN : X.N.Nodup) (hi : X.N[i]? = some n) (hm : X.N.length = m) (hln : X.env.kindOf n = some .local) (hc : Names X x c) (tk : Takes X fun c d _ H => E c d H)
    (hcl : ∀ h ∈ hs, ErF X.K c h.1)
    (hb : ∀ (E' : XK) (pn : List (Addr × Obj)) (xe : Value → Shared → Prop), Takes (X.tr pn xe) (fun c d _ H => E' c d H) → PassesOwn (model X.prog X.w) X.A X.env xe → XSs (X.tr pn xe) E' body db)
    (hsu : ∀ h ∈ hs, ∀ (a : Addr) (oe : Obj) (dx : Addr) (pn : List (Addr × Obj)), ErF X.K c h.1 → Zc (.ref h.1) (some dx) oe → (∃ vs, oe.data = .fields vs) → XSs (X.suite a ((a, oe) :: pn)) (fun _ _ _ => False) (b₀ :: suite) (h.2 a dx)) :
    XS X E (.Try body [.ExceptHandler (some (.Name x np)) (some n) (b₀ :: suite) pos'] [] [] pos) (dTryM hs m i db) := by
  let ts : Addr → Value → Option Addr → TS := fun a cv d D σ H => ∃ h ∈ hs, ∃ dx, cv = .ref h.1 ∧ d = some dx ∧ cS X.K (fun _ _ _ => False) (h.2 a dx) D σ H
  let EW : WX → XK := fun W c d H => ∀ σ : L2.St, σ.length = X.N.length → W c d σ H
  refine .of (ps_try_as (tb := fun W => cS X.K (EW W) db) (ts := ts) (Wout := fun c d _ H => E c d H) hst hf hN hi hln hc tk (fun W pn xe tkW po => (hb (EW W) pn xe (takes_mono tkW fun c d σ H hl h => h σ hl) po).ps) (fun a oe cv d pn hz hd => ⟨fun pins s σ H D I q => ?_⟩)) ?_
  · obtain ⟨h, hm', dx, e1, e2, q⟩ := q
    subst e1; subst e2
    exact (hsu h hm' a oe dx pn (hcl h hm') hz hd).ps.run pins s σ H D I q
  · intro B G0 H0 G H σ ρ I Gs sg D C l q
    refine ⟨B, G0, H0, G, Gs, ρ, { C with xe := fun er => ∃ h ∈ hs, er.cls = h.1 ∧ er.fs ≠ [] ∧ ∀ a dx, h.2 a dx { C with nx := fun _ => False, bk := fun _ => False, ct := fun _ => False, xe := fun _ => False } ((uns m).set i (.ex a (some dx) er)) }, I, sg, ⟨l.nx, l.bk, l.ct, l.rt, fun er G' H' d st fo z => ?_, l.rf⟩, q⟩
    obtain ⟨h, hh, z1, z2, z3⟩ := z
    rcases fo with fo | ⟨dx, fs, e1, e2, e3, e4, e5⟩
    · exact absurd fo z2
    subst e1
    intro σ' hl
    refine ⟨true, by rw [z1]; exact (hcl h hh).mt, fun _ a ha => ?_, fun h => by cases h⟩
    obtain ⟨st2, sm⟩ := st.addx e2 e5
    refine ⟨h, hh, dx, by rw [z1], rfl, B, G0, H0, _, _, (uns m).set i (.ex a (some dx) er), { C with nx := fun _ => False, bk := fun _ => False, ct := fun _ => False, xe := fun _ => False }, ⟨st2, ?_, ?_⟩, Same.refl _, ⟨fun _ _ _ _ _ _ z => z.elim, fun _ _ _ _ _ _ z => z.elim, fun _ _ _ _ _ _ z => z.elim, l.rt, fun _ _ _ _ _ _ z => z.elim, l.rf⟩, z3 a dx⟩
    · have P := pset (SlOk.ex (K := X.K) (B := B) (H0 := H0) (G := upd G' dx (.xd fs)) (H := H') (a := a) (d := some dx) (er := er) (.inr ⟨dx, fs, rfl, upd_same, e3, e4.mono sm⟩)) i (sl_any σ')
      rw [hl, hm] at P
      exact P
    · intro j k p x y f1
      exfalso
      by_cases hj : j = i
      · subst hj
        by_cases lj : j < m
        · rw [List.getElem?_set_self (by unfold uns; rw [List.length_replicate]; exact lj)] at f1; cases f1
        · rw [List.getElem?_eq_none (by rw [List.length_set]; unfold uns; rw [List.length_replicate]; omega)] at f1; cases f1
      · rw [List.getElem?_set_ne (Ne.symm hj)] at f1
        have := List.eq_of_mem_replicate (List.mem_of_getElem? f1)
        cases this
theorem all2 {α : Type} {P : α → Prop} {a b : α} (h1 : P a) (h2 : P b) : ∀ h ∈ [a, b], P h := by
  intro h hh
  simp only [List.mem_cons, List.not_mem_nil, or_false] at hh
  rcases hh with rfl | rfl
  · exact h1
  · exact h2

/-! ### list(range(a, b, c)) -/
def rgcV (i c : Int) (n : Nat) : List V := (List.range n).map fun (k : Nat) => V.int (i + (k : Nat) * c)
theorem vals_rgc {i c : Int} {n : Nat} {acc : Array Value} (h : ItemsOf (fun k v => ∃ t, v = .int (i + k * c) t) acc n) : Vals (rgcV i c n) acc.toList := by
  have e : acc.toList.length = n := by rw [Array.length_toList]; exact h.1
  unfold rgcV
  rw [← e]
  refine vals_of_get acc.toList _ fun j u hj => ?_
  obtain ⟨t, rfl⟩ := h.2 j u (by rw [← hj, Array.getElem?_toList])
  exact ⟨t, rfl⟩
theorem spanC_rg {K : PySem.W.Frag} {G : Hp} (i c : Int) (n : Nat) : Reps K G (rgcV i c n) (spanC i c n) := by
  unfold rgcV spanC
  have h : ∀ l : List Nat, Reps K G (l.map fun (k : Nat) => V.int (i + (k : Nat) * c)) (l.map fun (k : Nat) => D.int (i + (k : Int) * c)) := fun l => by
    induction l with
    | nil => exact .nil
    | cons x r ih => exact .cons (.int _) ih
  exact h _
def dListR3 (da : DA) : DE := fun ρ xe R => da ρ xe fun ds => match ds with
  | [.int i, .int j, .int c] => ∃ n : Nat, RgC i j c n ∧ n ≤ 2 ^ 24 ∧ R (.lst (spanC i c n))
  | _ => False
def tListR3 (ta : TA) : TE := fun σ H Q => ta σ H fun vs H1 => ∃ (i j c : Int) (n : Nat), vs = [.int i, .int j, .int c] ∧ RgC i j c n ∧ n ≤ 2 ^ 24 ∧ ∀ q, H1 q = none → Q (.ref q) (upd H1 q (.lst (rgcV i c n)))
section
variable {X : Cx} {E : XK} {a b c : Expr} {ta : TA} {da : DA} {p' pos pl pr : Pos}
theorem prg_3 (hg : Gl X "range") (hm : X.mg "range" = none) (ha : PA X [a, b, c] ta)
    (hs : starEach [a, b, c] X.env = (false, eval a X.env) :: starEach [b, c] X.env := by rfl) (hpl : (backTo p' (starEach [b, c] X.env)).any (·.1) = false := by rfl)
    (pins : List (Addr × Obj)) (s : Shared) (σ : L2.St) (H : Hp) (Q : Int → Int → Int → Nat → Hp → Prop) (I : Inv X pins σ H s) (h : ta σ H fun vs H1 => ∃ (i j c : Int) (n : Nat), vs = [.int i, .int j, .int c] ∧ RgC i j c n ∧ Q i j c n H1) :
    wpAny (model X.prog X.w) X.A (eval (.Call (.Name "range" pr) [a, b, c] [] p') X.env) (fun x s' => ∃ r i j k n t u v H', x = .ref r ∧ IsRange s'.heap r i j k t u v ∧ RgC i j k n ∧ Inv X pins σ H' s' ∧ Q i j k n H') X.xe s := by
  refine Call_ (ld_blt I hg hm boot_range (PyProof.Rows.callWith_type1 (thn (ha.run p' pins s σ H _ I h) fun us s1 ⟨vs, H1, I1, r1, q1⟩ => ?_) hs hpl))
  obtain ⟨i, j, k, n, e, rc, q⟩ := q1
  subst e
  cases r1 with
  | cons r rr =>
    cases rr with
    | cons r' rr =>
      cases rr with
      | cons r'' rr =>
        cases rr
        obtain ⟨t, rfl⟩ := r
        obtain ⟨t', rfl⟩ := r'
        obtain ⟨t'', rfl⟩ := r''
        refine call_range_3 rc.1 ?_ (.inl (PyProof.noPylong_small rc.2.1))
        exact ⟨_, i, j, k, n, _, _, _, H1, rfl, IsRange.new .., rc, I1.kept (t' := s1.toks) fun b o e => Heap.get?_push_of_some _ e, q⟩
theorem pe_listR3 (hc : X.calm = true) (hl : Gl X "list") (ml : X.mg "list" = none) (hg : Gl X "range") (hm : X.mg "range" = none) (ha : PA X [a, b, c] ta)
    (hs : starEach [a, b, c] X.env = (false, eval a X.env) :: starEach [b, c] X.env := by rfl) (hpl : (backTo p' (starEach [b, c] X.env)).any (·.1) = false := by rfl)
    (na : starEach [Expr.Call (.Name "range" pr) [a, b, c] [] p'] X.env = (false, eval (Expr.Call (.Name "range" pr) [a, b, c] [] p') X.env) :: starEach [] X.env := by rfl) :
    PE X (.Call (.Name "list" pl) [.Call (.Name "range" pr) [a, b, c] [] p'] [] pos) (tListR3 ta) := by
  refine ⟨fun pins s σ H Q I h => ?_⟩
  refine Call_ (ld_blt I hl ml boot_list (PyProof.Rows.callWith_type1 (args_cons (thn (prg_3 hg hm ha hs hpl pins s σ H (fun i j c n H1 => n ≤ 2 ^ 24 ∧ ∀ q, H1 q = none → Q (.ref q) (upd H1 q (.lst (rgcV i c n)))) I h) fun x s1 ⟨r, i, j, k, n, t, u, v, H1, ex, hr, rc, I1, hn, q⟩ => args_nil ?_) na) na))
  subst ex
  refine call_list_range (n := n) (I1.ok.hd hc) hr rc.2.2.1 rc.2.2.2 hn fun h' tk acc c' hk e' hi => ?_
  refine ⟨.ref s1.heap.objs.size, upd H1 s1.heap.objs.size (.lst (rgcV i k n)), I1.laid hk (Nat.le_refl _) (show ObjOk X.prog X.w _ _ _ (.lst (rgcV i k n)) from ⟨?_, acc.toList, c', vals_rgc hi, ?_⟩), rfl, q _ (I1.hok.fresh (Nat.le_refl _))⟩
  · unfold rgcV; rw [List.length_map, List.length_range, sizeLine_eq]; omega
  · rw [Array.toArray_toList]; exact e'
theorem xListR3 (hc : X.calm = true) (hl : Gl X "list") (ml : X.mg "list" = none) (hg : Gl X "range") (hm : X.mg "range" = none) (ha : XA X E [a, b, c] da)
    (hs : starEach [a, b, c] X.env = (false, eval a X.env) :: starEach [b, c] X.env := by rfl) (hpl : (backTo p' (starEach [b, c] X.env)).any (·.1) = false := by rfl)
    (na : starEach [Expr.Call (.Name "range" pr) [a, b, c] [] p'] X.env = (false, eval (Expr.Call (.Name "range" pr) [a, b, c] [] p') X.env) :: starEach [] X.env := by rfl) :
    XEx X E (.Call (.Name "list" pl) [.Call (.Name "range" pr) [a, b, c] [] p'] [] pos) (dListR3 da) := .of (pe_listR3 hc hl ml hg hm ha.pa hs hpl na) fun B G0 H0 G H σ ρ I xe lx Q R kk q =>
  sA B G0 H0 G H σ ρ I xe lx _ _ (fun vs G' H' ds t r z => by
    split at z
    · obtain ⟨n, z1, z2, z3⟩ := z
      cases r with
      | cons r1 r =>
        cases r with
        | cons r2 r =>
          cases r with
          | cons r3 r =>
            cases r; cases r1; cases r2; cases r3
            exact ⟨_, _, _, n, rfl, z1, z2, (Stt.refl t.gh t.bag).lst (spanC_rg _ _ _) (fun v G3 H3 f t3 r3 q3 => kk v G3 H3 f (t.trans t3) r3 q3) z3⟩
    · exact z.elim) q
end

/-! ### a, b, c, .. = e -/
def gNames : List Nat → TGs
  | [] => gNil
  | i :: r => gCons (gName i) (gNames r)
def setAll : List Nat → List D → List Sl → List Sl
  | i :: r, x :: xs, ρ => setAll r xs (ρ.set i (.dd x))
  | _, _, ρ => ρ
def dUnpackN (is : List Nat) (de : DE) : DS := fun C ρ => de ρ C.xe fun d => match d with
  | .tup xs => xs.length = is.length ∧ C.nx (setAll is xs ρ)
  | _ => False
theorem sim_names {K : PySem.W.Frag} {B : Option Addr} {G0 H0 G H : Hp} : ∀ {is : List Nat} {xs : List D} {vs : List V} {σ : L2.St} {ρ : List Sl} {Q : L2.St → Hp → Prop}, xs.length = is.length → Reps K G vs xs → En K B G0 H0 G H σ ρ → (∀ σ', En K B G0 H0 G H σ' (setAll is xs ρ) → Q σ' H) → gNames is vs σ H Q
  | [], [], vs, σ, ρ, Q, _, r, I, k => by cases r; exact ⟨rfl, k σ I⟩
  | [], _ :: _, _, _, _, _, h, _, _, _ => by cases h
  | _ :: _, [], _, _, _, _, h, _, _, _ => by cases h
  | i :: is, x :: xs, vs, σ, ρ, Q, h, r, I, k => by
    cases r with
    | cons r1 r2 => exact ⟨_, _, rfl, sim_names (is := is) (by simpa using h) r2 (I.set r1) k⟩
theorem xs_unpackN {X : Cx} {E : XK} {is : List Nat} {n : Nat} {tg e : Expr} {de : DE} {pos : Pos} (hc : X.calm = true) (he : XEx X E e de) (hg : PG X tg (gTup X.K n (gNames is))) (hn : is.length = n := by rfl) (hs : swapsWithSole [tg] e pos.line X.env = pure false := by rfl) (hw : swappedStores [tg] e X.env = pure none := by rfl)
    (h1 : (assignEach [tg] X.env).map (·.2) = [assign tg X.env] := by rfl) : XS X E (.Assign [tg] e pos) (dUnpackN is de) := .of (ps_asg he.pe hg hs hw h1) fun B G0 H0 G H σ ρ I Gs sg D C l q =>
  sE B G0 H0 G H σ ρ I C.xe l.xe _ _ (fun v G' H' d t r z => by
    split at z
    · cases r with
      | tup a1 b1 => exact ⟨_, _, rfl, SqT.of (t.gh _ _ a1), by rw [b1.length, z.1, hn], sim_names z.1 b1 (I.step t) fun σ' I' => l.nx G' H' _ _ (sg.trans t.gg) I' z.2⟩
    · exact z.elim) q
end DL

namespace DL
open PySem PySem.Spec L2
open PyProof.Rows hiding St
/-! ### x = [e for ..], x's own -/
theorem sim_lcF {K : PySem.W.Frag} {E : XK} {wi : TI} {di : DI} {g : TG} {dg : DG} {vs : List Nat} {tt : TT} {dt : DT} {te : TE} {de : DE} (hi : SimI K E wi di) (hg : SimG K g dg vs) (ht : SimT K E0 tt dt) (he : SimE K E0 te de)
    {B : Option Addr} {G0 H0 G H : Hp} {σ : L2.St} {ρ : List Sl} (I : En K B G0 H0 G H σ ρ) (xe : XE) (lx : LinkX K B G0 H0 E xe) (Q : VK) (R : D → Prop)
    (k : ∀ v G' H' d, Stt B G H G' H' → Rep K G' v d → (∀ p, v = .ref p → H p = none) → R d → Q v H') (q : dLc di dg dt de vs ρ xe R) : tLc wi g tt te vs σ H Q := by
    refine hi B G0 H0 G H σ ρ I xe lx _ _ (fun J G1 H1 items t jok z => ?_) q
    obtain ⟨zl, W, w0, hs, hd⟩ := z
    intro D hD
    have I1 := I.step t
    have tD : Stt B G1 H1 G1 (upd H1 D (.lst [])) := I1.st.laid hD
    have g1D : G1 D = none := I1.st.gfree hD
    have nbD : B ≠ some D := fun e => by
      obtain ⟨_, _, _, _, _, _, h, _⟩ := I1.st.bag D e
      rw [hD] at h; cases h
    have h0D : H0 D = none := by
      cases z : H0 D with
      | none => rfl
      | some u => rw [I1.st.hh D u (fun z => nbD z.symm) z] at hD; cases hD
    -- at a turn: the state without D is that of an expression's end; D holds what is made
    refine ⟨fun i m H' => m = items.length - i ∧ i ≤ items.length ∧ ∃ G' acc vacc, Stt B G1 H1 G' H' ∧ G' D = none ∧ H' D = some (.lst vacc) ∧ Reps K G' vacc acc ∧ acc.length ≤ i ∧ W i acc,
      ⟨items.length, by simp, Nat.zero_le _, G1, [], [], ?_, g1D, upd_same, .nil, Nat.le_refl _, w0⟩, ?_⟩
    · exact tD
    rintro i m H' ⟨rfl, hle, G', acc, vacc, t', gD, hDv, ra, la, w⟩
    have jk := jok G' H' t'.gg t'.gh t'.bag i
    have put : ∀ {G2 H2 : Hp} {ws : List V}, Stt B G1 H1 G2 H2 → G2 D = none → Stt B G1 H1 G2 (upd H2 D (.lst ws)) := fun {G2 H2 ws} s g => by
      refine ⟨s.gg, fun a u h => ?_, fun a u n h => ?_, s.fr, fun b e => ?_, fun b e => ?_⟩
      · rw [upd_ne (ne_of_none h g)]; exact s.gh a u h
      · rw [upd_ne (ne_of_none h hD)]; exact s.hh a u n h
      · obtain ⟨g0, n, sd, j, c, cells, k1, k2, r⟩ := s.bag b e
        exact ⟨g0, n, sd, j, c, cells, by rw [upd_ne (fun z => nbD (by rw [e, z]))]; exact k1, k2, r⟩
      · rw [← s.bc b e]; unfold bagC; rw [upd_ne (fun z => nbD (by rw [e, z]))]
    have keepD : ∀ {G2 H2 G3 H3 : Hp} {ws : List V}, Stt B G2 H2 G3 H3 → G2 D = none → H2 D = some (.lst ws) → G3 D = none ∧ H3 D = some (.lst ws) := fun {G2 H2 G3 H3 ws} s g h => by
      refine ⟨?_, s.hh _ _ (fun z => nbD z.symm) h⟩
      cases z : G3 D with
      | none => rfl
      | some u =>
        rcases s.fr D u z with q | q
        · rw [g] at q; cases q
        · rw [h] at q; cases q
    by_cases hlt : i < items.length
    · obtain ⟨go, yl⟩ := jk.1 items[i] (List.getElem?_eq_getElem hlt)
      refine .inr ⟨go, fun H2 => ∃ G2 acc2 vacc2, Stt B G1 H1 G2 H2 ∧ G2 D = none ∧ H2 D = some (.lst vacc2) ∧ Reps K G2 vacc2 acc2 ∧ acc2.length ≤ i + 1 ∧ W (i + 1) acc2,
        fun H2 ⟨G2, acc2, vacc2, x1, x2, x3, x4, x5, x6⟩ => ⟨items.length - (i + 1), by omega, rfl, hlt, G2, acc2, vacc2, x1, x2, x3, x4, x5, x6⟩, fun x H2 y => ?_⟩
      obtain ⟨G2, t2, r2⟩ := yl x H2 y
      obtain ⟨g2D, h2D⟩ := keepD t2 gD hDv
      have Iw : En K B G0 H0 G2 H2 (L2.wipe σ vs) (dwipe ρ vs) := ((I1.step t').step t2).wipe vs
      refine hg B G0 H0 G2 H2 _ _ x _ Iw r2 _ _ (fun σ3 ρ3 I3 ew z => ?_) (hs i _ acc (List.getElem?_eq_getElem hlt) la w)
      refine ⟨by rw [ew]; exact wipe_wipe, ?_⟩
      refine ht B G0 H0 G2 H2 σ3 ρ3 I3 _ noX _ _ (fun b G4 H4 t4 z4 => ?_) z
      obtain ⟨g4D, h4D⟩ := keepD t4 g2D h2D
      cases b with
      | true =>
        show te σ3 H4 _
        refine he B G0 H0 G4 H4 σ3 ρ3 (I3.step t4) _ noX _ _ (fun v G5 H5 d t5 r5 z5 => ?_) z4
        obtain ⟨g5D, h5D⟩ := keepD t5 g4D h4D
        have all : Stt B G1 H1 G5 H5 := ((t'.trans t2).trans t4).trans t5
        have ra5 : Reps K G5 vacc acc := ra.mono ((t2.gg.trans t4.gg).trans t5.gg)
        refine ⟨vacc, h5D, ?_, G5, acc ++ [d], vacc ++ [v], put all g5D, g5D, upd_same, ra5.append (.cons r5 .nil), by rw [List.length_append]; simp; omega, z5⟩
        rw [ra.length]; omega
      | false =>
        exact ⟨G4, acc, vacc, (t'.trans t2).trans t4, g4D, h4D, ra.mono (t2.gg.trans t4.gg), by omega, z4⟩
    · have e : i = items.length := by omega
      subst e
      refine .inl ⟨jk.2 (Nat.le_refl _), ?_⟩
      -- the list stays from now on
      have sm : Same G' (upd G' D (.lst vacc)) := fun a u h => by rw [upd_ne (ne_of_none h gD)]; exact h
      refine k _ (upd G' D (.lst vacc)) H' (.lst acc) ?_ (.lst upd_same (ra.mono sm)) (fun p e => by cases e; exact t.before hD) (hd acc la w)
      refine t.trans ⟨t'.gg.trans sm, fun a u h => ?_, t'.hh, fun a u h => ?_, fun b e => ?_, t'.bc⟩
      · by_cases z : a = D
        · subst z; rw [upd_same] at h; cases h; exact hDv
        · rw [upd_ne z] at h; exact t'.gh a u h
      · by_cases z : a = D
        · subst z; exact .inr hD
        · rw [upd_ne z] at h; exact t'.fr a u h
      · obtain ⟨g0, n, sd, j, c, cells, k1, k2, r⟩ := t'.bag b e
        exact ⟨by rw [upd_ne (fun z => nbD (by rw [e, z]))]; exact g0, n, sd, j, c, cells, k1, sm _ _ k2, r⟩

def dLcO (i : Nat) (di : DI) (dg : DG) (dt : DT) (de : DE) (vs : List Nat) : DS := fun C ρ => dLc di dg dt de vs ρ C.xe (toOwn i C ρ)
theorem xs_setLcO {X : Cx} {E : XK} {i : Nat} {y : Str} {py : Pos} {elt tg iter : Expr} {ifs : List Expr} {scope : Scope} {own : List (Str × Nat)} {pos spos : Pos} {wi : TI} {di : DI} {g : TG} {dg : DG} {dt : DT} {de : DE} (hc : X.calm = true) (hN : X.N.Nodup) (hy : X.N[i]? = some y) (hyl : X.env.scope.names.lookup y = some .local)
    (hsw : swapsWith (.ListComp elt [⟨tg, iter, ifs, 0⟩] scope pos) (some (.Name y py)) spos.line X.env = pure true) (hi : XI X E tg iter wi di) (ok : BlkOk X.N X.env.scope scope own)
    (hg : ∀ (s : Shared) (H : Hp) (C : Addr) (cl : List (Str × Addr)) (fp : List Addr), PG (X.blk s H scope (compEnvC scope cl C X.env) fp) tg g) (sg : SimG X.K g dg (own.map (·.2)))
    (ht : ∀ (s : Shared) (H : Hp) (C : Addr) (cl : List (Str × Addr)) (fp : List Addr), XTs (X.blk s H scope (compEnvC scope cl C X.env) fp) E0 ifs dt)
    (he : ∀ (s : Shared) (H : Hp) (C : Addr) (cl : List (Str × Addr)) (fp : List Addr), XEx (X.blk s H scope (compEnvC scope cl C X.env) fp) E0 elt de) (hs : ∀ x, foldedSetIterable iter X.env x = pure x := by intro _; rfl) :
    XS X E (.Assign [.Name y py] (.ListComp elt [⟨tg, iter, ifs, 0⟩] scope pos) spos) (dLcO i di dg dt de (own.map (·.2))) :=
  .of (ps_setLc hc hN hy hyl hsw hi.pi ok hg (fun s H C cl fp => (ht s H C cl fp).pts) (fun s H C cl fp => (he s H C cl fp).pe) hs) fun B G0 H0 G H σ ρ I Gs sg' D C l q =>
    sim_lcF hi.sim sg sT sE I C.xe l.xe _ _ (fun v G' H' d t r fr z => by
      cases d with
      | lst ds => exact to_own I sg' l t r (dn_flat r fr (nols_iff.mpr z.1)) z
      | _ => exact z.elim) q
end DL

namespace DL
open PySem PySem.Spec L2
open PyProof.Rows hiding St
/-! ### which places show a place -/
def showL (l c p : Nat) : List Nat := if p < c then [p, p + c] else if p = c then [2 * c] else [p + c, p + l]
theorem mk_get {w : List Nat} {p j : Nat} (h : p < w.length) (hj : j < 2 * w.length - 1) : (mk w p)[j]? = w[shownN (w.length - 1) p j]? := by
  unfold mk shownN
  have e1 : (w.take p).length = p := by rw [List.length_take]; omega
  have e2 : (w.drop (p + 1)).length = w.length - (p + 1) := List.length_drop
  rw [List.getElem?_eq_getElem h]
  show (w.take p ++ w.take p ++ [w[p]] ++ w.drop (p + 1) ++ w.drop (p + 1))[j]? = _
  by_cases c1 : j < p
  · rw [if_pos c1, List.append_assoc, List.append_assoc, List.append_assoc, List.getElem?_append_left (by omega), List.getElem?_take_of_lt c1]
  · rw [if_neg c1]
    by_cases c2 : j < 2 * p
    · rw [if_pos (by omega), List.append_assoc, List.append_assoc, List.append_assoc, List.getElem?_append_right (by omega), List.getElem?_append_left (by omega), e1, List.getElem?_take_of_lt (by omega)]
    · by_cases c3 : j = 2 * p
      · rw [if_pos (by omega), List.append_assoc, List.append_assoc, List.getElem?_append_right (by rw [List.length_append]; omega)]
        rw [show j - (w.take p ++ w.take p).length = 0 by rw [List.length_append]; omega, show j - p = p by omega, List.getElem?_eq_getElem h]; rfl
      · by_cases c4 : j ≤ p + (w.length - 1)
        · rw [if_pos c4, List.append_assoc, List.getElem?_append_right (by simp only [List.length_append, List.length_cons, List.length_nil]; omega), List.getElem?_append_left (by simp only [List.length_append, List.length_cons, List.length_nil]; omega), List.getElem?_drop]
          congr 1
          simp only [List.length_append, List.length_cons, List.length_nil]; omega
        · rw [if_neg c4, List.getElem?_append_right (by simp only [List.length_append, List.length_cons, List.length_nil]; omega), List.getElem?_drop]
          congr 1
          simp only [List.length_append, List.length_cons, List.length_nil]; omega
theorem shown_lt {l c j : Nat} (h : c ≤ l) (hj : j < 2 * l + 1) : shownN l c j < l + 1 := by unfold shownN; split <;> (try split) <;> omega
theorem show_mem {l c p j : Nat} (h : c ≤ l) (hp : p ≤ l) : j ∈ showL l c p ↔ (j < 2 * l + 1 ∧ shownN l c j = p) := by
  unfold showL shownN
  by_cases a : p < c
  · rw [if_pos a]; simp only [List.mem_cons, List.not_mem_nil, or_false]
    constructor
    · rintro (rfl | rfl)
      · exact ⟨by omega, if_pos a⟩
      · refine ⟨by omega, ?_⟩; rw [if_neg (by omega), if_pos (by omega)]; omega
    · rintro ⟨g, k⟩; split at k <;> (try split at k) <;> omega
  · rw [if_neg a]
    by_cases b : p = c
    · rw [if_pos b]; simp only [List.mem_cons, List.not_mem_nil, or_false]
      constructor
      · rintro rfl; refine ⟨by omega, ?_⟩
        by_cases z : 2 * c < c
        · omega
        · rw [if_neg z, if_pos (by omega)]; omega
      · rintro ⟨g, k⟩; split at k <;> (try split at k) <;> omega
    · rw [if_neg b]; simp only [List.mem_cons, List.not_mem_nil, or_false]
      constructor
      · rintro (rfl | rfl)
        · refine ⟨by omega, ?_⟩; rw [if_neg (by omega), if_pos (by omega)]; omega
        · refine ⟨by omega, ?_⟩; rw [if_neg (by omega), if_neg (by omega)]; omega
      · rintro ⟨g, k⟩; split at k <;> (try split at k) <;> omega
theorem show_len (l c p : Nat) : (showL l c p).length ≤ 2 := by
  unfold showL
  split
  · exact Nat.le_refl 2
  · split
    · exact (by decide : 1 ≤ 2)
    · exact Nat.le_refl 2
theorem show_nodup {l c p : Nat} (h : c ≤ l) (hp : p ≤ l) : (showL l c p).Nodup := by
  unfold showL
  by_cases a : p < c
  · rw [if_pos a]; simp; omega
  · rw [if_neg a]
    by_cases b : p = c
    · rw [if_pos b]; simp
    · rw [if_neg b]; simp; omega
theorem every_perm {l c : Nat} (h : c ≤ l) : ((List.range (l + 1)).flatMap (showL l c)).Perm (List.range (2 * l + 1)) := by
  refine (List.perm_ext_iff_of_nodup ?_ List.nodup_range).mpr fun j => ?_
  · refine List.pairwise_flatMap.mpr ⟨fun p hp => show_nodup h (by have := List.mem_range.mp hp; omega), ?_⟩
    have : (List.range (l + 1)).Pairwise (· < ·) := List.pairwise_lt_range
    refine (List.Pairwise.and_mem.mp this).imp fun {a b} hab x hx y hy e => ?_
    obtain ⟨ha, hb, lt⟩ := hab
    have h1 := (show_mem h (by have := List.mem_range.mp ha; omega)).mp hx
    have h2 := (show_mem h (by have := List.mem_range.mp hb; omega)).mp hy
    subst e
    omega
  · rw [List.mem_flatMap, List.mem_range]
    constructor
    · rintro ⟨p, hp, hj⟩
      exact ((show_mem h (by have := List.mem_range.mp hp; omega)).mp hj).1
    · intro hj
      have := shown_lt h hj
      exact ⟨shownN l c j, List.mem_range.mpr this, (show_mem h (by omega)).mpr ⟨hj, rfl⟩⟩
theorem last_range {n : Nat} {P : Nat → Bool} {x : Nat} : ((List.range n).filter P).getLast? = some x ↔ x < n ∧ P x = true ∧ ∀ y, x < y → y < n → P y = false := by
  induction n with
  | zero => simp
  | succ n ih =>
    rw [List.range_succ, List.filter_append]
    by_cases h : P n = true
    · have e : List.filter P [n] = [n] := by simp [h]
      rw [e, List.getLast?_append]
      simp only [List.getLast?_singleton, Option.some_or, Option.some.injEq]
      constructor
      · rintro rfl; exact ⟨by omega, h, fun y h1 h2 => by omega⟩
      · rintro ⟨h1, h2, h3⟩
        rcases Nat.lt_or_ge x n with l | l
        · rw [h3 n l (by omega)] at h; cases h
        · omega
    · have e : List.filter P [n] = [] := by simp [h]
      rw [e, List.append_nil, ih]
      constructor
      · rintro ⟨h1, h2, h3⟩
        refine ⟨by omega, h2, fun y a b => ?_⟩
        by_cases z : y = n
        · subst z; simpa using h
        · exact h3 y a (by omega)
      · rintro ⟨h1, h2, h3⟩
        refine ⟨?_, h2, fun y a b => h3 y a (by omega)⟩
        by_cases z : x = n
        · subst z; exact absurd h2 h
        · omega

theorem head_range {n : Nat} {P : Nat → Bool} {x : Nat} : ((List.range n).filter P).head? = some x ↔ x < n ∧ P x = true ∧ ∀ y, y < x → P y = false := by
  rw [List.head?_filter, List.find?_range_eq_some, List.mem_range]
  constructor
  · rintro ⟨a, b, c⟩; exact ⟨b, a, fun y h => by simpa using c y h⟩
  · rintro ⟨a, b, c⟩; exact ⟨b, a, fun y h => by simpa using c y h⟩
/-! ### where two rows differ -/
def df (a b : List Nat) (i : Nat) : Bool := !decide (a[i]? = b[i]?)
def unl (a b : List Nat) : List Nat := (List.range a.length).filter (df a b)
def showH (c p : Nat) : Nat := if p < c then p else if p = c then 2 * c else p + c
def showT (l c p : Nat) : Nat := if p < c then p + c else if p = c then 2 * c else p + l
section
variable {a b : List Nat} {c x : Nat}
theorem df_mk {j : Nat} (hl : a.length = b.length) (hc : c < a.length) (hj : j < 2 * a.length - 1) : df (mk a c) (mk b c) j = df a b (shownN (a.length - 1) c j) := by
  unfold df
  rw [mk_get hc hj, mk_get (by omega) (by omega), ← hl]
theorem unl_head (hl : a.length = b.length) (hc : c < a.length) (h : (unl a b).head? = some x) : (unl (mk a c) (mk b c)).head? = some (showH c x) := by
  unfold unl at h ⊢
  obtain ⟨h1, h2, h3⟩ := head_range.mp h
  have e := mk_len hc
  have s1 : showH c x < 2 * a.length - 1 := by unfold showH; split <;> (try split) <;> omega
  refine head_range.mpr ⟨by rw [e]; exact s1, ?_, fun y hy => ?_⟩
  · have e2 : shownN (a.length - 1) c (showH c x) = x := by
      unfold showH shownN
      split <;> (try split) <;> (try split) <;> (try split) <;> omega
    rw [df_mk hl hc s1, e2]; exact h2
  · rw [df_mk hl hc (by omega)]
    refine h3 _ ?_
    unfold showH at hy
    unfold shownN
    split at hy <;> (try split at hy) <;> split <;> (try split) <;> omega
theorem unl_last (hl : a.length = b.length) (hc : c < a.length) (h : (unl a b).getLast? = some x) : (unl (mk a c) (mk b c)).getLast? = some (showT (a.length - 1) c x) := by
  unfold unl at h ⊢
  obtain ⟨h1, h2, h3⟩ := last_range.mp h
  have e := mk_len hc
  have s1 : showT (a.length - 1) c x < 2 * a.length - 1 := by unfold showT; split <;> (try split) <;> omega
  refine last_range.mpr ⟨by rw [e]; exact s1, ?_, fun y hy hy2 => ?_⟩
  · have e2 : shownN (a.length - 1) c (showT (a.length - 1) c x) = x := by
      unfold showT shownN
      split <;> (try split) <;> (try split) <;> (try split) <;> omega
    rw [df_mk hl hc s1, e2]; exact h2
  · rw [e] at hy2
    rw [df_mk hl hc (by omega)]
    refine h3 _ ?_ ?_
    · unfold showT at hy
      unfold shownN
      split at hy <;> (try split at hy) <;> split <;> (try split) <;> omega
    · have := shown_lt (l := a.length - 1) (c := c) (j := y) (by omega) (by omega)
      omega
def wgt (P : Nat → Bool) (c p : Nat) : Nat := if P p = true then (if p = c then 1 else 2) else 0
theorem wgt_sum (P : Nat → Bool) (c : Nat) : ∀ n, ((List.range n).map (wgt P c)).sum + (if c < n ∧ P c = true then 1 else 0) = 2 * (List.range n).countP P
  | 0 => by simp
  | n + 1 => by
    have ih := wgt_sum P c n
    rw [List.range_succ, List.map_append, List.sum_append, List.countP_append]
    have e1 : ((List.map (wgt P c) [n]).sum) = wgt P c n := by simp
    have e2 : List.countP P [n] = if P n = true then 1 else 0 := by simp [List.countP_cons]
    have ew : wgt P c n = (if P n = true then (if n = c then 1 else 2) else 0) := rfl
    rw [e1, e2, ew]
    by_cases h : P n = true
    · rw [if_pos h, if_pos h]
      by_cases z : n = c
      · subst z
        rw [if_pos rfl, if_pos ⟨by omega, h⟩]
        rw [if_neg (by omega)] at ih
        omega
      · rw [if_neg z]
        by_cases y : c < n ∧ P c = true
        · rw [if_pos y] at ih; rw [if_pos ⟨by omega, y.2⟩]; omega
        · rw [if_neg y] at ih; rw [if_neg (fun q => y ⟨by omega, q.2⟩)]; omega
    · rw [if_neg h, if_neg h]
      by_cases y : c < n ∧ P c = true
      · rw [if_pos y] at ih; rw [if_pos ⟨by omega, y.2⟩]; omega
      · rw [if_neg y] at ih
        rw [if_neg (fun q => by
          by_cases z : n = c
          · subst z; exact h q.2
          · exact y ⟨by omega, q.2⟩)]
        omega
theorem unl_len (hl : a.length = b.length) (hc : c < a.length) : (unl (mk a c) (mk b c)).length + (if df a b c = true then 1 else 0) = 2 * (unl a b).length := by
  unfold unl
  rw [← List.countP_eq_length_filter, ← List.countP_eq_length_filter, mk_len hc]
  have pm := every_perm (l := a.length - 1) (c := c) (by omega)
  have e0 : 2 * (a.length - 1) + 1 = 2 * a.length - 1 := by omega
  have e1 : a.length - 1 + 1 = a.length := by omega
  rw [e0, e1] at pm
  rw [← pm.countP_eq, List.countP_flatMap]
  have ws := wgt_sum (df a b) c a.length
  have e2 : (List.map (List.countP (df (mk a c) (mk b c)) ∘ showL (a.length - 1) c) (List.range a.length)) = (List.range a.length).map (wgt (df a b) c) := by
    refine List.map_congr_left fun p hp => ?_
    have pl := List.mem_range.mp hp
    have all : ∀ j ∈ showL (a.length - 1) c p, df (mk a c) (mk b c) j = df a b p := fun j hj => by
      have m := (show_mem (l := a.length - 1) (c := c) (p := p) (by omega) (by omega)).mp hj
      rw [df_mk hl hc (by omega), m.2]
    show List.countP _ (showL (a.length - 1) c p) = _
    unfold wgt
    by_cases h : df a b p = true
    · rw [if_pos h, List.countP_eq_length.mpr fun j hj => by rw [all j hj]; exact h]
      unfold showL
      split
      · rw [if_neg (by omega)]; rfl
      · split
        · rfl
        · rfl
    · rw [if_neg h, List.countP_eq_zero]
      intro j hj
      rw [all j hj]; exact h
  rw [e2]
  have e3 : (if c < a.length ∧ df a b c = true then 1 else 0) = (if df a b c = true then 1 else 0) := by
    by_cases z : df a b c = true
    · rw [if_pos z, if_pos ⟨hc, z⟩]
    · rw [if_neg z, if_neg (fun q => z q.2)]
  rw [e3] at ws
  exact ws
end
/-! ### the letters of a long row -/
theorem pth_snoc {l : Nat} {st : List Nat} {c p : Nat} : ∀ i, i ≤ st.length → pth l (st ++ [c]) p (i + 1) = pth l st (shownN (l * 2 ^ st.length) c p) i
  | 0, _ => by
    show shownN (l * 2 ^ ((st ++ [c]).length - 1)) ((st ++ [c]).getD ((st ++ [c]).length - 1 - 0) 0) p = _
    have e : (st ++ [c]).length = st.length + 1 := by simp
    rw [e]
    have g : (st ++ [c]).getD (st.length + 1 - 1 - 0) 0 = c := by simp [List.getD_eq_getElem?_getD]
    rw [g]; rfl
  | i + 1, h => by
    have ih := pth_snoc (l := l) (st := st) (c := c) (p := p) i (by omega)
    show shownN (l * 2 ^ ((st ++ [c]).length - (i + 1 + 1))) ((st ++ [c]).getD ((st ++ [c]).length - 1 - (i + 1)) 0) (pth l (st ++ [c]) p (i + 1)) = shownN (l * 2 ^ (st.length - (i + 1))) (st.getD (st.length - 1 - i) 0) _
    have e : (st ++ [c]).length = st.length + 1 := by simp
    rw [ih, e]
    have g : (st ++ [c]).getD (st.length + 1 - 1 - (i + 1)) 0 = st.getD (st.length - 1 - i) 0 := by
      rw [List.getD_eq_getElem?_getD, List.getD_eq_getElem?_getD, List.getElem?_append_left (by omega)]
      congr 2; omega
    rw [g, show st.length + 1 - (i + 1 + 1) = st.length - (i + 1) by omega]
theorem rootP_snoc {l : Nat} {st : List Nat} {c p : Nat} : rootP l (st ++ [c]) p = rootP l st (shownN (l * 2 ^ st.length) c p) := by
  unfold rootP
  have e : (st ++ [c]).length = st.length + 1 := by simp
  rw [e]
  exact pth_snoc st.length (Nat.le_refl _)
theorem okS_init {l : Nat} {st : List Nat} {c : Nat} (h : okS l (st ++ [c])) : okS l st ∧ c ≤ l * 2 ^ st.length := by
  refine ⟨?_, h.get (i := st.length) (by simp)⟩
  have := h.take st.length
  rwa [List.take_left] at this
theorem mks_get {w : List Nat} (hw : 1 ≤ w.length) : ∀ (n : Nat) {st : List Nat} {p : Nat}, st.length = n → okS (w.length - 1) st → p ≤ (w.length - 1) * 2 ^ st.length → (mks w st)[p]? = w[rootP (w.length - 1) st p]?
  | 0, st, p, hn, _, _ => by
    have : st = [] := List.length_eq_zero_iff.mp hn
    subst this; rfl
  | n + 1, st, p, hn, hs, hp => by
    rcases nil_or (st := st) with e | ⟨qs, c, e⟩
    · subst e; cases hn
    · subst e
      have ql : qs.length = n := by simpa using hn
      obtain ⟨h1, h2⟩ := okS_init hs
      have lm := mks_len hw h1
      have p2 : p ≤ 2 * ((w.length - 1) * 2 ^ qs.length) := by
        rw [List.length_append] at hp
        have : (w.length - 1) * 2 ^ (qs.length + [c].length) = 2 * ((w.length - 1) * 2 ^ qs.length) := by
          show (w.length - 1) * 2 ^ (qs.length + 1) = _
          rw [Nat.pow_succ, ← Nat.mul_assoc, Nat.mul_comm]
        rwa [this] at hp
      rw [mks_snoc, mk_get (by omega) (by omega), rootP_snoc]
      rw [show (mks w qs).length - 1 = (w.length - 1) * 2 ^ qs.length by omega]
      exact mks_get hw n ql h1 (shownN_lt h2 p2)
end DL

namespace DL
open PySem PySem.Spec L2
open PyProof.Rows hiding St

/-! ### try: o.m(e, ..) except T as n: the suite sees the names as they stood -/
theorem go_fnS {X : Cx} {k : Nat} {f : Addr} {fd : FuncData} {ps : List Str} {sp : Sp} {E : XK} {pins : List (Addr × Obj)} {σ : L2.St} {H : Hp} {s : Shared} {Q : VK} {us : List Value} {vs : List V} (F : FnG X.prog X.w X.K X.mg X.base k f fd ps sp) (rg : RmG k X.A) (hb : Binds X.K fd ps []) (hx : PassesAt (L2.CX X.prog X.w) X σ E)
    (I : Inv X pins σ H s) (r : Vals vs us) (h : sp vs H Q E) : wpAny (model X.prog X.w) X.A (call (.ref f) us) (EP X pins σ Q) X.xe s := by
  have n1 : (us ++ ([] : List Value)).length = ps.length := by rw [List.append_nil, ← r.length]; exact F.len _ _ _ _ h
  have bt := hb s us I.kIn n1
  rw [List.append_nil] at bt
  refine wpAny_call (codeAny_mono (F.go X.A X.stack s H ⟨us, []⟩ us vs Q E rg I.env0 bt r h) fun res s2 z => ?_)
  match res, z with
  | .error e, z => exact hx pins H s e s2 I z
  | .ok (.ret u), z => exact I.after z
  | .ok .next, z => exact False.elim z
  | .ok .brk, z => exact False.elim z
  | .ok .cont, z => exact False.elim z
def tMethS (C : Addr) (m : Str) (sp : Sp) (W : WX) (ta : TE) (t : TA) : TE := fun σ H Q => ta σ H fun x H1 => ∃ a dx fs, x = .ref a ∧ H1 a = some (.ins C dx fs) ∧ fs.lookup m = none ∧ t σ H1 fun vs H2 => sp (x :: vs) H2 Q (WE W σ)
section
variable {X : Cx} {E : XK} {e o : Expr} {es : List Expr} {f m x : Str} {C : Addr} {pos apos p : Pos} {de : DE} {da : DA} {k : Nat} {fa : Addr} {fd : FuncData} {ps : List Str}
theorem pe_methS {ta : TE} {t : TA} {sp : Sp} {W : WX} {pl : Sem Bool} (he : PE X o ta) (c : L2.Cls X.K C) (hm : Meth X.K C m fa) (F : FnG X.prog X.w X.K X.mg X.base k fa fd ps sp) (rg : RmG k X.A) (hb : Binds X.K fd ps []) (hx : ∀ σ, PassesAt (L2.CX X.prog X.w) X σ (WE W σ)) (ha : PA X (e :: es) t)
    (hst : starEach (e :: es) X.env = (false, eval e X.env) :: starEach es X.env := by rfl) (hpl : (backTo pos (starEach es X.env)).any (·.1) = false := by rfl)
    (ht : eval (.Call (.Attribute o m apos) (e :: es) [] pos) X.env = (do
      let ov ← eval o X.env
      standAt apos.atName
      let (f, first) ← holding [ov] (getMethod ov m pl)
      callWith pos f first (backTo pos (starEach (e :: es) X.env)) (backToKw pos (keywordEach [] X.env))) := by rfl) :
    PE X (.Call (.Attribute o m apos) (e :: es) [] pos) (tMethS C m sp W ta t) := by
  refine ⟨fun pins s σ H Q I h => ?_⟩
  refine PySem.W.methodCall_KW (pl := pl) (thn (he.run pins s σ H _ I h) fun u s1 ⟨x, H1, I1, rx, a, dx, fs, ex, ea, l, q⟩ => ?_) ht
  subst ex
  obtain rfl : u = Value.ref a := rx
  refine getmeth_ok I1 ea c hm l ?_
  refine PySem.W.callWith_K (first := [.ref a]) (h₀ := X.base) I.ok.mod.kin hm.kp (thn (ha.run pos pins s1 σ H1 _ I1 q) fun us s2 ⟨vs, H2, I2, r, q2⟩ => ⟨I2.kIn, ?_⟩) hst hpl
  exact go_fnS (us := .ref a :: us) (vs := .ref a :: vs) F rg hb (hx σ) I2 (.cons rfl r) q2
end
theorem En.setEx {K : PySem.W.Frag} {B : Option Addr} {G0 H0 G H : Hp} {σ : L2.St} {ρ : List Sl} {i : Nat} {a : Addr} {d : Option Addr} {er : Er} (I : En K B G0 H0 G H σ ρ) (r : er.fs = [] ∨ ∃ dx fs, d = some dx ∧ G dx = some (.xd fs) ∧ fs.map (·.1) = er.fs.map (·.1) ∧ Reps K G (fs.map (·.2)) (er.fs.map (·.2))) : En K B G0 H0 G H (σ.set i (some (.ref a))) (ρ.set i (.ex a d er)) := by
  refine ⟨I.st, pset (.ex r) i I.sl, fun j k p x y e1 e2 e3 e4 => ?_⟩
  have nj : j ≠ i := fun z => by
    subst z
    by_cases l : j < ρ.length
    · rw [List.getElem?_set_self l] at e1; cases e1
    · rw [List.getElem?_eq_none (by simpa using l)] at e1; cases e1
  have nk : k ≠ i := fun z => by
    subst z
    by_cases l : k < ρ.length
    · rw [List.getElem?_set_self l] at e2; cases e2
    · rw [List.getElem?_eq_none (by simpa using l)] at e2; cases e2
  rw [List.getElem?_set_ne nj.symm] at e1 e3
  rw [List.getElem?_set_ne nk.symm] at e2 e4
  exact I.ap j k p x y e1 e2 e3 e4
theorem En.addx {K : PySem.W.Frag} {B : Option Addr} {G0 H0 G H : Hp} {σ : L2.St} {ρ : List Sl} {dx : Addr} {fs : List (Str × V)} (I : En K B G0 H0 G H σ ρ) (h : H dx = some (.xd fs)) (h0 : H0 dx = none) : En K B G0 H0 (upd G dx (.xd fs)) H σ ρ := by
  obtain ⟨st2, sm⟩ := I.st.addx h h0
  refine ⟨st2, pmap I.sl fun o s j _ _ q => ?_, I.ap⟩
  cases q with
  | un => exact .un
  | dd r => exact .dd (r.mono sm)
  | bg e => exact .bg e
  | fz a r h0 nb => exact .fz (sm _ _ a) (r.mono sm) h0 nb
  | ex h => exact .ex (exMono sm h)
  | pin r => exact .pin (r.mono sm)
  | nw r n => exact .nw (r.mono sm) (n.mono (fun _ h => h) sm)
  | @odk p kvs ks ds a k r g h1 nb =>
    have g2 : upd G dx (.xd fs) p = none := by
      by_cases z : p = dx
      · subst z; rw [a] at h; cases h
      · rw [upd_ne z]; exact g
    exact .odk a k (r.mono sm) g2 h1 nb
  | @own p vs ds a r g h1 nb =>
    have g2 : upd G dx (.xd fs) p = none := by
      by_cases z : p = dx
      · subst z; rw [a] at h; cases h
      · rw [upd_ne z]; exact g
    exact .own a (r.mono sm) g2 h1 nb
def dTryX (cls : List Addr) (i : Nat) (C0 : Addr) (m : Str) (S : DSp) (do_ : DE) (da : DA) (dh : Addr → Addr → Addr → DS) : DS := fun C ρ => do_ ρ (fun _ => False) fun d => match d with
  | .ins C' ks xs => C' = C0 ∧ m ∉ ks ∧ da ρ (fun _ => False) fun ds => S (.ins C' ks xs :: ds)
      (fun er => er.cls ∈ cls ∧ er.fs ≠ [] ∧ ∀ a dx, dh a er.cls dx { C with nx := fun _ => False, bk := fun _ => False, ct := fun _ => False, xe := fun _ => False } (ρ.set i (.ex a (some dx) er))) (fun _ => C.nx ρ)
  | _ => False
theorem xs_tryX {X : Cx} {E : XK} {x n m : Str} {c : Value} {i k : Nat} {suite : List Stmt} {b₀ : Stmt} {o e : Expr} {es : List Expr} {fa C0 : Addr} {fd : FuncData} {ps : List Str} {S : DSp} {np pos pos' apos cpos epos : Pos} {cls : List Addr} {do_ : DE} {da : DA} {dh : Addr → Addr → Addr → DS}
    (hs : X.stack = X.env :: X.outer) (hf : X.env.frame = some X.env.locals) (hN : X.N.Nodup) (hi : X.N[i]? = some n) (hln : X.env.kindOf n = some .local) (hc : Names X x c) (tk : Takes X fun c d _ H => E c d H)
    (hcl : ∀ D ∈ cls, ErF X.K c D)
    (cl : L2.Cls X.K C0) (hm : Meth X.K C0 m fa) (F : FnG X.prog X.w X.K X.mg X.base k fa fd ps (spN X.K S)) (rg : RmG k X.A) (hb : Binds X.K fd ps [])
    (ho : ∀ (E' : XK) (pn : List (Addr × Obj)) (xe : Value → Shared → Prop), XEx (X.tr pn xe) E' o do_) (ha : ∀ (E' : XK) (pn : List (Addr × Obj)) (xe : Value → Shared → Prop), XA (X.tr pn xe) E' (e :: es) da)
    (hsu : ∀ (a : Addr) (oe : Obj) (D dx : Addr) (pn : List (Addr × Obj)), D ∈ cls → ErF X.K c D → Zc (.ref D) (some dx) oe → (∃ vs, oe.data = .fields vs) → XSs (X.suite a ((a, oe) :: pn)) (fun _ _ _ => False) (b₀ :: suite) (dh a D dx))
    (hst : ∀ (pn : List (Addr × Obj)) (xe : Value → Shared → Prop), starEach (e :: es) (X.tr pn xe).env = (false, eval e (X.tr pn xe).env) :: starEach es (X.tr pn xe).env := by intros; rfl) (hpl : ∀ (pn : List (Addr × Obj)) (xe : Value → Shared → Prop), (backTo cpos (starEach es (X.tr pn xe).env)).any (·.1) = false := by intros; rfl)
    {pl : List (Addr × Obj) → (Value → Shared → Prop) → Sem Bool} (ht : ∀ (pn : List (Addr × Obj)) (xe : Value → Shared → Prop), eval (.Call (.Attribute o m apos) (e :: es) [] cpos) (X.tr pn xe).env = (do
      let ov ← eval o (X.tr pn xe).env
      standAt apos.atName
      let (f, first) ← holding [ov] (getMethod ov m (pl pn xe))
      callWith cpos f first (backTo cpos (starEach (e :: es) (X.tr pn xe).env)) (backToKw cpos (keywordEach [] (X.tr pn xe).env))) := by intros; rfl)
    (hsw : ∀ (pn : List (Addr × Obj)) (xe : Value → Shared → Prop), swapsWith (.Call (.Attribute o m apos) (e :: es) [] cpos) none epos.line (X.tr pn xe).env = pure false := by intros; rfl) :
    XS X E (.Try [.Expr (.Call (.Attribute o m apos) (e :: es) [] cpos) epos] [.ExceptHandler (some (.Name x np)) (some n) (b₀ :: suite) pos'] [] [] pos) (dTryX cls i C0 m S do_ da dh) := by
  let ts : Addr → Value → Option Addr → TS := fun a cv d D σ H => ∃ D0 dx, cv = .ref D0 ∧ d = some dx ∧ D0 ∈ cls ∧ cS X.K (fun _ _ _ => False) (dh a D0 dx) D σ H
  refine .of (ps_try_as (tb := fun W => tDrop (tMethS C0 m (spN X.K S) W (cE X.K (fun _ _ _ => False) do_) (cA X.K (fun _ _ _ => False) da))) (ts := ts) (Wout := fun c d _ H => E c d H) hs hf hN hi hln hc tk
    (fun W pn xe tkW po => pss_one (ps_expr (pe_methS (pl := pl pn xe) (X := X.tr pn xe) (ho _ pn xe).pe cl hm F rg hb (fun σ => passAt tkW σ) (ha _ pn xe).pa (hst pn xe) (hpl pn xe) (ht pn xe)) (hsw pn xe))) (fun a oe cv d pn hz hd => ⟨fun pins s σ H D I q => ?_⟩)) ?_
  · obtain ⟨D0, dx, e1, e2, hm', q⟩ := q
    subst e1; subst e2
    exact (hsu a oe D0 dx pn hm' (hcl D0 hm') hz hd).ps.run pins s σ H D I q
  · intro B G0 H0 G H σ ρ I Gs sg D C l q
    refine sE B G0 H0 G H σ ρ I (fun _ => False) noX _ _ (fun v G1 H1 d t1 r1 z => ?_) q
    split at z
    · obtain ⟨rfl, z1, z2⟩ := z
      cases r1 with
      | ins a b =>
        refine ⟨_, _, _, rfl, t1.gh _ _ a, no_key z1, ?_⟩
        refine sA B G0 H0 G1 H1 σ ρ (I.step t1) (fun _ => False) noX _ _ (fun vs G' H' ds t r z => ?_) z2
        have I' := (I.step t1).step t
        refine ⟨B, G', _, (fun er => er.cls ∈ cls ∧ er.fs ≠ [] ∧ ∀ a dx, dh a er.cls dx { C with nx := fun _ => False, bk := fun _ => False, ct := fun _ => False, xe := fun _ => False } (ρ.set i (.ex a (some dx) er))), _, .cons (.ins (t.gg _ _ a) (b.mono t.gg)) r, Stt.refl t.gh t.bag, ?_, z, fun v G2 H2 d t2 r2 z2 => l.nx G2 H2 σ ρ (sg.trans ((t1.trans t).trans t2).gg) (I'.step t2) z2⟩
        intro er G2 H2 d st fo z
        obtain ⟨z1, z2, z3⟩ := z
        rcases fo with fo | ⟨dx, fs, e1, e2, e3, e4, e5⟩
        · exact absurd fo z2
        subst e1
        refine ⟨true, (hcl _ z1).mt, fun _ a ha => ?_, fun h => by cases h⟩
        have I2 := I'.step st
        have h0 : H0 dx = none := I'.st.before e5
        have I3 := I2.addx e2 h0
        have I4 := I3.setEx (i := i) (a := a) (d := some dx) (er := er) (.inr ⟨dx, fs, rfl, upd_same, e3, e4.mono (I2.st.addx e2 h0).2⟩)
        exact ⟨er.cls, dx, rfl, rfl, z1, B, G0, H0, _, _, _, { C with nx := fun _ => False, bk := fun _ => False, ct := fun _ => False, xe := fun _ => False }, I4, Same.refl _, ⟨fun _ _ _ _ _ _ z => z.elim, fun _ _ _ _ _ _ z => z.elim, fun _ _ _ _ _ _ z => z.elim, l.rt, fun _ _ _ _ _ _ z => z.elim, l.rf⟩, z3 a dx⟩
    · exact z.elim
end DL

namespace DL
open PySem PySem.Spec L2
open PyProof.Rows hiding St
/-! ### return list(range(a, b, c)), fresh -/
theorem spanC_nol {i c : Int} {n : Nat} : nols (spanC i c n) = true := nols_iff.mpr fun d h => by
  unfold spanC at h
  obtain ⟨_, _, rfl⟩ := List.mem_map.mp h
  rfl
def dRetR3 (da : DA) : DS := fun C ρ => da ρ C.xe fun ds => match ds with
  | [.int i, .int j, .int c] => ∃ n : Nat, RgC i j c n ∧ n ≤ 2 ^ 24 ∧ C.rf (.lst (spanC i c n))
  | _ => False
theorem xs_retR3 {X : Cx} {E : XK} {a b c : Expr} {da : DA} {p' pos pl pr pos' : Pos} (hc : X.calm = true) (hl : Gl X "list") (ml : X.mg "list" = none) (hg : Gl X "range") (hm : X.mg "range" = none) (ha : XA X E [a, b, c] da)
    (hs : starEach [a, b, c] X.env = (false, eval a X.env) :: starEach [b, c] X.env := by rfl) (hpl : (backTo p' (starEach [b, c] X.env)).any (·.1) = false := by rfl)
    (na : starEach [Expr.Call (.Name "range" pr) [a, b, c] [] p'] X.env = (false, eval (Expr.Call (.Name "range" pr) [a, b, c] [] p') X.env) :: starEach [] X.env := by rfl) :
    XS X E (.Return (some (.Call (.Name "list" pl) [.Call (.Name "range" pr) [a, b, c] [] p'] [] pos)) pos') (dRetR3 da) := .of (ps_ret (pe_listR3 hc hl ml hg hm ha.pa hs hpl na)) fun B G0 H0 G H σ ρ I Gs sg D C l q =>
  sA B G0 H0 G H σ ρ I C.xe l.xe _ _ (fun vs G' H' ds t r z => by
    split at z
    · obtain ⟨n, z1, z2, z3⟩ := z
      cases r with
      | cons r1 r =>
        cases r with
        | cons r2 r =>
          cases r with
          | cons r3 r =>
            cases r; cases r1; cases r2; cases r3
            rename_i i0 j0 c0
            refine ⟨_, _, _, n, rfl, z1, z2, fun p hp => ?_⟩
            have I' := I.step t
            have n' := I'.st.new (o := .lst (rgcV i0 c0 n)) hp
            exact l.rf (.ref p) (.lst (spanC i0 c0 n)) _ _ (I'.st.trans n') (.lst upd_same ((spanC_rg i0 c0 n).mono n'.gg)) (.lst (I'.st.before hp) upd_same (DNs.flat (spanC_rg (K := X.K) (G := G') i0 c0 n).length spanC_nol)) z3
    · exact z.elim) q
/-! ### a >> b -/
abbrev oShr : O2 := oIC (fun _ j => 0 ≤ j) fun i j => .int (i / 2 ^ j.toNat)
theorem xShr {X : Cx} {E : XK} {a b : Expr} {pos : Pos} {da db : DE} (ha : XEx X E a da) (hb : XEx X E b db) : XEx X E (.BinOp a .RShift b pos) (dOp oShr da db) := xe_op op_shr (simr_I fun _ _ _ => .int _) ha hb
/-! ### x.extend(e), x a list of one's own -/
def dExt (i : Nat) (de : DE) : DS := fun C ρ => match ρ[i]? with
  | some (.own ds) => de ρ C.xe fun d => match d with
    | .lst es => ds.length + es.length ≤ sizeLine ∧ C.nx (ρ.set i (.own (ds ++ es)))
    | _ => False
  | _ => False
theorem Reps.app {K : PySem.W.Frag} {G : Hp} : ∀ {xs : List V} {ds : List D} {ys : List V} {es : List D}, Reps K G xs ds → Reps K G ys es → Reps K G (xs ++ ys) (ds ++ es)
  | _, _, _, _, .nil, r => r
  | _, _, _, _, .cons h t, r => .cons h (Reps.app t r)
theorem sim_ext {K : PySem.W.Frag} {E : XK} {i : Nat} {te : TE} {de : DE} (h : SimE K E te de) : SimS K E (tDrop (tBM K "list" rExtend (tVar i) (tCons te tNil))) (dExt i de) := fun B G0 H0 G H σ ρ I Gs sg D C l q => by
  unfold dExt at q
  split at q
  · rename_i ds e
    obtain ⟨p, vs, h1, h2, h3, h4, h5, h6⟩ := I.owned e
    refine ⟨.ref p, h1, .inl ⟨rfl, _, SqL.of h2⟩, ?_⟩
    refine h B G0 H0 G H σ ρ I C.xe l.xe _ _ (fun v G' H' d t r z => ?_) q
    have I' := I.step t
    have h2' : H' p = some (.lst vs) := t.hh _ _ (fun z => h6 z.symm) h2
    split at z
    · cases r with
      | lst a1 b1 => exact ⟨p, _, vs, _, rfl, rfl, h2', t.gh _ _ a1, by rw [h3.length, b1.length]; exact z.1, l.nx _ _ _ _ (sg.trans t.gg) (I'.put e h1 ((h3.mono t.gg).app b1)) z.2⟩
    · exact z.elim
  · exact q.elim
theorem xs_ext {X : Cx} {E : XK} {i : Nat} {c : Expr} {de : DE} {pos : Pos} (h : PE X c (tBM X.K "list" rExtend (tVar i) (tCons (cE X.K E de) tNil))) (hs : swapsWith c none pos.line X.env = pure false := by rfl) : XS X E (.Expr c pos) (dExt i de) := .of (ps_expr h hs) (sim_ext sE)
end DL

namespace DL
open PySem PySem.Spec L2
open PyProof.Rows hiding St
theorem xLtS {X : Cx} {E : XK} {a b : Expr} {pos : Pos} {da db : DE} (ha : XEx X E a da) (hb : XEx X E b db) : XEx X E (.Compare a [.Lt] [b] pos) (dOp oLtS da db) := xe_cmp op_lt_str simr_ltS ha hb (nomark _)
/-! ### a < b < c < d -/
def dChain3 (o1 o2 o3 : O2) (da db dc dd : DE) : DE := fun ρ xe R => da ρ xe fun x => db ρ xe fun y => o1 x y fun z => match z with
  | .bl k => ifB k (dc ρ xe fun w => o2 y w fun z2 => match z2 with
    | .bl k2 => ifB k2 (dd ρ xe fun v => o3 w v R) (R (.bl false))
    | _ => False) (R (.bl false))
  | _ => False
def tChain3 (r1 r2 r3 : R2) (ta tb tc td : TE) : TE := fun σ H Q => ta σ H fun x H1 => tb σ H1 fun y H2 => r1 x y H2 fun z H3 => ∃ k, z = .bl k ∧
  (if k = true then tc σ H3 fun w H4 => r2 y w H4 fun z2 H5 => ∃ k2, z2 = .bl k2 ∧ (if k2 = true then td σ H5 fun v H6 => r3 w v H6 Q else Q (.bl false) H5) else Q (.bl false) H3)
section
variable {X : Cx} {E : XK} {a b c d : Expr} {da db dc dd : DE} {pos : Pos}
theorem pe_chain3 {op1 op2 op3 : CmpOp} {r1 r2 r3 : R2} {ta tb tc td : TE} (h1 : OpR X (compareOp op1) r1) (h2 : OpR X (compareOp op2) r2) (h3 : OpR X (compareOp op3) r3) (ha : PE X a ta) (hb : PE X b tb) (hc : PE X c tc) (hd : PE X d td)
    (hm : lastMarks [op1, op2, op3] [b, c, d] = false := by with_unfolding_all rfl) : PE X (.Compare a [op1, op2, op3] [b, c, d] pos) (tChain3 r1 r2 r3 ta tb tc td) := by
  refine ⟨fun pins s σ H Q I h => ?_⟩
  refine Compare_chain (thn (ha.run pins s σ H _ I h) fun v s1 ⟨x, H1, I1, e1, q1⟩ => chain_link (thn (hb.run pins s1 σ H1 _ I1 q1) fun u s2 ⟨y, H2, I2, e2, q2⟩ =>
    thn (h1 pins s2 σ H2 x y v u _ I2 e1 e2 q2) fun g s3 ⟨z, H3, I3, e3, k, e, q3⟩ => ?_)) hm
  subst e
  cases e3
  refine wpAny_truthy_bool ?_
  cases k with
  | false => exact ite_ff ⟨.bl false, H3, I3, rfl, q3⟩
  | true =>
    refine ite_tt (chain_link (thn (hc.run pins s3 σ H3 _ I3 q3) fun u2 s4 ⟨w, H4, I4, e4, q4⟩ =>
      thn (h2 pins s4 σ H4 y w u u2 _ I4 e2 e4 q4) fun g2 s5 ⟨z2, H5, I5, e5, k2, e', q5⟩ => ?_))
    subst e'
    cases e5
    refine wpAny_truthy_bool ?_
    cases k2 with
    | false => exact ite_ff ⟨.bl false, H5, I5, rfl, q5⟩
    | true => exact ite_tt (chain_last (thn (hd.run pins s5 σ H5 _ I5 q5) fun u3 s6 ⟨w3, H6, I6, e6, q6⟩ => h3 pins s6 σ H6 w w3 u2 u3 Q I6 e4 e6 q6))
theorem pt_chain3 {op1 op2 op3 : CmpOp} {r1 r2 r3 : R2} {ta tb tc td : TE} (h1 : OpR X (compareOp op1) r1) (h2 : OpR X (compareOp op2) r2) (h3 : OpR X (compareOp op3) r3) (ha : PE X a ta) (hb : PE X b tb) (hc : PE X c tc) (hd : PE X d td)
    (hm : lastMarks [op1, op2, op3] [b, c, d] = false := by with_unfolding_all rfl) : PT X (.Compare a [op1, op2, op3] [b, c, d] pos) (tTest (tChain3 r1 r2 r3 ta tb tc td)) := by
  refine ⟨fun pins s σ H Q I h => ?_⟩
  refine isTrue_chain (thn (ha.run pins s σ H _ I h) fun v s1 ⟨x, H1, I1, e1, q1⟩ => test_link (thn (hb.run pins s1 σ H1 _ I1 q1) fun u s2 ⟨y, H2, I2, e2, q2⟩ =>
    thn (h1 pins s2 σ H2 x y v u _ I2 e1 e2 q2) fun g s3 ⟨z, H3, I3, e3, k, e, q3⟩ => ?_)) hm
  subst e
  cases e3
  refine wpAny_truthy_bool ?_
  cases k with
  | false =>
    obtain ⟨k', e', q'⟩ := q3
    cases e'
    exact ite_ff ⟨H3, I3, q'⟩
  | true =>
    refine ite_tt (test_link (thn (hc.run pins s3 σ H3 _ I3 q3) fun u2 s4 ⟨w, H4, I4, e4, q4⟩ =>
      thn (h2 pins s4 σ H4 y w u u2 _ I4 e2 e4 q4) fun g2 s5 ⟨z2, H5, I5, e5, k2, e', q5⟩ => ?_))
    subst e'
    cases e5
    refine wpAny_truthy_bool ?_
    cases k2 with
    | false =>
      obtain ⟨k', e', q'⟩ := q5
      cases e'
      exact ite_ff ⟨H5, I5, q'⟩
    | true =>
      refine ite_tt (test_last (thn (hd.run pins s5 σ H5 _ I5 q5) fun u3 s6 ⟨w3, H6, I6, e6, q6⟩ => thn (h3 pins s6 σ H6 w w3 u2 u3 _ I6 e4 e6 q6) fun g3 s7 ⟨z3, H7, I7, e7, k3, e3', q7⟩ => ?_))
      subst e3'
      cases e7
      exact wpAny_truthy_bool ⟨H7, I7, q7⟩
theorem sim_chain3 {K : PySem.W.Frag} {r1 r2 r3 : R2} {o1 o2 o3 : O2} {ta tb tc td : TE} (h1 : SimR K r1 o1) (h2 : SimR K r2 o2) (h3 : SimR K r3 o3) (ha : SimE K E ta da) (hb : SimE K E tb db) (hc : SimE K E tc dc) (hd : SimE K E td dd) : SimE K E (tChain3 r1 r2 r3 ta tb tc td) (dChain3 o1 o2 o3 da db dc dd) :=
  fun B G0 H0 G H σ ρ I xe lx Q R k q => by
    refine ha B G0 H0 G H σ ρ I xe lx _ _ (fun v G1 H1 d t1 e1 q1 => ?_) q
    refine hb B G0 H0 G1 H1 σ ρ (I.step t1) xe lx _ _ (fun u G2 H2 f t2 e2 q2 => ?_) q1
    refine h1 B G2 H2 v u d f (Stt.refl t2.gh t2.bag) (e1.mono t2.gg) e2 _ _ (fun w G3 H3 f' t3 e3 q3 => ?_) q2
    split at q3
    · rename_i kk
      cases e3
      refine ⟨kk, rfl, ?_⟩
      cases kk with
      | false => exact k _ G3 H3 _ ((t1.trans t2).trans t3) (.bl _) q3
      | true =>
        refine hc B G0 H0 G3 H3 σ ρ (((I.step t1).step t2).step t3) xe lx _ _ (fun w2 G4 H4 d4 t4 e4 q4 => ?_) q3
        refine h2 B G4 H4 u w2 f d4 (Stt.refl t4.gh t4.bag) (e2.mono (t3.gg.trans t4.gg)) e4 _ _ (fun w5 G5 H5 f5 t5 e5 q5 => ?_) q4
        split at q5
        · rename_i k2
          cases e5
          refine ⟨k2, rfl, ?_⟩
          cases k2 with
          | false => exact k _ G5 H5 _ ((((t1.trans t2).trans t3).trans t4).trans t5) (.bl _) q5
          | true =>
            refine hd B G0 H0 G5 H5 σ ρ (((((I.step t1).step t2).step t3).step t4).step t5) xe lx _ _ (fun w6 G6 H6 d6 t6 e6 q6 => ?_) q5
            exact h3 B G6 H6 w2 w6 d4 d6 (Stt.refl t6.gh t6.bag) (e4.mono (t5.gg.trans t6.gg)) e6 _ _ (fun w7 G7 H7 f7 t7 e7 q7 => k w7 G7 H7 f7 ((((((t1.trans t2).trans t3).trans t4).trans t5).trans t6).trans t7) e7 q7) q6
        · exact q5.elim
    · exact q3.elim
theorem xChain3 {op1 op2 op3 : CmpOp} {r1 r2 r3 : R2} {o1 o2 o3 : O2} (g1 : OpR X (compareOp op1) r1) (g2 : OpR X (compareOp op2) r2) (g3 : OpR X (compareOp op3) r3) (h1 : SimR X.K r1 o1) (h2 : SimR X.K r2 o2) (h3 : SimR X.K r3 o3) (ha : XEx X E a da) (hb : XEx X E b db) (hc : XEx X E c dc) (hd : XEx X E d dd) (hm : lastMarks [op1, op2, op3] [b, c, d] = false := by with_unfolding_all rfl) :
    XEx X E (.Compare a [op1, op2, op3] [b, c, d] pos) (dChain3 o1 o2 o3 da db dc dd) := .of (pe_chain3 g1 g2 g3 ha.pe hb.pe hc.pe hd.pe hm) (sim_chain3 h1 h2 h3 sE sE sE sE)
theorem xtChain3 {op1 op2 op3 : CmpOp} {r1 r2 r3 : R2} {o1 o2 o3 : O2} (g1 : OpR X (compareOp op1) r1) (g2 : OpR X (compareOp op2) r2) (g3 : OpR X (compareOp op3) r3) (h1 : SimR X.K r1 o1) (h2 : SimR X.K r2 o2) (h3 : SimR X.K r3 o3) (ha : XEx X E a da) (hb : XEx X E b db) (hc : XEx X E c dc) (hd : XEx X E d dd) (hm : lastMarks [op1, op2, op3] [b, c, d] = false := by with_unfolding_all rfl) :
    XT X E (.Compare a [op1, op2, op3] [b, c, d] pos) (dTest (dChain3 o1 o2 o3 da db dc dd)) := .of (pt_chain3 g1 g2 g3 ha.pe hb.pe hc.pe hd.pe hm) (sim_test (sim_chain3 h1 h2 h3 sE sE sE sE))
end
end DL

namespace DL
open PySem PySem.Spec L2
open PyProof.Rows hiding St

/-! ### readings whose result is new through and through -/
def SimEF (K : PySem.W.Frag) (E : XK) (te : TE) (de : DE) : Prop :=
  ∀ (B : Option Addr) (G0 H0 G H : Hp) (σ : L2.St) (ρ : List Sl), En K B G0 H0 G H σ ρ → ∀ xe : XE, LinkX K B G0 H0 E xe → ∀ (Q : VK) (R : D → Prop),
    (∀ v G' H' d, Stt B G H G' H' → Rep K G' v d → DN K H G' v d → R d → Q v H') → de ρ xe R → te σ H Q
def SimAF (K : PySem.W.Frag) (E : XK) (ta : TA) (da : DA) : Prop :=
  ∀ (B : Option Addr) (G0 H0 G H : Hp) (σ : L2.St) (ρ : List Sl), En K B G0 H0 G H σ ρ → ∀ xe : XE, LinkX K B G0 H0 E xe → ∀ (Q : List V → Hp → Prop) (R : List D → Prop),
    (∀ vs G' H' ds, Stt B G H G' H' → Reps K G' vs ds → DNs K H G' vs ds → R ds → Q vs H') → da ρ xe R → ta σ H Q
def cEF (K : PySem.W.Frag) (E : XK) (de : DE) : TE := fun σ H Q => ∃ B G0 H0 G ρ xe R, En K B G0 H0 G H σ ρ ∧ LinkX K B G0 H0 E xe ∧ (∀ v G' H' d, Stt B G H G' H' → Rep K G' v d → DN K H G' v d → R d → Q v H') ∧ de ρ xe R
def cAF (K : PySem.W.Frag) (E : XK) (da : DA) : TA := fun σ H Q => ∃ B G0 H0 G ρ xe R, En K B G0 H0 G H σ ρ ∧ LinkX K B G0 H0 E xe ∧ (∀ vs G' H' ds, Stt B G H G' H' → Reps K G' vs ds → DNs K H G' vs ds → R ds → Q vs H') ∧ da ρ xe R
theorem sEF {K : PySem.W.Frag} {E : XK} {de : DE} : SimEF K E (cEF K E de) de := fun B G0 H0 G H σ ρ I xe lx Q R k h => ⟨B, G0, H0, G, ρ, xe, R, I, lx, k, h⟩
theorem sAF {K : PySem.W.Frag} {E : XK} {da : DA} : SimAF K E (cAF K E da) da := fun B G0 H0 G H σ ρ I xe lx Q R k h => ⟨B, G0, H0, G, ρ, xe, R, I, lx, k, h⟩
structure XEF (X : Cx) (E : XK) (e : Expr) (de : DE) : Prop where
  pe : PE X e (cEF X.K E de)
structure XAF (X : Cx) (E : XK) (es : List Expr) (da : DA) : Prop where
  pa : PA X es (cAF X.K E da)
theorem XEF.of {X : Cx} {E : XK} {e : Expr} {te : TE} {de : DE} (h : PE X e te) (k : SimEF X.K E te de) : XEF X E e de := ⟨⟨fun pins s σ H Q I ⟨B, G0, H0, G, ρ, xe, R, En, lx, kk, q⟩ => h.run pins s σ H Q I (k B G0 H0 G H σ ρ En xe lx Q R kk q)⟩⟩
theorem XAF.of {X : Cx} {E : XK} {es : List Expr} {te : TA} {de : DA} (h : PA X es te) (k : SimAF X.K E te de) : XAF X E es de := ⟨⟨fun p pins s σ H Q I ⟨B, G0, H0, G, ρ, xe, R, En, lx, kk, q⟩ => h.run p pins s σ H Q I (k B G0 H0 G H σ ρ En xe lx Q R kk q)⟩⟩
theorem DN.inner {K : PySem.W.Frag} {H G : Hp} {a : Addr} {vs : List V} {ds : List D} (h : DN K H G (.ref a) (.lst ds)) (e : G a = some (.lst vs)) : DNs K H G vs ds := by
  cases h with
  | flat f => cases f
  | lst x y z => rw [e] at y; cases y; exact z
/-- a result in which no list is -/
def dNol (de : DE) : DE := fun ρ xe R => de ρ xe fun d => nol d = true ∧ R d
section
variable {X : Cx} {E : XK} {e a b c : Expr} {es : List Expr} {de da db : DE} {dA dB : DA} {pos : Pos}
theorem xfN (h : XEx X E e de) : XEF X E e (dNol de) := .of h.pe fun B G0 H0 G H σ ρ I xe lx Q R k q => sE B G0 H0 G H σ ρ I xe lx _ _ (fun v G' H' d t r z => k v G' H' d t r (.flat z.1) z.2) q
theorem xaf_nil : XAF X E [] dNil := .of pa_nil fun B G0 H0 G H σ ρ I xe lx Q R k h => k [] G H [] I.st.here .nil .nil h
theorem sim_consF {K : PySem.W.Frag} {te : TE} {tr : TA} {de : DE} {dr : DA} (ha : SimEF K E te de) (hb : SimAF K E tr dr) : SimAF K E (tCons te tr) (dCons de dr) :=
  fun B G0 H0 G H σ ρ I xe lx Q R k h => by
    refine ha B G0 H0 G H σ ρ I xe lx _ _ (fun v G1 H1 d t1 r1 n1 h1 => ?_) h
    refine hb B G0 H0 G1 H1 σ ρ (I.step t1) xe lx _ _ (fun us G2 H2 ds t2 r2 n2 h2 => ?_) h1
    exact k _ _ _ _ (t1.trans t2) (.cons (r1.mono t2.gg) r2) (.cons (n1.mono (fun _ h => h) t2.gg) (n2.mono (fun _ h => t1.before h) (Same.refl _))) h2
theorem xaf_cons {dr : DA} (ha : XEF X E e de) (hr : XAF X E es dr) (hs : starEach (e :: es) X.env = (false, eval e X.env) :: starEach es X.env := by rfl) : XAF X E (e :: es) (dCons de dr) :=
  .of (pa_cons ha.pe hr.pa hs) (sim_consF sEF sAF)
theorem xfLst {es : List Expr} {d : DA} (h : XAF X E es d) : XEF X E (.List es pos) (dLst d) := .of (pe_lst h.pa) fun B G0 H0 G H σ ρ I xe lx Q R k q =>
  sAF B G0 H0 G H σ ρ I xe lx _ _ (fun vs G' H' ds t r n z => ⟨by rw [r.length]; exact z.1, fun p hp => by
    have s := (I.step t).st.new (o := .lst vs) hp
    exact k _ _ _ _ (t.trans s) (.lst upd_same (r.mono s.gg)) (.lst (t.before hp) upd_same (n.mono (fun _ h => h) s.gg)) z.2⟩) q
theorem xfTup {es : List Expr} {x1} {d : DA} (h : XAF X E es d) : XEF X E (.Tuple es x1 pos) (dTup d) := .of (pe_tup h.pa) fun B G0 H0 G H σ ρ I xe lx Q R k q =>
  sAF B G0 H0 G H σ ρ I xe lx _ _ (fun vs G' H' ds t r n z => ⟨by rw [r.length]; exact z.1, fun p hp => by
    have s := (I.step t).st.new (o := .tup vs) hp
    exact k _ _ _ _ (t.trans s) (.tup upd_same (r.mono s.gg)) (.tup upd_same (n.mono (fun _ h => h) s.gg)) z.2⟩) q
theorem xfCall {k : Nat} {f : Addr} {fd : FuncData} {ps : List Str} {S : DSp} {x : Str} {p : Pos} {da : DA} (F : FnG X.prog X.w X.K X.mg X.base k f fd ps (spF X.K S)) (rg : RmG k X.A) (hg : Gl X x) (hm : X.mg x = some (.ref f)) (hk : PySem.W.keepIn X.K (.ref f) = true) (hb : Binds X.K fd ps []) (hx : Passes (L2.CX X.prog X.w) X E)
    (ha : XA X E (e :: es) da) (hdb : (x == ("__debug__" : Str)) = false := by decide) (he : starEach (e :: es) X.env = (false, eval e X.env) :: starEach es X.env := by rfl) (hpl : (backTo pos (starEach es X.env)).any (·.1) = false := by rfl) :
    XEF X E (.Call (.Name x p) (e :: es) [] pos) (dCall S da) := .of (pe_cl F rg hg hm hk hb hx ha.pa hdb he hpl) fun B G0 H0 G H σ ρ I xe lx Q R kk q =>
  sA B G0 H0 G H σ ρ I xe lx _ _ (fun vs G' H' ds t r z => ⟨B, G', ds, xe, R, r, Stt.refl t.gh t.bag, lx.shift (I.st.trans t), z, fun v G2 H2 d t2 r2 n2 z2 => kk v G2 H2 d (t.trans t2) r2 (n2.mono (fun _ h => t.before h) (Same.refl _)) z2⟩) q
theorem xfCallB {k i : Nat} {f : Addr} {fd : FuncData} {ps : List Str} {S : DSp} {x bx : Str} {p pb : Pos} {da : DA} (F : FnG X.prog X.w X.K X.mg X.base k f fd ps (spFB X.K S)) (rg : RmG k X.A) (hg : Gl X x) (hm : X.mg x = some (.ref f)) (hk : PySem.W.keepIn X.K (.ref f) = true) (hb : Binds X.K fd ps []) (hx : Passes (L2.CX X.prog X.w) X E)
    (hv : PE X (.Name bx pb) (tVar i)) (ha : XA X E es da) (hdb : (x == ("__debug__" : Str)) = false := by decide) (he : starEach (.Name bx pb :: es) X.env = (false, eval (.Name bx pb) X.env) :: starEach es X.env := by rfl) (hpl : (backTo pos (starEach es X.env)).any (·.1) = false := by rfl) :
    XEF X E (.Call (.Name x p) (.Name bx pb :: es) [] pos) (dCallB i S da) := .of (pe_cl F rg hg hm hk hb hx (pa_cons hv ha.pa he) hdb he hpl) fun B G0 H0 G H σ ρ I xe lx Q R kk q => by
  obtain ⟨q0, q⟩ := q
  obtain ⟨b, rfl, hv⟩ := I.bgv q0
  refine ⟨_, hv, ?_⟩
  exact sA (some b) G0 H0 G H σ ρ I xe lx _ _ (fun vs G' H' ds t r z => ⟨b, vs, G', ds, xe, R, rfl, r, Stt.refl t.gh t.bag, lx.shift (I.st.trans t), z, fun v G2 H2 d t2 r2 n2 z2 => kk v G2 H2 d (t.trans t2) r2 (n2.mono (fun _ h => t.before h) (Same.refl _)) z2⟩) q
theorem xfCatL (ha : XEF X E a da) (hb : XEF X E b db) : XEF X E (.BinOp a .Add b pos) (dOp oCatL da db) := .of (pe_op op_cat ha.pe hb.pe) fun B G0 H0 G H σ ρ I xe lx Q R k q => by
  refine sEF B G0 H0 G H σ ρ I xe lx _ _ (fun v G1 H1 d t1 r1 n1 h1 => ?_) q
  refine sEF B G0 H0 G1 H1 σ ρ (I.step t1) xe lx _ _ (fun u G2 H2 f t2 r2 n2 h2 => ?_) h1
  unfold oCatL at h2
  split at h2
  · cases r1 with
    | @lst _ w1 _ a1 b1 => cases r2 with
      | @lst _ w2 _ a2 b2 =>
        have a1' := t2.gg _ _ a1
        have s2 := ((I.step t1).step t2).st
        refine ⟨_, _, _, _, rfl, rfl, s2.gh _ _ a1', s2.gh _ _ a2, by rw [b1.length, b2.length]; exact h2.1, fun p hp => ?_⟩
        have s := s2.new (o := .lst (w1 ++ w2)) hp
        refine k _ _ _ _ ((t1.trans t2).trans s) (.lst upd_same (((b1.mono t2.gg).append b2).mono s.gg)) (.lst ((t1.trans t2).before hp) upd_same ?_) h2.2
        exact ((n1.inner a1).mono (fun _ h => h) (t2.gg.trans s.gg)).append ((n2.inner a2).mono (fun _ h => t1.before h) s.gg)
  · exact h2.elim
/-- return e, new -/
def dRetG (de : DE) : DS := fun C ρ => de ρ C.xe C.rf
theorem xs_retG (he : XEF X E e de) : XS X E (.Return (some e) pos) (dRetG de) := .of (ps_ret he.pe) fun B G0 H0 G H σ ρ I Gs sg D C l q =>
  sEF B G0 H0 G H σ ρ I C.xe l.xe _ _ (fun v G' H' d t r n z => l.rf v d G' H' (I.st.trans t) r (n.mono (fun _ h => I.st.before h) (Same.refl _)) z) q
end

/-! ### comprehensions whose items are new through and through -/
theorem DNs.new {K : PySem.W.Frag} {H G : Hp} {v : V} {vs : List V} {d : D} {ds : List D} (h : DNs K H G vs ds) (n : DN K H G v d) : DNs K H G (vs ++ [v]) (ds ++ [d]) := h.append (.cons n .nil)
theorem sim_lcN {K : PySem.W.Frag} {E : XK} {wi : TI} {di : DI} {g : TG} {dg : DG} {vs : List Nat} {tt : TT} {dt : DT} {te : TE} {de : DE} (hi : SimI K E wi di) (hg : SimG K g dg vs) (ht : SimT K E0 tt dt) (he : SimEF K E0 te de) : SimEF K E (tLc wi g tt te vs) (dLc di dg dt de vs) :=
  fun B G0 H0 G H σ ρ I xe lx Q R k q => by
    refine hi B G0 H0 G H σ ρ I xe lx _ _ (fun J G1 H1 items t jok z => ?_) q
    obtain ⟨zl, W, w0, hs, hd⟩ := z
    intro D hD
    have I1 := I.step t
    have tD : Stt B G1 H1 G1 (upd H1 D (.lst [])) := I1.st.laid hD
    have g1D : G1 D = none := I1.st.gfree hD
    have nbD : B ≠ some D := fun e => by
      obtain ⟨_, _, _, _, _, _, h, _⟩ := I1.st.bag D e
      rw [hD] at h; cases h
    refine ⟨fun i m H' => m = items.length - i ∧ i ≤ items.length ∧ ∃ G' acc vacc, Stt B G1 H1 G' H' ∧ G' D = none ∧ H' D = some (.lst vacc) ∧ Reps K G' vacc acc ∧ DNs K H1 G' vacc acc ∧ acc.length ≤ i ∧ W i acc,
      ⟨items.length, by simp, Nat.zero_le _, G1, [], [], tD, g1D, upd_same, .nil, .nil, Nat.le_refl _, w0⟩, ?_⟩
    rintro i m H' ⟨rfl, hle, G', acc, vacc, t', gD, hDv, ra, na, la, w⟩
    have jk := jok G' H' t'.gg t'.gh t'.bag i
    have put : ∀ {G2 H2 : Hp} {ws : List V}, Stt B G1 H1 G2 H2 → G2 D = none → Stt B G1 H1 G2 (upd H2 D (.lst ws)) := fun {G2 H2 ws} s g => by
      refine ⟨s.gg, fun a u h => ?_, fun a u n h => ?_, s.fr, fun b e => ?_, fun b e => ?_⟩
      · rw [upd_ne (ne_of_none h g)]; exact s.gh a u h
      · rw [upd_ne (ne_of_none h hD)]; exact s.hh a u n h
      · obtain ⟨g0, n, sd, j, c, cells, k1, k2, r⟩ := s.bag b e
        exact ⟨g0, n, sd, j, c, cells, by rw [upd_ne (fun z => nbD (by rw [e, z]))]; exact k1, k2, r⟩
      · rw [← s.bc b e]; unfold bagC; rw [upd_ne (fun z => nbD (by rw [e, z]))]
    have keepD : ∀ {G2 H2 G3 H3 : Hp} {ws : List V}, Stt B G2 H2 G3 H3 → G2 D = none → H2 D = some (.lst ws) → G3 D = none ∧ H3 D = some (.lst ws) := fun {G2 H2 G3 H3 ws} s g h => by
      refine ⟨?_, s.hh _ _ (fun z => nbD z.symm) h⟩
      cases z : G3 D with
      | none => rfl
      | some u =>
        rcases s.fr D u z with q | q
        · rw [g] at q; cases q
        · rw [h] at q; cases q
    by_cases hlt : i < items.length
    · obtain ⟨go, yl⟩ := jk.1 items[i] (List.getElem?_eq_getElem hlt)
      refine .inr ⟨go, fun H2 => ∃ G2 acc2 vacc2, Stt B G1 H1 G2 H2 ∧ G2 D = none ∧ H2 D = some (.lst vacc2) ∧ Reps K G2 vacc2 acc2 ∧ DNs K H1 G2 vacc2 acc2 ∧ acc2.length ≤ i + 1 ∧ W (i + 1) acc2,
        fun H2 ⟨G2, acc2, vacc2, x1, x2, x3, x4, x5, x6, x7⟩ => ⟨items.length - (i + 1), by omega, rfl, hlt, G2, acc2, vacc2, x1, x2, x3, x4, x5, x6, x7⟩, fun x H2 y => ?_⟩
      obtain ⟨G2, t2, r2⟩ := yl x H2 y
      obtain ⟨g2D, h2D⟩ := keepD t2 gD hDv
      have Iw : En K B G0 H0 G2 H2 (L2.wipe σ vs) (dwipe ρ vs) := ((I1.step t').step t2).wipe vs
      refine hg B G0 H0 G2 H2 _ _ x _ Iw r2 _ _ (fun σ3 ρ3 I3 ew z => ?_) (hs i _ acc (List.getElem?_eq_getElem hlt) la w)
      refine ⟨by rw [ew]; exact wipe_wipe, ?_⟩
      refine ht B G0 H0 G2 H2 σ3 ρ3 I3 _ noX _ _ (fun b G4 H4 t4 z4 => ?_) z
      obtain ⟨g4D, h4D⟩ := keepD t4 g2D h2D
      cases b with
      | true =>
        show te σ3 H4 _
        refine he B G0 H0 G4 H4 σ3 ρ3 (I3.step t4) _ noX _ _ (fun v G5 H5 d t5 r5 n5 z5 => ?_) z4
        obtain ⟨g5D, h5D⟩ := keepD t5 g4D h4D
        have s4 : Stt B G1 H1 G4 H4 := (t'.trans t2).trans t4
        have all : Stt B G1 H1 G5 H5 := s4.trans t5
        have gg5 : Same G' G5 := (t2.gg.trans t4.gg).trans t5.gg
        refine ⟨vacc, h5D, ?_, G5, acc ++ [d], vacc ++ [v], put all g5D, g5D, upd_same, (ra.mono gg5).append (.cons r5 .nil), (na.mono (fun _ h => h) gg5).new (n5.mono (fun _ h => s4.before h) (Same.refl _)), by rw [List.length_append]; simp; omega, z5⟩
        rw [ra.length]; omega
      | false =>
        exact ⟨G4, acc, vacc, (t'.trans t2).trans t4, g4D, h4D, ra.mono (t2.gg.trans t4.gg), na.mono (fun _ h => h) (t2.gg.trans t4.gg), by omega, z4⟩
    · have e : i = items.length := by omega
      subst e
      refine .inl ⟨jk.2 (Nat.le_refl _), ?_⟩
      have sm : Same G' (upd G' D (.lst vacc)) := fun a u h => by rw [upd_ne (ne_of_none h gD)]; exact h
      refine k _ (upd G' D (.lst vacc)) H' (.lst acc) ?_ (.lst upd_same (ra.mono sm)) (.lst (t.before hD) upd_same (na.mono (fun _ h => t.before h) sm)) (hd acc la w)
      refine t.trans ⟨t'.gg.trans sm, fun a u h => ?_, t'.hh, fun a u h => ?_, fun b e => ?_, t'.bc⟩
      · by_cases z : a = D
        · subst z; rw [upd_same] at h; cases h; exact hDv
        · rw [upd_ne z] at h; exact t'.gh a u h
      · by_cases z : a = D
        · subst z; exact .inr hD
        · rw [upd_ne z] at h; exact t'.fr a u h
      · obtain ⟨g0, n, sd, j, c, cells, k1, k2, r⟩ := t'.bag b e
        exact ⟨by rw [upd_ne (fun z => nbD (by rw [e, z]))]; exact g0, n, sd, j, c, cells, k1, sm _ _ k2, r⟩
theorem xfLc {X : Cx} {E : XK} {elt tg iter : Expr} {ifs : List Expr} {scope : Scope} {own : List (Str × Nat)} {pos : Pos} {wi : TI} {di : DI} {g : TG} {dg : DG} {dt : DT} {de : DE} (hc : X.calm = true) (hN : X.N.Nodup) (hi : XI X E tg iter wi di) (ok : BlkOk X.N X.env.scope scope own)
    (hg : ∀ (s : Shared) (H : Hp) (C : Addr) (cl : List (Str × Addr)) (fp : List Addr), PG (X.blk s H scope (compEnvC scope cl C X.env) fp) tg g) (sg : SimG X.K g dg (own.map (·.2)))
    (ht : ∀ (s : Shared) (H : Hp) (C : Addr) (cl : List (Str × Addr)) (fp : List Addr), XTs (X.blk s H scope (compEnvC scope cl C X.env) fp) E0 ifs dt)
    (he : ∀ (s : Shared) (H : Hp) (C : Addr) (cl : List (Str × Addr)) (fp : List Addr), XEF (X.blk s H scope (compEnvC scope cl C X.env) fp) E0 elt de) (hs : ∀ x, foldedSetIterable iter X.env x = pure x := by intro _; rfl) :
    XEF X E (.ListComp elt [⟨tg, iter, ifs, 0⟩] scope pos) (dLc di dg dt de (own.map (·.2))) :=
  .of (pe_lc hc hN hi.pi ok hg (fun s H C cl fp => (ht s H C cl fp).pts) (fun s H C cl fp => (he s H C cl fp).pe) hs) (sim_lcN hi.sim sg sT sEF)
theorem xfIf {X : Cx} {E : XK} {a b c : Expr} {dA : DT} {da db : DE} {pos : Pos} (hc : XT X E c dA) (ha : XEF X E a da) (hb : XEF X E b db) : XEF X E (.IfExp c a b pos) (dIf dA da db) := .of (pe_ifExp hc.pt ha.pe hb.pe) fun B G0 H0 G H σ ρ I xe lx Q R k q =>
  sT B G0 H0 G H σ ρ I xe lx _ _ (fun c G1 H1 t1 z => by
    cases c with
    | true => exact sEF B G0 H0 G1 H1 σ ρ (I.step t1) xe lx _ _ (fun v G2 H2 d t2 r n z2 => k v G2 H2 d (t1.trans t2) r (n.mono (fun _ h => t1.before h) (Same.refl _)) z2) z
    | false => exact sEF B G0 H0 G1 H1 σ ρ (I.step t1) xe lx _ _ (fun v G2 H2 d t2 r n z2 => k v G2 H2 d (t1.trans t2) r (n.mono (fun _ h => t1.before h) (Same.refl _)) z2) z) q
end DL

namespace DL
open PySem PySem.Spec L2
open PyProof.Rows hiding St

/-! ### slots set, pinned, restored -/
section
variable {K : PySem.W.Frag} {B : Option Addr} {G0 H0 G H G' H' : Hp} {σ σ' : L2.St} {ρ ρ' : List Sl}
theorem En.setS {i : Nat} {o : Option V} {s : Sl} (I : En K B G0 H0 G H σ ρ) (r : SlOk K B H0 G H o s) (n : ∀ x, s ≠ Sl.own x) : En K B G0 H0 G H (σ.set i o) (ρ.set i s) := by
  refine ⟨I.st, pset r i I.sl, fun j k p x y e1 e2 e3 e4 => ?_⟩
  have nj : ∀ j x, (ρ.set i s)[j]? = some (Sl.own x) → j ≠ i := fun j x e z => by
    subst z
    by_cases l : j < ρ.length
    · rw [List.getElem?_set_self l] at e; exact n x (Option.some.inj e)
    · rw [List.getElem?_eq_none (by simpa using l)] at e; cases e
  have a := nj j x e1
  have b := nj k y e2
  rw [List.getElem?_set_ne a.symm] at e1 e3
  rw [List.getElem?_set_ne b.symm] at e2 e4
  exact I.ap j k p x y e1 e2 e3 e4
theorem set_get_self {α : Type} {l : List α} {i : Nat} {a : α} (h : l[i]? = some a) : l.set i a = l := by
  apply List.ext_getElem?
  intro j
  by_cases e : j = i
  · subst e; rw [List.getElem?_set_self (List.getElem?_eq_some_iff.mp h).1, h]
  · rw [List.getElem?_set_ne (Ne.symm e)]
theorem En.swapS {j : Nat} {s : Sl} (I : En K B G0 H0 G H σ ρ) (h : ∀ o, σ[j]? = some o → SlOk K B H0 G H o s) (n : ∀ x, s ≠ Sl.own x) : En K B G0 H0 G H σ (ρ.set j s) := by
  cases e : σ[j]? with
  | none =>
    have l : ¬ j < ρ.length := fun l => by
      rw [← plen I.sl] at l
      rw [List.getElem?_eq_getElem l] at e; cases e
    rw [List.set_eq_of_length_le (by omega)]; exact I
  | some o =>
    have := I.setS (i := j) (h o e) n
    rw [set_get_self e] at this
    exact this
def pinAll (f : Nat → V) (ρ : List Sl) : List Nat → List Sl
  | [] => ρ
  | j :: J => match ρ[j]? with
    | some (.dd d) => (pinAll f ρ J).set j (.pin (f j) d)
    | _ => pinAll f ρ J
def sameAt (f : Nat → V) (ρ ρ' : List Sl) : List Nat → Prop
  | [] => True
  | j :: J => (match ρ[j]? with
    | some (.dd d) => ρ'[j]? = some (.pin (f j) d)
    | _ => True) ∧ sameAt f ρ ρ' J
def resAll (ρ ρ2 : List Sl) : List Nat → List Sl
  | [] => ρ2
  | j :: J => match ρ[j]? with
    | some (.dd d) => (resAll ρ ρ2 J).set j (.dd d)
    | _ => resAll ρ ρ2 J
def valAt (σ : L2.St) (j : Nat) : V := ((σ[j]?).join).getD .non
theorem En.pinAll (I : En K B G0 H0 G H σ ρ) : ∀ J : List Nat, En K B G0 H0 G H σ (DL.pinAll (valAt σ) ρ J)
  | [] => I
  | j :: J => by
    unfold DL.pinAll
    split
    · rename_i d e
      obtain ⟨v, h1, h2⟩ := I.var e
      refine (En.pinAll I J).swapS (fun o ho => ?_) (fun _ z => by cases z)
      rw [h1] at ho; cases ho
      have : valAt σ j = v := by unfold valAt; rw [h1]; rfl
      rw [this]; exact .pin h2
    · exact En.pinAll I J
theorem En.resAll {H2 : Hp} {ρ2 : List Sl} (I : En K B G0 H0 G H σ ρ) (I' : En K B G0 H0 G' H' σ' ρ') (I2 : En K B G0 H0 G H2 σ' ρ2) : ∀ J : List Nat, sameAt (valAt σ) ρ ρ' J → En K B G0 H0 G H2 σ' (DL.resAll ρ ρ2 J)
  | [], _ => I2
  | j :: J, ⟨s, t⟩ => by
    unfold DL.resAll
    split
    · rename_i d e
      rw [e] at s
      obtain ⟨v, h1, h2⟩ := I.var e
      have hv : valAt σ j = v := by unfold valAt; rw [h1]; rfl
      rw [hv] at s
      obtain ⟨o, g1, g2⟩ := pget I'.sl s
      refine (En.resAll I I' I2 J t).swapS (fun o' ho => ?_) (fun _ z => by cases z)
      rw [g1] at ho; cases ho
      cases g2 with
      | pin r => exact .dd h2
    · exact En.resAll I I' I2 J t
theorem dwipe_get {ρ : List Sl} : ∀ {vs : List Nat} {i : Nat}, (dwipe ρ vs)[i]? = if i ∈ vs then (if i < ρ.length then some .un else none) else ρ[i]?
  | [], i => by simp [dwipe]
  | v :: vs, i => by
    have len : ∀ vs : List Nat, (dwipe ρ vs).length = ρ.length := fun vs => by
      induction vs with
      | nil => rfl
      | cons v vs ih => show ((dwipe ρ vs).set v .un).length = _; rw [List.length_set, ih]
    unfold dwipe
    by_cases h : v = i
    · subst h
      rw [if_pos (List.mem_cons_self ..)]
      by_cases l : v < ρ.length
      · rw [List.getElem?_set_self (by rw [len]; exact l), if_pos l]
      · rw [List.getElem?_eq_none (by rw [List.length_set, len]; omega), if_neg l]
    · rw [List.getElem?_set_ne h, dwipe_get (vs := vs)]
      by_cases m : i ∈ vs
      · rw [if_pos m, if_pos (List.mem_cons_of_mem _ m)]
      · rw [if_neg m, if_neg (by simp only [List.mem_cons, not_or]; exact ⟨fun z => h z.symm, m⟩)]
theorem paired_of {α β : Type} {F : α → β → Prop} : ∀ {l : List α} {r : List β}, l.length = r.length → (∀ (i : Nat) a b, l[i]? = some a → r[i]? = some b → F a b) → Paired F l r
  | [], [], _, _ => .nil
  | a :: l, b :: r, e, h => .cons (h 0 a b rfl rfl) (paired_of (by simpa using e) fun i a b h1 h2 => h (i + 1) a b (by simpa using h1) (by simpa using h2))
  | [], _ :: _, e, _ => by simp at e
  | _ :: _, [], e, _ => by simp at e
theorem wipe_at {σ σ' : L2.St} {W : List Nat} {i : Nat} (h : L2.wipe σ W = L2.wipe σ' W) (hi : i ∉ W) : σ[i]? = σ'[i]? := by
  have a := wipe_get (σ := σ) (vs := W) (i := i)
  have b := wipe_get (σ := σ') (vs := W) (i := i)
  rw [if_neg hi] at a b
  rw [← a, ← b, h]
/-- names that may have been stored anew are forgotten -/
theorem En.rewipe {W : List Nat} (I : En K B G0 H0 G H σ ρ) (h : L2.wipe σ' W = L2.wipe σ W) : En K B G0 H0 G H σ' (dwipe ρ W) := by
  have len : σ'.length = σ.length := by have := congrArg List.length h; simpa [wipe_length] using this
  have dl : (dwipe ρ W).length = ρ.length := by
    clear h I
    induction W with
    | nil => rfl
    | cons v vs ih => show ((dwipe ρ vs).set v .un).length = _; rw [List.length_set, ih]
  refine ⟨I.st, paired_of (by rw [dl, len, plen I.sl]) fun i a b h1 h2 => ?_, fun j k p x y e1 e2 e3 e4 => ?_⟩
  · rw [dwipe_get] at h2
    by_cases m : i ∈ W
    · rw [if_pos m] at h2
      split at h2
      · cases h2; exact .un
      · cases h2
    · rw [if_neg m] at h2
      rw [wipe_at h m] at h1
      obtain ⟨o, g1, g2⟩ := pget I.sl h2
      rw [h1] at g1; cases g1; exact g2
  · have go : ∀ j x, (dwipe ρ W)[j]? = some (Sl.own x) → ρ[j]? = some (Sl.own x) ∧ j ∉ W := fun j x e => by
      rw [dwipe_get] at e
      by_cases m : j ∈ W
      · rw [if_pos m] at e
        split at e <;> cases e
      · rw [if_neg m] at e; exact ⟨e, m⟩
    obtain ⟨a1, a2⟩ := go j x e1
    obtain ⟨b1, b2⟩ := go k y e2
    rw [wipe_at h a2] at e3
    rw [wipe_at h b2] at e4
    exact I.ap j k p x y a1 b1 e3 e4

/-! ### what a change of new lists leaves -/
/-- all but the lists that are new since Hs stand as in H' -/
def DSt0 (Hs G' H' H2 : Hp) : Prop := ∀ a u, H' a = some u → ¬ (Hs a = none ∧ ∃ l, G' a = some (.lst l)) → H2 a = some u
/-- and these are lists, at most k longer -/
def DKp (Hs G' H' : Hp) (k : Nat) (H2 : Hp) : Prop := DSt0 Hs G' H' H2 ∧ ∀ a l, G' a = some (.lst l) → ∃ l', H2 a = some (.lst l') ∧ l'.length ≤ l.length + k
theorem keep_ok2 {Hs H2 : Hp} {o : Option V} {s : Sl} (gg : Same G G') (ds : DSt0 Hs G' H' H2) (h : SlOk K B H0 G' H' o s) : SlOk K B H0 G H2 o (keepS s) := by
  cases h with
  | un => exact .un
  | @dd _ d r =>
    rw [keep_dd]
    by_cases f : flatD d = true
    · rw [if_pos f]; exact .dd (r.flat f)
    · rw [if_neg f]; exact .un
  | bg e => exact .bg e
  | @own p _ es a r g h0 nb =>
    rw [keep_own]
    by_cases f : es.all flatD = true
    · rw [if_pos f]
      refine .own (ds _ _ a (fun ⟨_, l, e⟩ => by rw [g] at e; cases e)) (r.flats (List.all_eq_true.mp f)) ?_ h0 nb
      cases z : G p with
      | none => rfl
      | some u => rw [gg _ _ z] at g; cases g
    · rw [if_neg f]; exact .un
  | fz a r h0 nb => exact .un
  | ex h => exact .un
  | pin _ => exact .un
  | @nw _ d r n =>
    rw [keep_nw]
    by_cases f : flatD d = true
    · rw [if_pos f]; exact .dd (r.flat f)
    · rw [if_neg f]; exact .un
  | odk _ _ _ _ _ _ => exact .un
theorem En.back {H2 : Hp} (I : En K B G0 H0 G H σ ρ) (I' : En K B G0 H0 G' H' σ' ρ') (gg : Same G G') (ds : DSt0 H G' H' H2) : En K B G0 H0 G H2 σ' (ρ'.map keepS) := by
  have old : ∀ a u o, H a = some o → H' a = some u → H2 a = some u := fun a u o h h' => ds a u h' fun ⟨z, _⟩ => by rw [h] at z; cases z
  refine ⟨⟨I.st.gg, fun a u h => ?_, fun a u n h => ?_, I.st.fr, fun b e => ?_, fun b e => ?_⟩, ?_, fun j k p x y e1 e2 e3 e4 => ?_⟩
  · exact old a u u (I.st.gh a u h) (I'.st.gh a u (gg a u h))
  · exact old a u u (I.st.hh a u n h) (I'.st.hh a u n h)
  · obtain ⟨g0, n, s, i, c, cells, k1, k2, q1, q2, q3, q4, q5, q6⟩ := I.st.bag b e
    obtain ⟨_, n', s', i', c', cells', k1', k2', r1, r2, r3, r4, _, _⟩ := I'.st.bag b e
    have cc : c' = c := by
      have z := (I'.st.bc b e).trans (I.st.bc b e).symm
      unfold bagC at z
      rw [k1, k1'] at z
      have z := Option.some.inj (show (some (V.ref c')) = some (V.ref c) from z)
      cases z; rfl
    exact ⟨g0, n', s', i', c, cells, by rw [← cc]; exact old b _ _ k1 k1', k2, r1, r2, r3, r4, q5, q6⟩
  · have k1 := I.st.bag b e
    have k1' := I'.st.bag b e
    obtain ⟨_, n, s, i, c, cells, k1, _⟩ := k1
    obtain ⟨_, n', s', i', c', cells', k1', _⟩ := k1'
    rw [← I'.st.bc b e]
    unfold bagC
    rw [k1', old b _ _ k1 k1']
  · have : ∀ {l : List (Option V)} {r : List Sl}, Paired (SlOk K B H0 G' H') l r → Paired (SlOk K B H0 G H2) l (r.map keepS) := fun {l r} h => by
      induction h with
      | nil => exact .nil
      | cons a t ih => exact .cons (keep_ok2 gg ds a) ih
    exact this I'.sl
  · have bk : ∀ j x, (ρ'.map keepS)[j]? = some (Sl.own x) → ∃ y, ρ'[j]? = some (Sl.own y) := fun j x e => by
      rw [List.getElem?_map] at e
      cases hz : ρ'[j]? with
      | none => rw [hz] at e; cases e
      | some s =>
        rw [hz] at e
        have e : keepS s = .own x := Option.some.inj e
        cases s with
        | own es => exact ⟨es, hz⟩
        | dd d => rw [keep_dd] at e; split at e <;> cases e
        | un => cases e
        | bg => cases e
        | fz a b => cases e
        | ex a b c => cases e
        | pin a b => cases e
        | nw d => rw [keep_nw] at e; split at e <;> cases e
        | odk a b => cases e
    obtain ⟨x', f1⟩ := bk j x e1
    obtain ⟨y', f2⟩ := bk k y e2
    exact I'.ap j k p x' y' f1 f2 e3 e4
end

/-! ### a block with a new thing, which is changed at its end and forgotten -/
structure XD (X : Cx) (i : Nat) (W : List Nat) (f : List Stmt → List Stmt) (need : List Sl → D → Prop) : Prop where
  go : ∀ (rest : List Stmt) (tr : TS), PSs X rest tr → ∃ tm : TS, PSs X (f rest) tm ∧ ∀ (B : Option Addr) (G0 H0 G' H' Hs : Hp) (σ' : L2.St) (ρ' : List Sl) (v : V) (d : D) (D : Ends),
    En X.K B G0 H0 G' H' σ' ρ' → ρ'[i]? = some (.pin v d) → DN X.K Hs G' v d → need ρ' d → (∀ G2 H2 H3 σ3, Same G' G2 → En X.K B G0 H0 G2 H2 σ' ρ' → L2.wipe σ3 W = L2.wipe σ' W → DSt0 Hs G2 H2 H3 → tr D σ3 H3) → tm D σ' H'
def dEndS (i : Nat) (v : V) (d : D) (J W : List Nat) (f : Nat → V) (ρ : List Sl) (need : List Sl → D → Prop) (k : List Sl → Prop) : DS := fun _ ρ' =>
  ρ'[i]? = some (.pin v d) ∧ sameAt f ρ ρ' J ∧ need ρ' d ∧ k (dwipe (resAll ρ ((ρ'.map keepS).set i .un) J) W)
def dScr (i : Nat) (J W : List Nat) (de : DE) (db : DS → DS) (need : List Sl → D → Prop) (dr : DS) : DS := fun C ρ => de ρ C.xe fun d => ∀ (f : Nat → V) (v : V),
  db (dEndS i v d J W f ρ need (dr C)) { C with nx := fun _ => False, bk := fun _ => False, ct := fun _ => False } ((pinAll f ρ J).set i (.pin v d))
theorem xss_scr {X : Cx} {E : XK} {i : Nat} {J W : List Nat} {x : Str} {px pos : Pos} {e : Expr} {f g : List Stmt → List Stmt} {db : DS → DS} {need : List Sl → D → Prop} {rest : List Stmt} {de : DE} {dr : DS}
    (hN : X.N.Nodup) (hi : X.N[i]? = some x) (hx : Loc X.env.scope x) (he : XEF X E e de) (hb : XB X E f db) (hm : XD X i W g need) (hr : XSs X E rest dr)
    (hs : swapsWith e (some (.Name x px)) pos.line X.env = pure false := by rfl) (hf : X.fn x = true ∨ X.env.scope.names.lookup x = some .local := by first | exact .inl rfl | exact .inr rfl | assumption) :
    XSs X E (.Assign [.Name x px] e pos :: f (g rest)) (dScr i J W de db need dr) := by
  obtain ⟨tm, pm, sm⟩ := hm.go rest _ hr.ps
  obtain ⟨tb, pb, sb⟩ := hb.go (g rest) tm pm
  refine .of (pss_cons (ps_set hN hi hx he.pe hs hf) pb) fun B G0 H0 G H σ ρ I Gs sg D C l q => ?_
  refine sEF B G0 H0 G H σ ρ I C.xe l.xe _ _ (fun v G1 H1 d t r dn z => ?_) q
  have I1 : En X.K B G0 H0 G1 H1 (σ.set i (some v)) ((pinAll (valAt σ) ρ J).set i (.pin v d)) := ((I.step t).pinAll J).setS (.pin r) (fun _ z => by cases z)
  refine sb B G0 H0 G1 D { C with nx := fun _ => False, bk := fun _ => False, ct := fun _ => False } (dEndS i v d J W (valAt σ) ρ need (dr C)) D.nx (fun _ => False)
    ⟨fun _ _ _ _ _ _ z => z.elim, fun _ _ _ _ _ _ z => z.elim, fun _ _ _ _ _ _ z => z.elim, l.rt, l.xe, l.rf⟩ (fun G' H' σ' ρ' I' s' z => ?_) G1 H1 _ _ I1 (Same.refl _) (z (valAt σ) v)
  obtain ⟨z1, z2, z3, z4⟩ := z
  refine sm B G0 H0 G' H' H σ' ρ' v d D I' z1 (dn.mono (fun _ h => h) s') z3 (fun G2 H2 H3 σ3 s2 I2 ew ds => ?_)
  have gg : Same G G2 := (t.gg.trans s').trans s2
  have B0 := I.back I2 gg ds
  have B1 := B0.swapS (j := i) (s := .un) (fun _ _ => .un) (fun _ z => by cases z)
  have B2 := En.resAll I I2 B1 J z2
  exact sS B G0 H0 G H3 σ3 _ (B2.rewipe ew) Gs sg D C l z4

/-! ### statements that change new lists -/
mutual
theorem Rep.fun {K : PySem.W.Frag} {G : Hp} : ∀ {d e : D} {v : V}, Rep K G v d → Rep K G v e → d = e
  | .lst ds, e, _, .lst a b, h => by
    cases h with
    | lst a2 b2 => rw [a] at a2; cases a2; rw [Reps.fun b b2]
    | tup a2 b2 => rw [a] at a2; cases a2
    | ins a2 b2 => rw [a] at a2; cases a2
    | dct a2 k2 b2 => rw [a] at a2; cases a2
    | dct0 a2 => rw [a] at a2; cases a2
  | .tup ds, e, _, .tup a b, h => by
    cases h with
    | lst a2 b2 => rw [a] at a2; cases a2
    | tup a2 b2 => rw [a] at a2; cases a2; rw [Reps.fun b b2]
    | ins a2 b2 => rw [a] at a2; cases a2
    | dct a2 k2 b2 => rw [a] at a2; cases a2
    | dct0 a2 => rw [a] at a2; cases a2
  | .ins _ _ ds, e, _, .ins a b, h => by
    cases h with
    | lst a2 b2 => rw [a] at a2; cases a2
    | tup a2 b2 => rw [a] at a2; cases a2
    | ins a2 b2 => rw [a] at a2; cases a2; rw [Reps.fun b b2]
    | dct a2 k2 b2 => rw [a] at a2; cases a2
    | dct0 a2 => rw [a] at a2; cases a2
  | .dct _ _, e, _, .dct0 a, h => by
    cases h with
    | lst a2 b2 => rw [a] at a2; cases a2
    | tup a2 b2 => rw [a] at a2; cases a2
    | ins a2 b2 => rw [a] at a2; cases a2
    | dct a2 k2 b2 => rw [a] at a2; cases a2
    | dct0 a2 => rfl
  | .dct _ ds, e, _, .dct a k b n, h => by
    cases h with
    | dct0 a2 => rw [a] at a2; cases a2
    | lst a2 b2 => rw [a] at a2; cases a2
    | tup a2 b2 => rw [a] at a2; cases a2
    | ins a2 b2 => rw [a] at a2; cases a2
    | @dct _ od2 kvs2 ks2 _ a2 k2 b2 n2 =>
      rw [a] at a2; cases a2
      have := Reps.fun b b2
      subst this
      rw [k] at k2
      have inj : ∀ {l m : List DK}, l.map DK.key = m.map DK.key → l = m := fun {l} => by
        induction l with
        | nil => intro m h; cases m with | nil => rfl | cons _ _ => cases h
        | cons x l ih =>
          intro m h
          cases m with
          | nil => cases h
          | cons y m =>
            simp only [List.map_cons, List.cons.injEq] at h
            rw [ih h.2]
            congr 1
            cases x with
            | inl i => cases y with
              | inl j => exact congrArg Sum.inl (Sum.inl.inj h.1)
              | inr j => exact absurd h.1 (by intro z; cases z)
            | inr i => cases y with
              | inl j => exact absurd h.1 (by intro z; cases z)
              | inr j =>
                have := Sum.inr.inj h.1
                have := congrArg (fun z : Str => z.cps.toList) this
                exact congrArg Sum.inr (by simpa using this)
      rw [inj k2]
  | .non, _, _, .non, h => by cases h; rfl
  | .bl _, _, _, .bl _, h => by cases h; rfl
  | .int _, _, _, .int _, h => by cases h; rfl
  | .str _, e, _, .str _, h => by
    generalize hv : V.str _ = v at h
    cases h with
    | str s =>
      have := congrArg (fun z : V => match z with | .str t => t.cps.toList | _ => []) hv
      exact congrArg D.str (by simpa using this)
    | _ => cases hv
theorem Reps.fun {K : PySem.W.Frag} {G : Hp} : ∀ {ds es : List D} {vs : List V}, Reps K G vs ds → Reps K G vs es → ds = es
  | [], _, _, .nil, h => by cases h; rfl
  | _ :: _, _, _, .cons a b, h => by
    cases h with
    | cons a2 b2 => rw [Rep.fun a a2, Reps.fun b b2]
end
mutual
/-- a new list apart from one that is greater -/
theorem DN.avoid {K : PySem.W.Frag} {Hs G : Hp} {p : Addr} {o : HO} {big : List D} (hp : Rep K G (.ref p) (.lst big)) : ∀ {d : D} {v : V}, sizeOf d < sizeOf (D.lst big) → Rep K G v d → DN K Hs G v d → DN K (upd Hs p o) G v d
  | .lst ds, _, sz, r, h => by
    cases h with
    | flat f => cases f
    | @lst a xs _ x y z =>
      have ne : a ≠ p := fun e => by
        subst e
        have := Rep.fun hp r
        rw [this] at sz; omega
      cases r with
      | lst y2 b =>
        rw [y] at y2; cases y2
        exact .lst (by rw [upd_ne ne]; exact x) y (DNs.avoid hp (by simp only [D.lst.sizeOf_spec] at sz ⊢; omega) b z)
  | .tup ds, _, sz, r, h => by
    cases h with
    | flat f => exact .flat f
    | @tup a xs _ y z =>
      cases r with
      | tup y2 b =>
        rw [y] at y2; cases y2
        exact .tup y (DNs.avoid hp (by simp only [D.tup.sizeOf_spec] at sz; simp only [D.lst.sizeOf_spec] at sz ⊢; omega) b z)
  | .non, _, _, _, _ => .flat rfl
  | .bl _, _, _, _, _ => .flat rfl
  | .int _, _, _, _, _ => .flat rfl
  | .str _, _, _, _, _ => .flat rfl
  | .ins _ _ _, _, _, _, h => by cases h with | flat f => cases f
  | .dct _ _, _, _, _, h => by cases h with | flat f => cases f
theorem DNs.avoid {K : PySem.W.Frag} {Hs G : Hp} {p : Addr} {o : HO} {big : List D} (hp : Rep K G (.ref p) (.lst big)) : ∀ {ds : List D} {vs : List V}, sizeOf ds < sizeOf (D.lst big) → Reps K G vs ds → DNs K Hs G vs ds → DNs K (upd Hs p o) G vs ds
  | [], _, _, _, h => by cases h; exact .nil
  | d :: ds, _, sz, r, h => by
    cases h with
    | cons a b =>
      cases r with
      | cons r1 r2 =>
        simp only [List.cons.sizeOf_spec] at sz
        exact .cons (DN.avoid hp (by omega) r1 a) (DNs.avoid hp (by omega) r2 b)
end
theorem DNs.at {K : PySem.W.Frag} {Hs G : Hp} : ∀ {vs : List V} {ds : List D} {i : Nat} {v : V} {d : D}, DNs K Hs G vs ds → vs[i]? = some v → ds[i]? = some d → DN K Hs G v d
  | _, _, 0, _, _, .cons a _, e1, e2 => by simp at e1 e2; subst e1; subst e2; exact a
  | _, _, i + 1, v, d, .cons _ b, e1, e2 => DNs.at (i := i) b (by simpa using e1) (by simpa using e2)
  | _, _, _, _, _, .nil, e1, _ => by simp at e1
theorem Reps.at2 {K : PySem.W.Frag} {G : Hp} {vs : List V} {ds : List D} {i : Nat} {v : V} {d : D} (r : Reps K G vs ds) (e1 : vs[i]? = some v) (e2 : ds[i]? = some d) : Rep K G v d := by
  obtain ⟨u, h1, h2⟩ := r.get e2
  rw [e1] at h1; cases h1; exact h2
theorem DKp.le {Hs G' H' H2 : Hp} {k m : Nat} (h : DKp Hs G' H' k H2) (l : k ≤ m) : DKp Hs G' H' m H2 := ⟨h.1, fun a s e => by
  obtain ⟨l', e1, e2⟩ := h.2 a s e
  exact ⟨l', e1, by omega⟩⟩
theorem DKp.start {Hs G' H' : Hp} (g : Same G' H') : DKp Hs G' H' 0 H' := ⟨fun _ _ h _ => h, fun a l e => ⟨l, g _ _ e, Nat.le_refl _⟩⟩
theorem DKp.ext {Hs G' H' H2 H3 : Hp} {k : Nat} (h : DKp Hs G' H' k H2) (g : Same H2 H3) : DKp Hs G' H' k H3 := ⟨fun a u e n => g _ _ (h.1 a u e n), fun a l e => by
  obtain ⟨l', e1, e2⟩ := h.2 a l e
  exact ⟨l', g _ _ e1, e2⟩⟩
theorem DKp.put {Hs G' H' H2 : Hp} {k m : Nat} {a : Addr} {l ws : List V} (h : DKp Hs G' H' k H2) (ha : Hs a = none) (ga : G' a = some (.lst l)) (hl : ws.length ≤ l.length + m) (km : k ≤ m) : DKp Hs G' H' m (upd H2 a (.lst ws)) := by
  refine ⟨fun b u e n => ?_, fun b l' e => ?_⟩
  · by_cases z : b = a
    · subst z; exact absurd ⟨ha, l, ga⟩ n
    · rw [upd_ne z]; exact h.1 b u e n
  · by_cases z : b = a
    · subst z; rw [ga] at e; cases e; exact ⟨ws, upd_same, hl⟩
    · rw [upd_ne z]
      obtain ⟨l2, e1, e2⟩ := h.2 b l' e
      exact ⟨l2, e1, by omega⟩
/-- one that is new since Hs, and a statement over it: at most c longer -/
structure XDs (X : Cx) (i : Nat) (W : List Nat) (st : Stmt) (need : D → Nat → Prop) (c : Nat) : Prop where
  go : ∃ t : TS, PS X st t ∧ ∀ (Hs G' H' H2 : Hp) (v : V) (d : D) (σ2 : L2.St) (D : Ends) (k : Nat), Same G' H' → Rep X.K G' v d → DN X.K Hs G' v d → need d k → σ2[i]? = some (some v) → DKp Hs G' H' k H2 →
    (∀ σ3 H3, L2.wipe σ3 W = L2.wipe σ2 W → DKp Hs G' H' (k + c) H3 → D.nx σ3 H3) → t D σ2 H2
structure XDc (X : Cx) (i : Nat) (W : List Nat) (f : List Stmt → List Stmt) (need : D → Nat → Prop) (c : Nat) : Prop where
  go : ∀ (rest : List Stmt) (tr : TS), PSs X rest tr → ∃ tm : TS, PSs X (f rest) tm ∧ ∀ (Hs G' H' H2 : Hp) (v : V) (d : D) (σ2 : L2.St) (D : Ends) (k : Nat), Same G' H' → Rep X.K G' v d → DN X.K Hs G' v d → need d k → σ2[i]? = some (some v) → DKp Hs G' H' k H2 →
    (∀ σ3 H3, L2.wipe σ3 W = L2.wipe σ2 W → DKp Hs G' H' (k + c) H3 → tr D σ3 H3) → tm D σ2 H2
section
variable {X : Cx} {i : Nat} {W : List Nat}
theorem xdc_nil : XDc X i W (fun r => r) (fun _ _ => True) 0 := ⟨fun rest tr h => ⟨tr, h, fun _ _ _ H2 _ _ σ2 _ _ _ _ _ _ _ dk k => k σ2 H2 rfl dk⟩⟩
theorem xdc_cons {st : Stmt} {f : List Stmt → List Stmt} {n m : D → Nat → Prop} {c c2 : Nat} (h : XDs X i W st n c) (hb : XDc X i W f m c2) (iW : i ∉ W := by decide) : XDc X i W (fun r => st :: f r) (fun d k => n d k ∧ m d (k + c)) (c + c2) := ⟨fun rest tr hr => by
  obtain ⟨tb, p1, s1⟩ := hb.go rest tr hr
  obtain ⟨t, p0, s0⟩ := h.go
  refine ⟨tSeq t tb, pss_cons p0 p1, fun Hs G' H' H2 v d σ2 D k g r dn nd e dk kk => ?_⟩
  refine s0 Hs G' H' H2 v d σ2 { D with nx := tb D } k g r dn nd.1 e dk (fun σ3 H3 ew dk3 => ?_)
  refine s1 Hs G' H' H3 v d σ3 D (k + c) g r dn nd.2 ?_ dk3 (fun σ4 H4 ew4 dk4 => kk σ4 H4 (ew4.trans ew) (by rw [← Nat.add_assoc]; exact dk4))
  rw [wipe_at ew iW]; exact e⟩
theorem xd_of {f : List Stmt → List Stmt} {m : D → Nat → Prop} {c : Nat} (h : XDc X i W f m c) : XD X i W f (fun _ d => m d 0) := ⟨fun rest tr hr => by
  obtain ⟨tm, p, s⟩ := h.go rest tr hr
  refine ⟨tm, p, fun B G0 H0 G' H' Hs σ' ρ' v d D I e dn nd k => ?_⟩
  obtain ⟨o, g1, g2⟩ := pget I.sl e
  cases g2 with
  | pin r => exact s Hs G' H' H' v d σ' D 0 I.st.gh r dn nd g1 (DKp.start I.st.gh) (fun σ3 H3 ew dk => k G' H' H3 σ3 (Same.refl _) I ew dk.1)⟩
theorem xd_if {f : List Stmt → List Stmt} {m : D → Nat → Prop} {c : Nat} {e : Expr} {E : XK} {dt : DT} {pos : Pos} (ht : XT X E e dt) (h : XDc X i W f m c) : XD X i W (fun r => .If e (f []) [] pos :: r) (fun ρ d => dt ρ (fun _ => False) fun b => ifB b (m d 0) True) := ⟨fun rest tr hr => by
  obtain ⟨tm, p, s⟩ := h.go [] _ pss_nil
  refine ⟨_, pss_cons (ps_if ht.pt p pss_nil) hr, fun B G0 H0 G' H' Hs σ' ρ' v d D I e dn nd k => ?_⟩
  refine sT B G0 H0 G' H' σ' ρ' I _ noX _ _ (fun b G2 H2 t z => ?_) nd
  have I2 := I.step t
  cases b with
  | true =>
    obtain ⟨o, g1, g2⟩ := pget I2.sl e
    cases g2 with
    | pin r => exact s Hs G2 H2 H2 v d σ' _ 0 I2.st.gh r (dn.mono (fun _ h => h) t.gg) z g1 (DKp.start I2.st.gh) (fun σ3 H3 ew dk => k G2 H2 H3 σ3 t.gg I2 ew dk.1)
  | false => exact k G2 H2 H2 σ' t.gg I2 rfl (fun _ _ h _ => h)⟩

/-! #### which list -/
structure XTg (X : Cx) (i : Nat) (e : Expr) (P : D → D → Prop) : Prop where
  go : ∃ te : TE, PE X e te ∧ ∀ (Hs G' H' H2 : Hp) (v : V) (d d' : D) (σ2 : L2.St) (k : Nat), Same G' H' → Rep X.K G' v d → DN X.K Hs G' v d → σ2[i]? = some (some v) → DKp Hs G' H' k H2 → P d d' → ∀ Q : VK, (∀ v', Rep X.K G' v' d' → DN X.K Hs G' v' d' → Q v' H2) → te σ2 H2 Q
theorem xtg_name {x : Str} {pos : Pos} (h : PE X (.Name x pos) (tVar i)) : XTg X i (.Name x pos) (fun d d' => d' = d) := ⟨_, h, fun Hs G' H' H2 v d d' σ2 k _ r dn e dk hp Q q => by
  subst hp
  exact ⟨v, e, q v r dn⟩⟩
theorem xtg_ix {e : Expr} {P : D → D → Prop} {n j : Nat} {p1 pos : Pos} (h : XTg X i e P) (hs : PlainIx (.Constant (.int n) j p1) := by exact fun _ _ => rfl) : XTg X i (.Subscript e (.Constant (.int n) j p1) pos) (fun d d' => ∃ xs, P d (.tup xs) ∧ xs[n]? = some d') := by
  obtain ⟨te, p, s⟩ := h.go
  refine ⟨_, pe_ix ix_seq p pe_int hs, fun Hs G' H' H2 v d d' σ2 k g r dn e dk ⟨xs, hp, hx⟩ Q q => ?_⟩
  refine s Hs G' H' H2 v d (.tup xs) σ2 k g r dn e dk hp _ (fun v' r' dn' => ?_)
  cases r' with
  | @tup a vs _ a1 b1 =>
    obtain ⟨u, h1, h2⟩ := b1.get hx
    have ha : H2 a = some (.tup vs) := dk.1 a _ (g _ _ a1) fun ⟨_, l, z⟩ => by rw [a1] at z; cases z
    refine .inr (.inl ⟨_, vs, _, u, rfl, rfl, SqT.of ha, atI_nat h1, q u h2 ?_⟩)
    cases dn' with
    | flat f =>
      refine .flat ?_
      simp only [nol] at f
      exact nols_iff.mp f _ (List.mem_of_getElem? hx)
    | tup y z => rw [a1] at y; cases y; exact z.at h1 hx
/-- what is put in: made anew -/
structure XPt (X : Cx) (e : Expr) : Prop where
  go : ∃ te : TE, PE X e te ∧ ∀ (σ : L2.St) (H : Hp) (Q : VK), (∀ v H', Same H H' → Q v H') → te σ H Q
theorem xpt_int {j k pos} : XPt X (.Constant (.int j) k pos) := ⟨_, pe_int, fun σ H Q q => q _ H (Same.refl _)⟩
theorem xpt_non {k pos} : XPt X (.Constant .none k pos) := ⟨_, pe_non, fun σ H Q q => q _ H (Same.refl _)⟩
theorem xpt_str {x k pos} : XPt X (.Constant (.str x) k pos) := ⟨_, pe_str, fun σ H Q q => q _ H (Same.refl _)⟩
structure XPs (X : Cx) (es : List Expr) (n : Nat) : Prop where
  go : ∃ ta : TA, PA X es ta ∧ ∀ (σ : L2.St) (H : Hp) (Q : List V → Hp → Prop), (∀ vs H', vs.length = n → Same H H' → Q vs H') → ta σ H Q
theorem xps_nil : XPs X [] 0 := ⟨_, pa_nil, fun σ H Q q => q [] H rfl (Same.refl _)⟩
theorem xps_cons {e : Expr} {es : List Expr} {n : Nat} (h : XPt X e) (hr : XPs X es n) (hs : starEach (e :: es) X.env = (false, eval e X.env) :: starEach es X.env := by rfl) : XPs X (e :: es) (n + 1) := by
  obtain ⟨te, p, s⟩ := h.go
  obtain ⟨ta, pa, sa⟩ := hr.go
  exact ⟨_, pa_cons p pa hs, fun σ H Q q => s σ H _ fun v H1 g1 => sa σ H1 _ fun vs H2 l g2 => q (v :: vs) H2 (by rw [List.length_cons, l]) (g1.trans g2)⟩
theorem xpt_tup {es : List Expr} {n : Nat} {k pos} (h : XPs X es n) (hn : n ≤ 100) : XPt X (.Tuple es k pos) := by
  obtain ⟨ta, pa, sa⟩ := h.go
  exact ⟨_, pe_tup pa, fun σ H Q q => sa σ H _ fun vs H1 l g1 => ⟨by rw [l]; exact small_line (by omega), fun p hp => q _ _ (fun a u e => by rw [upd_ne (ne_of_none (g1 a u e) hp)]; exact g1 a u e)⟩⟩
theorem xds_app {e : Expr} {P : D → D → Prop} {a : Expr} {apos cpos pos : Pos} (h : XTg X i e P) (ha : XPt X a)
    (hbase : attributeBase e "append" X.env (eval e X.env) = eval e X.env := by rfl)
    (hfew : ((backTo cpos (starEach [a] X.env)).all (fun x => !x.1) && (backToKw cpos (keywordEach [] X.env)).all (fun x => x.1.isSome)
      && decide (([a] : List Expr).length + ([] : List Keyword).length + (if ([] : List Keyword).isEmpty then 0 else 1) < 30)) = true := by rfl)
    (hline : (apos.endLine == cpos.line) = true := by rfl) (hst : starEach [a] X.env = (false, eval a X.env) :: starEach [] X.env := by rfl) (hplain : (backTo cpos (starEach [] X.env)).any (·.1) = false := by rfl)
    (hs : swapsWith (.Call (.Attribute e "append" apos) [a] [] cpos) none pos.line X.env = pure false := by rfl) :
    XDs X i W (.Expr (.Call (.Attribute e "append" apos) [a] [] cpos) pos) (fun d k => ∃ ds, P d (.lst ds) ∧ ds.length + k < sizeLine) 1 := by
  obtain ⟨te, p, s⟩ := h.go
  obtain ⟨ta, pa, sa⟩ := ha.go
  refine ⟨_, ps_expr (pe_bm PySem.F.plainAttrs_list PySem.F.slot_list_append PySem.F.type_list_append mt_append p (pa_cons pa pa_nil hst) hbase hfew hline hst hplain) hs, fun Hs G' H' H2 v d σ2 D k g r dn ⟨ds, hp, hl⟩ e dk kk => ?_⟩
  refine s Hs G' H' H2 v d (.lst ds) σ2 k g r dn e dk hp _ (fun v' r' dn' => ?_)
  cases r' with
  | @lst a vs _ a1 b1 =>
    obtain ⟨l', h1, h2⟩ := dk.2 a vs a1
    refine ⟨.inl ⟨rfl, _, SqL.of h1⟩, sa σ2 H2 _ (fun y H3 g3 => ?_)⟩
    refine ⟨a, l', y, rfl, rfl, g3 _ _ h1, by rw [b1.length] at h2; omega, kk σ2 _ rfl ((dk.ext g3).put (dn'.hd rfl) a1 ?_ (by omega))⟩
    rw [List.length_append]; simp; omega
theorem xds_rev {e : Expr} {P : D → D → Prop} {apos cpos pos : Pos} (h : XTg X i e P)
    (hbase : attributeBase e "reverse" X.env (eval e X.env) = eval e X.env := by rfl) (hline : (apos.endLine == cpos.line) = true := by rfl)
    (hs : swapsWith (.Call (.Attribute e "reverse" apos) [] [] cpos) none pos.line X.env = pure false := by rfl) :
    XDs X i W (.Expr (.Call (.Attribute e "reverse" apos) [] [] cpos) pos) (fun d _ => ∃ ds, P d (.lst ds)) 0 := by
  obtain ⟨te, p, s⟩ := h.go
  refine ⟨_, ps_expr (pe_bm0 PySem.F.plainAttrs_list PySem.F.slot_list_reverse PySem.F.type_list_reverse mt_reverse p hbase hline) hs, fun Hs G' H' H2 v d σ2 D k g r dn ⟨ds, hp⟩ e dk kk => ?_⟩
  refine s Hs G' H' H2 v d (.lst ds) σ2 k g r dn e dk hp _ (fun v' r' dn' => ?_)
  cases r' with
  | @lst a vs _ a1 b1 =>
    obtain ⟨l', h1, h2⟩ := dk.2 a vs a1
    exact ⟨.inl ⟨rfl, _, SqL.of h1⟩, a, l', rfl, rfl, h1, kk σ2 _ rfl (dk.put (dn'.hd rfl) a1 (by rw [List.length_reverse]; exact h2) (Nat.le_refl _))⟩
theorem xds_clr {e : Expr} {P : D → D → Prop} {apos cpos pos : Pos} (h : XTg X i e P)
    (hbase : attributeBase e "clear" X.env (eval e X.env) = eval e X.env := by rfl) (hline : (apos.endLine == cpos.line) = true := by rfl)
    (hs : swapsWith (.Call (.Attribute e "clear" apos) [] [] cpos) none pos.line X.env = pure false := by rfl) :
    XDs X i W (.Expr (.Call (.Attribute e "clear" apos) [] [] cpos) pos) (fun d _ => ∃ ds, P d (.lst ds)) 0 := by
  obtain ⟨te, p, s⟩ := h.go
  refine ⟨_, ps_expr (pe_bm0 PySem.F.plainAttrs_list PySem.F.slot_list_clear PySem.F.type_list_clear mt_clear p hbase hline) hs, fun Hs G' H' H2 v d σ2 D k g r dn ⟨ds, hp⟩ e dk kk => ?_⟩
  refine s Hs G' H' H2 v d (.lst ds) σ2 k g r dn e dk hp _ (fun v' r' dn' => ?_)
  cases r' with
  | @lst a vs _ a1 b1 =>
    obtain ⟨l', h1, h2⟩ := dk.2 a vs a1
    exact ⟨.inl ⟨rfl, _, SqL.of h1⟩, a, l', rfl, rfl, h1, kk σ2 _ rfl (dk.put (dn'.hd rfl) a1 (Nat.zero_le _) (Nat.le_refl _))⟩
end

/-! #### for y in x: statements that change y -/
section
variable {X : Cx} {i j : Nat} {W : List Nat}
/-- what a loop over the new list asks of its items -/
def itNeed (sel : D → D → Prop) (m : D → Nat → Prop) (d : D) : Prop := ∃ dss, d = .lst dss ∧ ∀ e ∈ dss, ∃ e', sel e e' ∧ ∀ k, k ≤ 1000000 → m e' k
theorem sizeOf_mem {x : D} : ∀ {l : List D}, x ∈ l → sizeOf x < sizeOf (D.lst l)
  | [], h => by cases h
  | a :: l, h => by
    simp only [D.lst.sizeOf_spec, List.cons.sizeOf_spec]
    rcases List.mem_cons.mp h with e | h
    · subst e; omega
    · have := sizeOf_mem h
      simp only [D.lst.sizeOf_spec] at this; omega
/-- the rest behind the loop -/
theorem xd_for {f g : List Stmt → List Stmt} {sel : D → D → Prop} {m m2 : D → Nat → Prop} {c c2 : Nat} {tg : Expr} {tG : TG} {it : Str} {pi_ pos : Pos}
    (hp : PassesOwn (model X.prog X.w) X.A X.env X.xe) (hc : X.calm = true) (hv : PE X (.Name it pi_) (tVar i)) (hg : PG X tg tG) (hb : XDc X j W f m c) (iW : i ∉ W := by decide) (jW : j ∈ W := by decide)
    (hG : ∀ (Hs G' H' H2 : Hp) (v : V) (d d' : D) (σ2 : L2.St) (k : Nat), Same G' H' → Rep X.K G' v d → DN X.K Hs G' v d → sel d d' → DKp Hs G' H' k H2 → i < σ2.length → j < σ2.length → ∀ Q : L2.St → Hp → Prop,
      (∀ v' σ3, Rep X.K G' v' d' → DN X.K Hs G' v' d' → σ3[j]? = some (some v') → L2.wipe σ3 W = L2.wipe σ2 W → Q σ3 H2) → tG v σ2 H2 Q)
    (hJ : j < X.N.length) (h2 : XDc X i W g m2 c2)
    (hs : ∀ x, foldedSetIterable (.Name it pi_) X.env x = pure x := by intro _; rfl) :
    XD X i W (fun r => .For tg (.Name it pi_) (f []) [] pos :: g r) (fun ρ d => j < ρ.length ∧ ∃ dss, d = .lst dss ∧ (∀ e ∈ dss, ∃ e', sel e e' ∧ ∀ k, k ≤ 1000000 → m e' k) ∧ dss.length * c ≤ 1000000 ∧ m2 d (dss.length * c)) := ⟨fun rest tr hr => by
  obtain ⟨tb, pb, sb⟩ := hb.go [] _ pss_nil
  obtain ⟨t2, p2, s2⟩ := h2.go rest tr hr
  refine ⟨_, pss_cons (ps_for hp hc (pi_list hv) hg pb hs) p2, fun B G0 H0 G' H' Hs σ' ρ' v d D I e dn nd kk => ?_⟩
  obtain ⟨jl, dss, rfl, hi, hcost, hm2⟩ := nd
  obtain ⟨o, g1, g2⟩ := pget I.sl e
  cases g2 with
  | pin r =>
  have r0 := r
  cases r with
  | @lst p vs _ a1 b1 =>
  have hp' : H' p = some (.lst vs) := I.st.gh _ _ a1
  have sl := plen I.sl
  have il : i < σ'.length := (List.getElem?_eq_some_iff.mp g1).1
  refine ⟨.ref p, g1, p, rfl, ⟨vs, SqL.of hp'⟩, ?_⟩
  -- the list itself is kept while the loop walks it
  have dnA : ∀ (n : Nat) w e, vs[n]? = some w → dss[n]? = some e → DN X.K (upd Hs p (.lst [])) G' w e := fun n w e h1 h2 =>
    DN.avoid r0 (sizeOf_mem (List.mem_of_getElem? h2)) (b1.at2 h1 h2) ((dn.inner a1).at h1 h2)
  refine ⟨fun n mm σ H => mm = vs.length - n ∧ n ≤ vs.length ∧ L2.wipe σ W = L2.wipe σ' W ∧ DKp (upd Hs p (.lst [])) G' H' (n * c) H, ⟨vs.length, by omega, Nat.zero_le _, rfl, by rw [Nat.zero_mul]; exact DKp.start I.st.gh⟩, ?_⟩
  rintro n mm σ H ⟨rfl, hle, ew, dk⟩
  have hpp : H p = some (.lst vs) := dk.1 p _ hp' fun ⟨z, _⟩ => by rw [upd_same] at z; cases z
  have len : σ.length = σ'.length := by have := congrArg List.length ew; simpa [wipe_length] using this
  have ll : vs.length = dss.length := b1.length
  by_cases hlt : n < vs.length
  · have hw : vs[n]? = some vs[n] := List.getElem?_eq_getElem hlt
    have hd : dss[n]? = some dss[n] := List.getElem?_eq_getElem (by omega)
    refine .inr ⟨⟨vs, vs[n], SqL.of hpp, hw⟩, fun σ H => L2.wipe σ W = L2.wipe σ' W ∧ DKp (upd Hs p (.lst [])) G' H' ((n + 1) * c) H, fun σ2 H2 ⟨y1, y2⟩ => ⟨vs.length - (n + 1), by omega, rfl, hlt, y1, y2⟩, fun x H2 y => ?_⟩
    obtain ⟨rfl, fy⟩ := y
    have ex := fy vs (SqL.of hpp)
    rw [hw] at ex
    cases ex
    obtain ⟨e', he', hm⟩ := hi dss[n] (List.getElem_mem _)
    have nc : n * c ≤ 1000000 := Nat.le_trans (Nat.mul_le_mul_right c (by omega)) hcost
    refine hG _ G' H' _ _ _ e' σ (n * c) I.st.gh (b1.at2 hw hd) (dnA n _ _ hw hd) he' dk (by omega) (by omega) _ (fun v' σ3 r3 dn3 e3 ew3 => ?_)
    refine sb _ G' H' _ v' e' σ3 _ (n * c) I.st.gh r3 dn3 (hm _ nc) e3 dk (fun σ4 H4 ew4 dk4 => ?_)
    exact ⟨(ew4.trans ew3).trans ew, by rw [Nat.succ_mul]; exact dk4⟩
  · have en : n = vs.length := by omega
    subst en
    refine .inl ⟨⟨vs, SqL.of hpp, Nat.le_refl _⟩, ?_⟩
    have dk' : DKp Hs G' H' (vs.length * c) H := ⟨fun a u h1 h2 => dk.1 a u h1 fun ⟨z1, z2⟩ => h2 ⟨by
      by_cases z : a = p
      · subst z; rw [upd_same] at z1; cases z1
      · rw [upd_ne z] at z1; exact z1, z2⟩, dk.2⟩
    refine s2 Hs G' H' H (.ref p) (.lst dss) σ D (vs.length * c) I.st.gh r0 dn (by rw [ll]; exact hm2) (by rw [wipe_at ew iW]; exact g1) dk' (fun σ3 H3 ew3 dk3 => ?_)
    exact kk G' H' H3 σ3 (Same.refl _) I (ew3.trans ew) dk3.1⟩
/-- for y in x -/
theorem hG_name {K : PySem.W.Frag} (jW : j ∈ W) (Hs G' H' H2 : Hp) (v : V) (d d' : D) (σ2 : L2.St) (k : Nat) (_ : Same G' H') (r : Rep K G' v d) (dn : DN K Hs G' v d) (e : d' = d) (_ : DKp Hs G' H' k H2) (_ : i < σ2.length) (jl : j < σ2.length) (Q : L2.St → Hp → Prop)
    (q : ∀ v' σ3, Rep K G' v' d' → DN K Hs G' v' d' → σ3[j]? = some (some v') → L2.wipe σ3 W = L2.wipe σ2 W → Q σ3 H2) : gName j v σ2 H2 Q := by
  subst e
  exact q v _ r dn (List.getElem?_set_self jl) (wipe_set jW)
/-- for a, y in x: the second one -/
theorem hG_pair {K : PySem.W.Frag} {a : Nat} (aW : a ∈ W) (jW : j ∈ W) (aj : a ≠ j) (Hs G' H' H2 : Hp) (v : V) (d d' : D) (σ2 : L2.St) (k : Nat) (g : Same G' H') (r : Rep K G' v d) (dn : DN K Hs G' v d) (e : ∃ x, d = .tup [x, d']) (dk : DKp Hs G' H' k H2) (_ : i < σ2.length) (jl : j < σ2.length) (Q : L2.St → Hp → Prop)
    (q : ∀ v' σ3, Rep K G' v' d' → DN K Hs G' v' d' → σ3[j]? = some (some v') → L2.wipe σ3 W = L2.wipe σ2 W → Q σ3 H2) : gTup K 2 (gCons (gName a) (gCons (gName j) gNil)) v σ2 H2 Q := by
  obtain ⟨x, rfl⟩ := e
  cases r with
  | tup a1 b1 =>
    have b0 := b1
    cases b1 with
    | cons r1 b1 =>
      cases b1 with
      | cons r2 b1 =>
        cases b1
        have ha : H2 _ = some (.tup _) := dk.1 _ _ (g _ _ a1) fun ⟨_, l, z⟩ => by rw [a1] at z; cases z
        refine ⟨_, _, rfl, SqT.of ha, rfl, _, _, rfl, _, _, rfl, rfl, q _ _ r2 ?_ (List.getElem?_set_self (by rw [List.length_set]; exact jl)) (by rw [wipe_set jW, wipe_set aW])⟩
        cases dn with
        | flat f =>
          simp only [nol, nols, Bool.and_eq_true] at f
          exact .flat f.2.1
        | tup y z =>
          rw [a1] at y; cases y
          exact z.at (i := 1) rfl rfl
end

/-! #### the questions, by name -/
abbrev pSelf : D → D → Prop := fun d d' => d' = d
abbrev pIx (n : Nat) (P : D → D → Prop) : D → D → Prop := fun d d' => ∃ xs, P d (.tup xs) ∧ xs[n]? = some d'
abbrev nApp (P : D → D → Prop) : D → Nat → Prop := fun d k => ∃ ds, P d (.lst ds) ∧ ds.length + k < sizeLine
abbrev nLst (P : D → D → Prop) : D → Nat → Prop := fun d _ => ∃ ds, P d (.lst ds)
abbrev nNil : D → Nat → Prop := fun _ _ => True
abbrev nSeq (n : D → Nat → Prop) (c : Nat) (m : D → Nat → Prop) : D → Nat → Prop := fun d k => n d k ∧ m d (k + c)
abbrev nOf (m : D → Nat → Prop) : List Sl → D → Prop := fun _ d => m d 0
abbrev nIf (dt : DT) (m : D → Nat → Prop) : List Sl → D → Prop := fun ρ d => dt ρ (fun _ => False) fun b => ifB b (m d 0) True
abbrev sSnd : D → D → Prop := fun d d' => ∃ x, d = .tup [x, d']
abbrev nFor (j : Nat) (sel : D → D → Prop) (m : D → Nat → Prop) (c : Nat) (m2 : D → Nat → Prop) : List Sl → D → Prop := fun ρ d => j < ρ.length ∧ ∃ dss, d = .lst dss ∧ (∀ e ∈ dss, ∃ e', sel e e' ∧ ∀ k, k ≤ 1000000 → m e' k) ∧ dss.length * c ≤ 1000000 ∧ m2 d (dss.length * c)
end DL

/-! ### truth of data; x or y -/
namespace DL
open PySem PySem.Spec L2
open PyProof.Rows hiding St
def tru : D → Option Bool
  | .non => some false
  | .bl b => some b
  | .int i => some (i != 0)
  | .str s => some (!s.isEmpty)
  | .lst xs => some (!xs.isEmpty)
  | .tup xs => some (!xs.isEmpty)
  | .ins _ _ _ => none
  | .dct [] _ => some false
  | .dct (_ :: _) _ => none
theorem isEmpty_len {α β : Type} {a : List α} {b : List β} (h : a.length = b.length) : a.isEmpty = b.isEmpty := by
  cases a <;> cases b <;> simp_all
/-- what must be known of a text's length -/
def truLen : D → Prop
  | .str s => s.length ≤ sizeLine
  | _ => True
theorem Rep.tru {K : PySem.W.Frag} {G H : Hp} {v : V} {d : D} {k : Bool} (g : Same G H) (r : Rep K G v d) (h : DL.tru d = some k) (l : truLen d) : TruV K v H k := by
  cases r with
  | non => exact (Option.some.inj h).symm
  | bl b => exact (Option.some.inj h).symm
  | int i => exact (Option.some.inj h).symm
  | str s =>
    have l' : s.length ≤ sizeLine := l
    refine ⟨by simpa [Str.length] using l', ?_⟩
    rw [← Option.some.inj h]
    cases s with
    | nil => rfl
    | cons c s => show true = _; simp [Str.length]; omega
  | lst a b => exact .inl ⟨_, SqL.of (g _ _ a), by rw [← Option.some.inj h, isEmpty_len b.length]⟩
  | tup a b => exact .inr (.inl ⟨_, SqT.of (g _ _ a), by rw [← Option.some.inj h, isEmpty_len b.length]⟩)
  | ins a b => cases h
  | @dct a od kvs ks ds a1 kk b n =>
    cases ks with
    | nil => exact absurd rfl n
    | cons x y => cases h
  | dct0 a => exact .inr (.inr ⟨[], g _ _ a, (Option.some.inj h).symm⟩)
/-- a test by truth -/
def dTru (de : DE) : DT := fun ρ xe R => de ρ xe fun d => ∃ k, tru d = some k ∧ truLen d ∧ R k
/-- x or y, by truth -/
def dOrT (da db : DE) : DE := fun ρ xe R => da ρ xe fun d => ∃ k, tru d = some k ∧ truLen d ∧ ifB k (R d) (db ρ xe R)
section
variable {X : Cx} {E : XK} {a b : Expr} {da db : DE} {pos : Pos}
theorem xt_tru (h : XEx X E a da) (he : ∀ whole, isTrue a X.env whole = (do let v ← whole; standAt a.pos; holding [v] (truthy v)) := by intro _; rfl) : XT X E a (dTru da) := .of (pt_truth h.pe he) fun B G0 H0 G H σ ρ I xe lx Q R k q =>
  sE B G0 H0 G H σ ρ I xe lx _ _ (fun v G' H' d t r ⟨kk, z1, z2, z3⟩ => ⟨kk, r.tru t.gh z1 z2, k kk G' H' t z3⟩) q
theorem xOrT {rest : List Expr} (ha : XEx X E a da) (hb : XEx X E (.BoolOp .Or (b :: rest) pos) db) : XEx X E (.BoolOp .Or (a :: b :: rest) pos) (dOrT da db) := .of (pe_orT ha.pe hb.pe) fun B G0 H0 G H σ ρ I xe lx Q R k q =>
  sE B G0 H0 G H σ ρ I xe lx _ _ (fun v G' H' d t r ⟨kk, z1, z2, z3⟩ => ⟨kk, r.tru t.gh z1 z2, by
    cases kk with
    | true => rw [if_pos rfl]; exact k v G' H' d t r z3
    | false =>
      rw [if_neg (by decide)]
      exact sE B G0 H0 G' H' σ ρ (I.step t) xe lx _ _ (fun v G2 H2 d t2 r2 z => k v G2 H2 d (t.trans t2) r2 z) z3⟩) q
end
end DL

/-! ### sep.join(reversed(x)) -/
namespace JR
open PySem PySem.W PySem.Calls PyProof.Rows L2 RT
theorem join_rev {prog : Program} {w : World} {A : Around} {E : Value → Shared → Prop} {s : Shared} {x : Str} {t : Tok} {ys : List Str} {it l : Addr} {items : Array Value} {Q : Value → Shared → Prop} (hh : A.handled = none)
    (hit : s.heap.IsRevIter it l ((items.size : Int) - 1)) (hl : s.heap.IsList l items) (hne : l ≠ it) (hn : items.size ≤ sizeLine)
    (hP : ∀ acc : Array Value, ItemsOf (fun i v => items[items.size - 1 - i]? = some v) acc items.size → StrsAre acc.toList ys) (hok : (ys.map (·.length)).sum + ys.length * x.length ≤ 16777216)
    (hq : ∀ (h' : Heap) (tk : Nat) (t' : Tok), (∀ b o, b ≠ it → s.heap.get? b = some o → h'.get? b = some o) → Q (.str (Txt.join x ys) t') { s with heap := h', toks := tk }) :
    wpAny (model prog w) A (call (.builtin "str.join") [.str x t, .ref it]) Q E s := by
  refine wpAny_call (codeAny_call_builtin F.slot_str_join.plain F.entry_str_join (F.slot_str_join.check _ _ _ _ _ _ _ _ (typeIs_str _ _ _) (F.args_str_join_2 _ _) ?_))
  rw [join_tree_other]
  refine wpAny_bind (wpAny_typeOf (Heap.IsRevIter.typeIs (s := s) hit) ?_)
  show wpAny _ A.in1 ((pyIter (.ref it)).tryCatch _ >>= fun it => collect it >>= fun items => joinTail x items) _ _ s
  refine wpAny_bind (wpAny_tryCatch (wpAny_pyIter_revIter (s := s) hit ?_))
  refine wpAny_bind (collect_rev (A := A.in1) hh hit hl hne hn (fun h' tk acc hk hacc => ?_))
  obtain ⟨l, hl, ht⟩ := strsAre_values (hP acc hacc)
  subst ht
  rw [hl]
  have hok' := joinOk_of hok
  unfold JoinOk at hok'
  rw [Bool.not_eq_true'] at hok'
  have g : Gives (joinTail x (strValues l)) (joinMade x l) := by
    have g0 := gives_joinTail x l hok'
    cases l with
    | nil => exact g0
    | cons p r => cases r with
      | nil => exact g0
      | cons q r' => exact g0
  exact g prog w A (wants Q E) _ (post_join l ⟨joinFit_length hok', fun t' k => hq h' k t' hk⟩)
end JR
namespace L2
open PySem PySem.Spec PyProof.Rows
def tJoinRev (K : PySem.W.Frag) (to te : TE) : TE := fun σ H Q => to σ H fun x H1 => (∃ a, x = .str a) ∧ te σ H1 fun v H2 => ∃ (a : Str) (q : Addr) (ys : List Str), x = .str a ∧ v = .ref q ∧ SqL K H2 q (ys.map V.str) ∧ (ys.map (·.length)).sum + ys.length * a.length ≤ 16777216 ∧ Q (.str (Txt.join a ys.reverse)) H2
theorem pe_joinRev {X : Cx} {o e : Expr} {to te : TE} {apos pos p2 pos2 : Pos} (hc : X.calm = true) (ho : PE X o to) (hg2 : Gl X "reversed") (hm2 : X.mg "reversed" = none) (he : PE X e te)
    (hs1 : starEach [.Call (.Name "reversed" p2) [e] [] pos2] X.env = [(false, eval (.Call (.Name "reversed" p2) [e] [] pos2) X.env)] := by rfl)
    (hs : starEach [e] X.env = (false, eval e X.env) :: starEach [] X.env := by rfl)
    (hbase : attributeBase o "join" X.env (eval o X.env) = eval o X.env := by rfl) (hline : (apos.endLine == pos.line) = true := by rfl) :
    PE X (.Call (.Attribute o "join" apos) [.Call (.Name "reversed" p2) [e] [] pos2] [] pos) (tJoinRev X.K to te) := by
  refine ⟨fun pins s σ H Q I h => ?_⟩
  refine PySem.Call_method1 hbase hs1 hline (thn (ho.run pins s σ H _ I h) fun v s1 ⟨x, H1, I1, r1, q1⟩ => ?_)
  obtain ⟨⟨a, rfl⟩, q1⟩ := q1
  obtain ⟨t, rfl⟩ := _root_.id r1
  refine ⟨"str", _, F.plainAttrs_str, F.slot_str_join, F.type_str_join, typeIs_str _ _ _, (fun _ e => nomatch e), Calls.callWith_builtin rfl (Calls.evalArgs_plain (Calls.spliced_cons ?_))⟩
  refine Call_ (ld_blt I1 hg2 hm2 PyProof.Rows.boot_reversed (PyProof.Rows.callWith_type1 (args_cons (thn (he.run pins s1 σ H1 _ I1 q1) fun u s2 ⟨v, H2, I2, r2, q2⟩ => args_nil ?_) hs) hs rfl))
  obtain ⟨a', q, ys, ea, ev, hq, hz, q2⟩ := q2
  cases ea
  subst ev
  obtain rfl : u = Value.ref q := r2
  obtain ⟨its, rv, p', hzl⟩ := I2.list hq
  refine call_reversed_list p'.isList (Calls.spliced_nil ?_)
  have k0 : ∀ b o, s2.heap.get? b = some o → (s2.heap.push (revObj q ((its.toArray.size : Int) - 1))).get? b = some o := fun b o e => Heap.get?_push_of_some _ e
  have I3 : Inv X pins σ H2 { s2 with heap := s2.heap.push (revObj q ((its.toArray.size : Int) - 1)) } := I2.kept (t' := s2.toks) k0
  obtain ⟨f0, f1, f2, f3, f4, f5⟩ := I2.fpOk (H' := H2) (b := s2.heap.objs.size) (Nat.le_refl _) (I2.hok.fresh (Nat.le_refl _))
  have hl := p'.isList
  obtain ⟨ol, hol, _⟩ := id hl
  have hne : q ≠ s2.heap.objs.size := Nat.ne_of_lt (Heap.lt_size hol)
  have hn : its.toArray.size ≤ sizeLine := by rw [List.size_toArray, ← rv.length]; exact hzl
  refine JR.join_rev (s := { s2 with heap := s2.heap.push (revObj q ((its.toArray.size : Int) - 1)) }) (ys := ys.reverse) (I2.ok.hd hc) ⟨_, Heap.get?_push_size _ rfl, rfl, rfl⟩ (hl.push _) hne hn (fun acc hi => ?_) (by simpa using hz) fun h' tk t' hk => ?_
  · have := RT.vals_rev rv hi
    rw [← List.map_reverse] at this
    exact strsAre_of this
  · have I4 : Inv X pins σ H2 { s2 with heap := h', toks := tk } := I3.turned (t' := tk) (fun b o hb e => hk b o hb e) f0 f1 f3 f4 f5
    exact ⟨.str _, H2, I4, ⟨t', rfl⟩, q2⟩
end L2
namespace DL
open PySem PySem.Spec L2
open PyProof.Rows hiding St
def dJoinR0 (dj : DE) : DE := fun ρ xe R => dj ρ xe fun d => match d with
  | .lst xs => ∃ ps, strsD xs = some ps ∧ ps.flatten.length ≤ 16000000 ∧ R (.str ps.reverse.flatten)
  | _ => False
theorem xJoinR0 {X : Cx} {E : XK} {e : Expr} {de : DE} {ps pa pc p2 pos2 : Pos} {jj : Nat} {x : Str} (hc : X.calm = true) (hg2 : Gl X "reversed") (hm2 : X.mg "reversed" = none) (he : XEx X E e de) (hx : x = ⟨#[]⟩ := by rfl)
    (hs1 : starEach [.Call (.Name "reversed" p2) [e] [] pos2] X.env = [(false, eval (.Call (.Name "reversed" p2) [e] [] pos2) X.env)] := by rfl)
    (hs : starEach [e] X.env = (false, eval e X.env) :: starEach [] X.env := by rfl)
    (hbase : attributeBase (.Constant (.str x) jj ps) "join" X.env (eval (.Constant (.str x) jj ps) X.env) = eval (.Constant (.str x) jj ps) X.env := by rfl) (hline : (pa.endLine == pc.line) = true := by rfl) :
    XEx X E (.Call (.Attribute (.Constant (.str x) jj ps) "join" pa) [.Call (.Name "reversed" p2) [e] [] pos2] [] pc) (dJoinR0 de) := by
  subst hx
  refine .of (pe_joinRev hc pe_str hg2 hm2 he.pe hs1 hs hbase hline) fun B G0 H0 G H σ ρ I xe lx Q R k q => ⟨⟨_, rfl⟩, sE B G0 H0 G H σ ρ I xe lx _ _ (fun v G' H' d t r z => ?_) q⟩
  split at z
  · obtain ⟨ps, h1, h2, h3⟩ := z
    cases r with
    | lst a1 b1 =>
      refine ⟨_, _, ps.map fun p => (⟨p.toArray⟩ : Str), rfl, rfl, SqL.of ?_, ?_, ?_⟩
      · rw [← strs_rep b1 h1]; exact t.gh _ _ a1
      · rw [join0_len]
        have : (⟨#[]⟩ : Str).length = 0 := rfl
        rw [this]; omega
      · rw [← List.map_reverse, join0_eq]; exact k _ G' H' _ t (.str _) h3
  · exact z.elim
end DL

/-! ### enumerate(a text), enumerate(a tuple) -/
namespace EnG
open PySem
open PySem.Sem (wp)
set_option maxHeartbeats 2000000 in
theorem meets_new {v : Value} {o : Obj} {H : Heap → Prop} (B : Begins v o H) :
    Meets (Builtin.«enumerate.__new__» ⟨[.type "enumerate", v], []⟩) (fun _ R s => H s.heap ∧
      R (.ok (.ret (.ref (s.heap.push o).objs.size))) { s with heap := (s.heap.push o).push { cls := .type "enumerate", data := .fields #[.none, .bool false, .ref s.heap.objs.size, rawInt 0, .none, .none] } }) :=
  .of_wp fun prog w A R s h => by
    obtain ⟨hp, g, d, tk, os⟩ := s; obtain ⟨h1, h⟩ := h
    have hsub := sub_enumerate
    have q1 : ∀ {A' : Around} {E : Value → Shared → Prop} {Q : Value → Shared → Prop}, Q (.ref hp.objs.size) ⟨hp.push o, g, d, tk, os⟩ → wpAny (model prog w) A' (pyIter v) Q E ⟨hp, g, d, tk, os⟩ :=
      fun q => B.iter prog w _ _ ⟨hp, g, d, tk, os⟩ _ h1 q
    wp_walk using q1
    refine wpAny_stack_any fun st => wpAny_pure ?_
    split
    · rename_i c _ _ _ _ _
      cases (c == Value.type "enumerate")
      · wp_walk using q1
        exact ⟨_, rfl, h⟩
      · wp_walk using q1
        exact ⟨_, rfl, h⟩
    · wp_walk using q1
      exact ⟨_, rfl, h⟩
theorem begins {prog : Program} {w : World} {A : Around} {E : Value → Shared → Prop} {s : Shared} {v : Value} {o : Obj} {H : Heap → Prop} {Q : Value → Shared → Prop} (B : Begins v o H) (h1 : H s.heap)
    (h : ∀ h', IsEnum h' (s.heap.objs.size + 1) s.heap.objs.size 0 .none → h'.get? s.heap.objs.size = some o → h'.objs.size = s.heap.objs.size + 2 →
      (∀ b o, s.heap.get? b = some o → h'.get? b = some o) → Q (.ref (s.heap.objs.size + 1)) { s with heap := h' }) :
    wpAny (model prog w) A (call (.type "enumerate") [v]) Q E s := by
  refine callType_new F.called_enumerate (by decide) (F.typeCall_enumerate_1 _) (F.newCall_enumerate_1 _) (fun obj => F.args_object_init_2 obj _) F.entry_enumerate_new
    (meets_new B) ⟨h1, ?_⟩
  have hz : (s.heap.push o).objs.size = s.heap.objs.size + 1 := Heap.size_push ..
  show _ ∧ _
  rw [hz]
  have he : IsEnum ((s.heap.push o).push { cls := .type "enumerate", data := .fields #[.none, .bool false, .ref s.heap.objs.size, rawInt 0, .none, .none] }) (s.heap.objs.size + 1) s.heap.objs.size 0 .none := by
    have := Heap.get?_push_size (s.heap.push o) (o := { cls := .type "enumerate", data := .fields #[.none, .bool false, .ref s.heap.objs.size, rawInt 0, .none, .none] }) rfl
    rw [hz] at this; exact this
  refine ⟨⟨_, he, rfl⟩, h _ he (Heap.get?_push_of_some _ (Heap.get?_push_size _ B.free)) (by rw [Heap.size_push, hz]) fun b o x => Heap.get?_push_of_some _ (Heap.get?_push_of_some _ x)⟩
end EnG
namespace L2
open PySem PySem.Spec PyProof.Rows
/-- what is drawn, each in a new pair; Go says that it stands -/
def Itg (n : Nat) (Go : Hp → Prop) (Px : Nat → V → Prop) : It :=
  ⟨fun i H => i < n ∧ Go H, fun i H v H' => ∃ T x, v = .ref T ∧ H T = none ∧ H' = upd H T (.tup [.int (i : Nat), x]) ∧ Px i x, fun i H => n ≤ i ∧ Go H⟩
theorem turn_enumG {P : Program} {w : World} {K : PySem.W.Frag} {elts : List Expr} {kk : Nat} {tpos : Pos} (e it : Addr) {n : Nat} {Go : Hp → Prop} {Px : Nat → V → Prop} {St0 : Nat → Heap → Prop}
    (hT : ∀ (X : Cx) (pins : List (Addr × Obj)) (s : Shared) (σ : L2.St) (H : Hp) (i : Nat) (old : Value), X.prog = P → X.w = w → X.K = K → Inv X pins σ H s → Go H → IsEnum s.heap e it ((i : Nat) : Int) old → St0 i s.heap → i ≤ n →
      ∃ (fp : List Addr) (Pv : Nat → Value → Prop) (St : Nat → Heap → Prop), e ∉ fp ∧ (∀ A : Around, A.handled = none → Draws P w A it fp n Pv St) ∧ St i s.heap ∧ (∀ u, Pv i u → ∃ x, RelV x u ∧ Px i x) ∧ ∀ j h, St j h → St0 j h)
    (hk0 : ∀ i h h', St0 i h → (∀ o, h.get? it = some o → h'.get? it = some o) → St0 i h') (hl0 : ∀ i h, St0 i h → ∃ o, h.get? it = some o ∧ ∀ v, o.data ≠ .cell v) :
    Turn P w K (.Tuple elts kk tpos) (Itg n Go Px) [e, it] e (fun i h => (∃ old, IsEnum h e it ((i : Nat) : Int) old) ∧ St0 i h ∧ e ≠ it ∧ i ≤ n) where
  mem := by simp
  obj := fun i h st b hb => by
    obtain ⟨⟨old, he⟩, hs, _⟩ := st
    have e' : b = e ∨ b = it := by simpa using hb
    rcases e' with z | z
    · rw [z]; exact ⟨_, he, fun v q => nomatch q⟩
    · rw [z]; exact hl0 _ _ hs
  keep := fun i h h' st k => let ⟨⟨old, he⟩, hi, hne, hl⟩ := st; ⟨⟨old, k e (by simp) _ he⟩, hk0 _ _ _ hi fun o q => k it (by simp) o q, hne, hl⟩
  item := by
    intro X hP hw hK hc i pins s σ H E I hf st hg
    obtain ⟨⟨old, he⟩, hit0, hne, hil'⟩ := st
    obtain ⟨hlt, go⟩ := hg
    obtain ⟨fp, Pv, St, hie, hD, hst, hpx, h0⟩ := hT X pins s σ H i old hP hw hK I go he hit0 hil'
    subst hP hw hK
    have D := hD X.A.in1 (by simpa using I.ok.hd hc)
    have hel : e < s.heap.objs.size := Heap.lt_size he
    have hil : it < s.heap.objs.size := by obtain ⟨_, q, _⟩ := hl0 _ _ hit0; exact Heap.lt_size q
    refine wpAny_pyNext_enum_itemD D he hst hlt hne hie fun u h' tk hPu ho hit' hT hsz hk => ?_
    obtain ⟨x, rx, px⟩ := hpx u hPu
    refine ⟨_, rfl, wpAny_letOwnedTupleGo_enum (s := { s with heap := h', toks := tk + 1 }) ho fun h'' he' sb => ?_⟩
    have hT2 : h''.get? s.heap.objs.size = some { cls := .type "tuple", data := .seq #[.int i tk, u] } := (sb.2 _ (Nat.ne_of_gt hel)).trans hT
    have new : ObjOk X.prog X.w (upd H s.heap.objs.size (.tup [.int (i : Nat), x])) h'' s.heap.objs.size (.tup [.int (i : Nat), x]) :=
      ⟨by show 2 ≤ sizeLine; decide, [.int i tk, u], .cons ⟨_, rfl⟩ (.cons rx .nil), ⟨_, hT2, rfl, _, rfl⟩⟩
    have I1 : Inv X pins σ (upd H s.heap.objs.size (.tup [.int (i : Nat), x])) { s with heap := h'', toks := tk + 1 } :=
      I.turnedNew (ch := [e, it]) (fun b ob hb q => (sb.2 b (fun z => hb (by simp [z]))).trans (hk b ob (fun z => hb (by simp [z])) (fun z => hb (by simp [z])) q)) hf (Nat.le_refl _) new
    refine ⟨.ref s.heap.objs.size, _, I1, rfl, ⟨_, x, rfl, I.hok.fresh (Nat.le_refl _), rfl, px⟩, ⟨⟨u, ?_⟩, hk0 _ _ _ (h0 _ _ hit') fun o q => (sb.2 it (Ne.symm hne)).trans q, hne, hlt⟩, fun b hb => ?_⟩
    · have e1 : ((i + 1 : Nat) : Int) = (i : Int) + 1 := by omega
      rw [e1]; exact he'
    · have hb' : b < s.heap.objs.size := by
        have e' : b = e ∨ b = it := by simpa using hb
        rcases e' with z | z
        · rw [z]; exact hel
        · rw [z]; exact hil
      rw [upd_ne (Nat.ne_of_lt hb')]
      exact (hf b hb).1
  done := by
    intro X hP hw hK hc i pins s σ H E I hf st hg
    obtain ⟨⟨old, he⟩, hit0, hne, hil'⟩ := st
    obtain ⟨hle, go⟩ := hg
    have en : i = n := Nat.le_antisymm hil' hle
    obtain ⟨fp, Pv, St, hie, hD, hst, hpx, h0⟩ := hT X pins s σ H i old hP hw hK I go he hit0 hil'
    subst hP hw hK
    rw [en] at hst
    have D := hD X.A.in1 (by simpa using I.ok.hd hc)
    obtain ⟨f0, f1, f2, f3, f4, f5⟩ := hf it (by simp)
    exact wpAny_pyNext_enum_endD D he hst fun h' eb => ⟨rfl, I.turned (t' := s.toks) (fun b o hb q => eb b o hb q) f0 f1 f3 f4 f5⟩
  self := fun A i s Q E st h => let ⟨⟨_, he⟩, _⟩ := st; wpAny_pyIter_enum he h
def iEnumS (ta : TA) : TI := fun σ H R => ta σ H fun vs H1 => ∃ x : Str, vs = [.str x] ∧ x.cps.size ≤ sizeLine ∧ R (Itg x.cps.size (fun _ => True) (fun i v => ∃ c, x.cps[i]? = some c ∧ v = .str ⟨#[c]⟩)) H1
theorem pi_enumS {X : Cx} {e : Expr} {ta : TA} {p pos tpos : Pos} {elts : List Expr} {kk : Nat} (hg : Gl X "enumerate") (hm : X.mg "enumerate" = none) (ha : PA X [e] ta) (hs : starEach [e] X.env = [(false, eval e X.env)] := by rfl) :
    PI X (.Tuple elts kk tpos) (.Call (.Name "enumerate" p) [e] [] pos) (iEnumS ta) := by
  refine ⟨fun pins s σ H R I h => ?_⟩
  refine Call_ (ld_blt I hg hm boot_enumerate (PyProof.Rows.callWith_type1 (thn (ha.run pos pins s σ H _ I h) fun us s1 ⟨vs, H1, I1, r1, q1⟩ => ?_) hs rfl))
  obtain ⟨x, ex, hz, q⟩ := q1
  subst ex
  cases r1 with
  | cons r rr =>
    cases rr
    obtain ⟨t, rfl⟩ := r
    refine EnG.begins (begins_text x t) trivial fun h' he ho hsz hk => wpAny_pyIter_enum he ?_
    have I2 : Inv X pins σ H1 { s1 with heap := h' } := I1.kept (t' := s1.toks) hk
    refine ⟨s1.heap.objs.size + 1, [s1.heap.objs.size + 1, s1.heap.objs.size], _, _, H1, rfl, I2, turn_enumG (s1.heap.objs.size + 1) s1.heap.objs.size
      (St0 := fun i h => h.IsStrIter s1.heap.objs.size (strIterType x) x t i) (fun X pins s σ H i old _ _ _ _ _ _ st _ => ⟨[s1.heap.objs.size], fun i v => ∃ c u, x.cps[i]? = some c ∧ v = .str ⟨#[c]⟩ u, fun i h => h.IsStrIter s1.heap.objs.size (strIterType x) x t i, by simp,
        fun A hh => Draws.text hh _ x t, st, fun u ⟨c, tu, h1, h2⟩ => ⟨.str ⟨#[c]⟩, ⟨tu, h2⟩, c, h1, rfl⟩, fun _ _ h => h⟩) (fun i h h' st k => let ⟨o, ho, r⟩ := st; ⟨o, k o ho, r⟩) (fun i h st => by
        obtain ⟨o, ho, hc, hd⟩ := st
        exact ⟨o, ho, fun v z => by rw [hd] at z; cases z⟩), ⟨⟨.none, he⟩, ⟨_, ho, rfl, rfl⟩, Nat.succ_ne_self _, Nat.zero_le _⟩, fun b hb => ?_, q⟩
    have e' : b = s1.heap.objs.size + 1 ∨ b = s1.heap.objs.size := by simpa using hb
    have hle : s1.heap.objs.size ≤ b := by
      rcases e' with z | z
      · rw [z]; exact Nat.le_add_right _ _
      · rw [z]; exact Nat.le_refl _
    exact I1.fpOk hle (I1.hok.fresh hle)
def iEnumT (K : PySem.W.Frag) (ta : TA) : TI := fun σ H R => ta σ H fun vs H1 => ∃ a xs, vs = [.ref a] ∧ SqT K H1 a xs ∧ R (Itg xs.length (fun H => SqT K H a xs) (fun i v => xs[i]? = some v)) H1
theorem pi_enumT {X : Cx} {e : Expr} {ta : TA} {p pos tpos : Pos} {elts : List Expr} {kk : Nat} (hg : Gl X "enumerate") (hm : X.mg "enumerate" = none) (ha : PA X [e] ta) (hs : starEach [e] X.env = [(false, eval e X.env)] := by rfl) :
    PI X (.Tuple elts kk tpos) (.Call (.Name "enumerate" p) [e] [] pos) (iEnumT X.K ta) := by
  refine ⟨fun pins s σ H R I h => ?_⟩
  refine Call_ (ld_blt I hg hm boot_enumerate (PyProof.Rows.callWith_type1 (thn (ha.run pos pins s σ H _ I h) fun us s1 ⟨vs, H1, I1, r1, q1⟩ => ?_) hs rfl))
  obtain ⟨a, xs, ex, hq, q⟩ := q1
  subst ex
  cases r1 with
  | cons r rr =>
    cases rr
    cases r
    obtain ⟨its, rv, p', hz⟩ := I1.tuple hq
    refine EnG.begins (begins_tuple a its.toArray) p' fun h' he ho hsz hk => wpAny_pyIter_enum he ?_
    have I2 : Inv X pins σ H1 { s1 with heap := h' } := I1.kept (t' := s1.toks) hk
    refine ⟨s1.heap.objs.size + 1, [s1.heap.objs.size + 1, s1.heap.objs.size], _, _, H1, rfl, I2, turn_enumG (s1.heap.objs.size + 1) s1.heap.objs.size
      (St0 := fun i h => h.IsTupleIter s1.heap.objs.size a i ∧ a ≠ s1.heap.objs.size) (fun X pins s σ H i old hP hw hK I go he st _ => ?_) (fun i h h' st k => ⟨st.1.at k, st.2⟩) (fun i h st => by
        obtain ⟨o, ho, hc, hd⟩ := st.1
        exact ⟨o, ho, fun v z => by rw [hd] at z; cases z⟩), ⟨⟨.none, he⟩, ⟨⟨_, ho, rfl, rfl⟩, ?_⟩, Nat.succ_ne_self _, Nat.zero_le _⟩, fun b hb => ?_, q⟩
    · rw [← hK] at go
      obtain ⟨its, rv, p', hz⟩ := I.tuple go
      have hl : its.toArray.size = xs.length := by rw [List.size_toArray, ← rv.length]
      refine ⟨[s1.heap.objs.size, a], fun i v => its.toArray[i]? = some v, fun i h => h.IsTupleIter s1.heap.objs.size a i ∧ h.IsTuple a its.toArray, ?_, fun A hh => by rw [← hl]; exact Draws.tuple hh _ a st.2 its.toArray, ⟨st.1, p'⟩, fun u hu => ?_, fun j h x => ⟨x.1, st.2⟩⟩
      · intro hm
        simp only [List.mem_cons, List.not_mem_nil, or_false] at hm
        rcases hm with z | z
        · exact absurd z (Nat.succ_ne_self _)
        · obtain ⟨o, h1, h2, _⟩ := p'
          rw [← z] at h1
          have he' := h1.symm.trans he
          rw [Option.some.inj he'] at h2
          exact absurd (Value.type.inj h2) (by decide)
      · have hu' : its[i]? = some u := by simpa using hu
        have hi : i < xs.length := by
          have := (List.getElem?_eq_some_iff.mp hu').1
          rw [rv.length]; exact this
        obtain ⟨u2, h3, h4⟩ := rv.get (List.getElem?_eq_getElem hi)
        rw [hu'] at h3; cases h3
        exact ⟨xs[i], h4, List.getElem?_eq_getElem hi⟩
    · obtain ⟨o, q, _⟩ := p'
      exact Nat.ne_of_lt (Heap.lt_size q)
    · have e' : b = s1.heap.objs.size + 1 ∨ b = s1.heap.objs.size := by simpa using hb
      have hle : s1.heap.objs.size ≤ b := by
        rcases e' with z | z
        · rw [z]; exact Nat.le_add_right _ _
        · rw [z]; exact Nat.le_refl _
      exact I1.fpOk hle (I1.hok.fresh hle)
end L2

namespace DL
open PySem PySem.Spec L2
open PyProof.Rows hiding St
def dEnumS (da : DA) : DI := fun ρ xe R => da ρ xe fun ds => match ds with
  | [.str s] => s.length ≤ sizeLine ∧ R (pairs (s.map fun c => .str [c]))
  | _ => False
def dEnumT (da : DA) : DI := fun ρ xe R => da ρ xe fun ds => match ds with
  | [.tup xs] => R (pairs xs)
  | _ => False
theorem jok_enumG {K : PySem.W.Frag} {B : Option Addr} {G H : Hp} {n : Nat} {Go : Hp → Prop} {Px : Nat → V → Prop} {ds : List D} (hn : ds.length = n) (hGo : ∀ G' H', Same G G' → Same G' H' → Go H') (hP : ∀ i x d, Px i x → ds[i]? = some d → Rep K G x d) : JOk K B (Itg n Go Px) (pairs ds) G H := fun G' H' s1 s2 bg i => by
  have go := hGo G' H' s1 s2
  refine ⟨fun d e => ?_, fun l => ⟨by rw [pairs_length, hn] at l; exact l, go⟩⟩
  obtain ⟨d0, e1, rfl⟩ := pairs_get e
  have il : i < n := by rw [← hn]; exact (List.getElem?_eq_some_iff.mp e1).1
  refine ⟨⟨il, go⟩, fun x H'' y => ?_⟩
  obtain ⟨T, u, rfl, hT, rfl, hu⟩ := y
  have st : Stt B G' H' G' H' := Stt.refl s2 bg
  have s3 := st.new (o := .tup [.int (i : Nat), u]) hT
  exact ⟨_, s3, .tup upd_same (.cons (.int _) (.cons ((hP i u d0 hu e1).mono (s1.trans s3.gg)) .nil))⟩
section
variable {X : Cx} {E : XK} {e : Expr} {da : DA} {p pos tpos : Pos} {elts : List Expr} {kk : Nat}
theorem xi_enumS (hg : Gl X "enumerate") (hm : X.mg "enumerate" = none) (h : XA X E [e] da) (hs : starEach [e] X.env = [(false, eval e X.env)] := by rfl) :
    XI X E (.Tuple elts kk tpos) (.Call (.Name "enumerate" p) [e] [] pos) (iEnumS (cA X.K E da)) (dEnumS da) :=
  ⟨pi_enumS hg hm h.pa hs, fun B G0 H0 G H σ ρ I xe lx R RR k q => sA B G0 H0 G H σ ρ I xe lx _ _ (fun vs G' H' ds t r z => by
    split at z
    · rename_i s
      cases r with
      | cons r1 r =>
        cases r; cases r1
        refine ⟨⟨s.toArray⟩, rfl, by simpa using z.1, k _ _ _ _ t (jok_enumG (by simp) (fun _ _ _ _ => trivial) (fun i x d hx hd => ?_)) z.2⟩
        obtain ⟨c, h1, rfl⟩ := hx
        rw [List.getElem?_map] at hd
        have h1' : s[i]? = some c := by simpa using h1
        rw [h1'] at hd
        obtain rfl := Option.some.inj hd
        exact .str [c]
    · exact z.elim) q⟩
theorem xi_enumT (hg : Gl X "enumerate") (hm : X.mg "enumerate" = none) (h : XA X E [e] da) (hs : starEach [e] X.env = [(false, eval e X.env)] := by rfl) :
    XI X E (.Tuple elts kk tpos) (.Call (.Name "enumerate" p) [e] [] pos) (iEnumT X.K (cA X.K E da)) (dEnumT da) :=
  ⟨pi_enumT hg hm h.pa hs, fun B G0 H0 G H σ ρ I xe lx R RR k q => sA B G0 H0 G H σ ρ I xe lx _ _ (fun vs G' H' ds t r z => by
    split at z
    · cases r with
      | cons r1 r =>
        cases r
        cases r1 with
        | tup a1 b1 =>
          refine ⟨_, _, rfl, SqT.of (t.gh _ _ a1), k _ _ _ _ t (jok_enumG b1.length.symm (fun G2 H2 s1 s2 => SqT.of (s2 _ _ (s1 _ _ a1))) (fun i x d hx hd => b1.at2 hx hd)) z⟩
    · exact z.elim) q⟩
end
end DL

namespace DL
open PySem PySem.Spec L2
open PyProof.Rows hiding St

/-! ### results that are new since the call began -/
def cEZ (K : PySem.W.Frag) (E : XK) (de : DE) : TE := fun σ H Q => ∃ B G0 H0 G ρ xe R, En K B G0 H0 G H σ ρ ∧ LinkX K B G0 H0 E xe ∧ (∀ v G' H' d, Stt B G H G' H' → Rep K G' v d → DN K H0 G' v d → R d → Q v H') ∧ de ρ xe R
def cAZ (K : PySem.W.Frag) (E : XK) (da : DA) : TA := fun σ H Q => ∃ B G0 H0 G ρ xe R, En K B G0 H0 G H σ ρ ∧ LinkX K B G0 H0 E xe ∧ (∀ vs G' H' ds, Stt B G H G' H' → Reps K G' vs ds → DNs K H0 G' vs ds → R ds → Q vs H') ∧ da ρ xe R
structure XEZ (X : Cx) (E : XK) (e : Expr) (de : DE) : Prop where
  pe : PE X e (cEZ X.K E de)
structure XAZ (X : Cx) (E : XK) (es : List Expr) (da : DA) : Prop where
  pa : PA X es (cAZ X.K E da)
def SimEZ (K : PySem.W.Frag) (E : XK) (te : TE) (de : DE) : Prop :=
  ∀ (B : Option Addr) (G0 H0 G H : Hp) (σ : L2.St) (ρ : List Sl), En K B G0 H0 G H σ ρ → ∀ xe : XE, LinkX K B G0 H0 E xe → ∀ (Q : VK) (R : D → Prop),
    (∀ v G' H' d, Stt B G H G' H' → Rep K G' v d → DN K H0 G' v d → R d → Q v H') → de ρ xe R → te σ H Q
def SimAZ (K : PySem.W.Frag) (E : XK) (ta : TA) (da : DA) : Prop :=
  ∀ (B : Option Addr) (G0 H0 G H : Hp) (σ : L2.St) (ρ : List Sl), En K B G0 H0 G H σ ρ → ∀ xe : XE, LinkX K B G0 H0 E xe → ∀ (Q : List V → Hp → Prop) (R : List D → Prop),
    (∀ vs G' H' ds, Stt B G H G' H' → Reps K G' vs ds → DNs K H0 G' vs ds → R ds → Q vs H') → da ρ xe R → ta σ H Q
theorem sEZ {K : PySem.W.Frag} {E : XK} {de : DE} : SimEZ K E (cEZ K E de) de := fun B G0 H0 G H σ ρ I xe lx Q R k h => ⟨B, G0, H0, G, ρ, xe, R, I, lx, k, h⟩
theorem sAZ {K : PySem.W.Frag} {E : XK} {da : DA} : SimAZ K E (cAZ K E da) da := fun B G0 H0 G H σ ρ I xe lx Q R k h => ⟨B, G0, H0, G, ρ, xe, R, I, lx, k, h⟩
theorem XEZ.of {X : Cx} {E : XK} {e : Expr} {te : TE} {de : DE} (h : PE X e te) (k : SimEZ X.K E te de) : XEZ X E e de := ⟨⟨fun pins s σ H Q I ⟨B, G0, H0, G, ρ, xe, R, En, lx, kk, q⟩ => h.run pins s σ H Q I (k B G0 H0 G H σ ρ En xe lx Q R kk q)⟩⟩
theorem XAZ.of {X : Cx} {E : XK} {es : List Expr} {te : TA} {de : DA} (h : PA X es te) (k : SimAZ X.K E te de) : XAZ X E es de := ⟨⟨fun p pins s σ H Q I ⟨B, G0, H0, G, ρ, xe, R, En, lx, kk, q⟩ => h.run p pins s σ H Q I (k B G0 H0 G H σ ρ En xe lx Q R kk q)⟩⟩
/-- a name that holds what is new -/
def dVarN (i : Nat) : DE := fun ρ _ R => match ρ[i]? with
  | some (.nw d) => R d
  | _ => False
section
variable {X : Cx} {E : XK} {e a b c : Expr} {es : List Expr} {de da db : DE} {dA dB : DA} {pos : Pos}
theorem xz_of (h : XEF X E e de) : XEZ X E e de := .of h.pe fun B G0 H0 G H σ ρ I xe lx Q R k q => sEF B G0 H0 G H σ ρ I xe lx _ _ (fun v G' H' d t r n z => k v G' H' d t r (n.mono (fun _ h => I.st.before h) (Same.refl _)) z) q
theorem xz_var (i : Nat) {x : Str} {pos : Pos} (h : PE X (.Name x pos) (tVar i)) : XEZ X E (.Name x pos) (dVarN i) := .of h fun B G0 H0 G H σ ρ I xe lx Q R k q => by
  unfold dVarN at q
  split at q
  · rename_i d e
    obtain ⟨o, h1, h2⟩ := pget I.sl e
    cases h2 with
    | nw r n => exact ⟨_, h1, k _ G H _ I.st.here r n q⟩
  · exact q.elim
theorem xaz_nil : XAZ X E [] dNil := .of pa_nil fun B G0 H0 G H σ ρ I xe lx Q R k h => k [] G H [] I.st.here .nil .nil h
theorem xaz_cons {dr : DA} (ha : XEZ X E e de) (hr : XAZ X E es dr) (hs : starEach (e :: es) X.env = (false, eval e X.env) :: starEach es X.env := by rfl) : XAZ X E (e :: es) (dCons de dr) :=
  .of (pa_cons ha.pe hr.pa hs) fun B G0 H0 G H σ ρ I xe lx Q R k h => by
    refine sEZ B G0 H0 G H σ ρ I xe lx _ _ (fun v G1 H1 d t1 r1 n1 h1 => ?_) h
    refine sAZ B G0 H0 G1 H1 σ ρ (I.step t1) xe lx _ _ (fun us G2 H2 ds t2 r2 n2 h2 => ?_) h1
    exact k _ _ _ _ (t1.trans t2) (.cons (r1.mono t2.gg) r2) (.cons (n1.mono (fun _ h => h) t2.gg) n2) h2
theorem xzLst {d : DA} (h : XAZ X E es d) : XEZ X E (.List es pos) (dLst d) := .of (pe_lst h.pa) fun B G0 H0 G H σ ρ I xe lx Q R k q =>
  sAZ B G0 H0 G H σ ρ I xe lx _ _ (fun vs G' H' ds t r n z => ⟨by rw [r.length]; exact z.1, fun p hp => by
    have s := (I.step t).st.new (o := .lst vs) hp
    exact k _ _ _ _ (t.trans s) (.lst upd_same (r.mono s.gg)) (.lst ((I.st.trans t).before hp) upd_same (n.mono (fun _ h => h) s.gg)) z.2⟩) q
theorem xzTup {x1} {d : DA} (h : XAZ X E es d) : XEZ X E (.Tuple es x1 pos) (dTup d) := .of (pe_tup h.pa) fun B G0 H0 G H σ ρ I xe lx Q R k q =>
  sAZ B G0 H0 G H σ ρ I xe lx _ _ (fun vs G' H' ds t r n z => ⟨by rw [r.length]; exact z.1, fun p hp => by
    have s := (I.step t).st.new (o := .tup vs) hp
    exact k _ _ _ _ (t.trans s) (.tup upd_same (r.mono s.gg)) (.tup upd_same (n.mono (fun _ h => h) s.gg)) z.2⟩) q
theorem xs_retZ (he : XEZ X E e de) : XS X E (.Return (some e) pos) (dRetG de) := .of (ps_ret he.pe) fun B G0 H0 G H σ ρ I Gs sg D C l q =>
  sEZ B G0 H0 G H σ ρ I C.xe l.xe _ _ (fun v G' H' d t r n z => l.rf v d G' H' (I.st.trans t) r n z) q
/-- x = e, new -/
def dAsgN (i : Nat) (de : DE) : DS := fun C ρ => de ρ C.xe fun d => C.nx (ρ.set i (.nw d))
theorem xs_setN {i : Nat} {x : Str} {pos' : Pos} (hN : X.N.Nodup) (hi : X.N[i]? = some x) (hx : Loc X.env.scope x) (he : XEZ X E e de) (hs : swapsWith e (some (.Name x pos')) pos.line X.env = pure false := by rfl) (hf : X.fn x = true ∨ X.env.scope.names.lookup x = some .local := by first | exact .inl rfl | exact .inr rfl | assumption) :
    XS X E (.Assign [.Name x pos'] e pos) (dAsgN i de) := .of (ps_set hN hi hx he.pe hs hf) fun B G0 H0 G H σ ρ I Gs sg D C l q =>
  sEZ B G0 H0 G H σ ρ I C.xe l.xe _ _ (fun v G' H' d t r n z => l.nx G' H' _ _ (sg.trans t.gg) ((I.step t).setS (.nw r n) (fun _ z => by cases z)) z) q
theorem xs_setLcN {i : Nat} {y : Str} {py : Pos} {elt tg iter : Expr} {ifs : List Expr} {scope : Scope} {own : List (Str × Nat)} {spos : Pos} {wi : TI} {di : DI} {g : TG} {dg : DG} {dt : DT} {de : DE} (hc : X.calm = true) (hN : X.N.Nodup) (hy : X.N[i]? = some y) (hyl : X.env.scope.names.lookup y = some .local)
    (hsw : swapsWith (.ListComp elt [⟨tg, iter, ifs, 0⟩] scope pos) (some (.Name y py)) spos.line X.env = pure true) (hi : XI X E tg iter wi di) (ok : BlkOk X.N X.env.scope scope own)
    (hg : ∀ (s : Shared) (H : Hp) (C : Addr) (cl : List (Str × Addr)) (fp : List Addr), PG (X.blk s H scope (compEnvC scope cl C X.env) fp) tg g) (sg : SimG X.K g dg (own.map (·.2)))
    (ht : ∀ (s : Shared) (H : Hp) (C : Addr) (cl : List (Str × Addr)) (fp : List Addr), XTs (X.blk s H scope (compEnvC scope cl C X.env) fp) E0 ifs dt)
    (he : ∀ (s : Shared) (H : Hp) (C : Addr) (cl : List (Str × Addr)) (fp : List Addr), XEF (X.blk s H scope (compEnvC scope cl C X.env) fp) E0 elt de) (hs : ∀ x, foldedSetIterable iter X.env x = pure x := by intro _; rfl) :
    XS X E (.Assign [.Name y py] (.ListComp elt [⟨tg, iter, ifs, 0⟩] scope pos) spos) (dAsgN i (dLc di dg dt de (own.map (·.2)))) :=
  .of (ps_setLc hc hN hy hyl hsw hi.pi ok hg (fun s H C cl fp => (ht s H C cl fp).pts) (fun s H C cl fp => (he s H C cl fp).pe) hs) fun B G0 H0 G H σ ρ I Gs sg' D C l q =>
    sim_lcN hi.sim sg sT sEF B G0 H0 G H σ ρ I C.xe l.xe _ _ (fun v G' H' d t r n z => l.nx G' H' _ _ (sg'.trans t.gg) ((I.step t).setS (.nw r (n.mono (fun _ h => I.st.before h) (Same.refl _))) (fun _ z => by cases z)) z) q

/-! #### new lists of things in which no list is -/
def nolL (d : D) : Prop := ∃ ds, d = .lst ds ∧ nols ds = true
def dNolL (de : DE) : DE := fun ρ xe R => de ρ xe fun d => nolL d ∧ R d
theorem xfCatN (ha : XEx X E a da) (hb : XEx X E b db) : XEF X E (.BinOp a .Add b pos) (dNolL (dOp oCatL da db)) := .of (pe_op op_cat ha.pe hb.pe) fun B G0 H0 G H σ ρ I xe lx Q R k q => by
  refine sE B G0 H0 G H σ ρ I xe lx _ _ (fun v G1 H1 d t1 r1 h1 => ?_) q
  refine sE B G0 H0 G1 H1 σ ρ (I.step t1) xe lx _ _ (fun u G2 H2 f t2 r2 h2 => ?_) h1
  unfold oCatL at h2
  split at h2
  · cases r1 with
    | @lst _ w1 _ a1 b1 => cases r2 with
      | @lst _ w2 _ a2 b2 =>
        have a1' := t2.gg _ _ a1
        have s2 := ((I.step t1).step t2).st
        refine ⟨_, _, _, _, rfl, rfl, s2.gh _ _ a1', s2.gh _ _ a2, by rw [b1.length, b2.length]; exact h2.1, fun p hp => ?_⟩
        have s := s2.new (o := .lst (w1 ++ w2)) hp
        obtain ⟨h21, ⟨ds, e, n⟩, h22⟩ := h2
        cases e
        have r := ((b1.mono t2.gg).append b2).mono s.gg
        exact k _ _ _ _ ((t1.trans t2).trans s) (.lst upd_same r) (.lst ((t1.trans t2).before hp) upd_same (DNs.flat r.length n)) h22
  · exact h2.elim
theorem xfListN {p : Pos} (hg : Gl X "list") (hm : X.mg "list" = none) (ha : XEx X E e de) (he : starEach [e] X.env = (false, eval e X.env) :: starEach [] X.env := by rfl) : XEF X E (.Call (.Name "list" p) [e] [] pos) (dNolL (dCB cList (dCons de dNil))) :=
  .of (pe_callTy call_list_of hg hm (by decide +kernel) (pa_cons ha.pe pa_nil he) (he := he)) fun B G0 H0 G H σ ρ I xe lx Q R k q => sE B G0 H0 G H σ ρ I xe lx _ _ (fun v G' H' d t r z => by
    have fin : ∀ (p : Addr) (ys : List V) (ds : List D), Reps X.K G' ys ds → (SqL X.K H' p ys ∨ SqT X.K H' p ys) → v = .ref p → (nolL (.lst ds) ∧ R (.lst ds)) → (∃ q zs, [v] = [.ref q] ∧ (SqL X.K H' q zs ∨ SqT X.K H' q zs) ∧ ∀ l, H' l = none → Q (.ref l) (upd H' l (.lst zs))) := fun p ys ds b hs ev z => by
      subst ev
      refine ⟨p, ys, rfl, hs, fun l hl => ?_⟩
      have s := (I.step t).st.new (o := .lst ys) hl
      obtain ⟨⟨ds', e, n⟩, z⟩ := z
      cases e
      exact k _ _ _ _ (t.trans s) (.lst upd_same (b.mono s.gg)) (.lst (t.before hl) upd_same (DNs.flat b.length n)) z
    have z : cList [d] (fun d => nolL d ∧ R d) := z
    unfold cList at z
    split at z
    · rename_i s e
      cases e
      cases r with
      | lst a1 b1 => exact fin _ _ _ b1 (.inl (SqL.of (t.gh _ _ a1))) rfl z
    · rename_i s e
      cases e
      cases r with
      | tup a1 b1 => exact fin _ _ _ b1 (.inr (SqT.of (t.gh _ _ a1))) rfl z
    · exact z.elim) q
theorem xfSlN {lo hi : Option Expr} {p2 : Pos} {dl dh : DO} (h : XEx X E e de) (h1 : XO X E lo dl) (h2 : XO X E hi dh) : XEF X E (.Subscript e (.Slice lo hi none p2) pos) (dNolL (dSl oSl de dl dh)) := .of (pe_slice sl_list h.pe h1.po h2.po) fun B G0 H0 G H σ ρ I xe lx Q R k q => by
    refine sE B G0 H0 G H σ ρ I xe lx _ _ (fun v G1 H1 d t1 r1 z1 => ?_) q
    refine sO B G0 H0 G1 H1 σ ρ (I.step t1) xe lx _ _ (fun l G2 H2 t2 z2 => ?_) z1
    refine sO B G0 H0 G2 H2 σ ρ ((I.step t1).step t2) xe lx _ _ (fun u G3 H3 t3 z3 => ?_) z2
    unfold oSl at z3
    split at z3
    · cases r1 with
      | @lst _ w _ a1 b1 =>
        have t := (t1.trans t2).trans t3
        refine ⟨_, _, rfl, SqL.of ((I.step t).st.gh _ _ ((t2.gg.trans t3.gg) _ _ a1)), fun p hp => ?_⟩
        have s := (I.step t).st.new (o := .lst (cutV w l u)) hp
        obtain ⟨⟨ds', e, n⟩, z3⟩ := z3
        cases e
        have r := (((b1.mono (t2.gg.trans t3.gg)).cut l u)).mono s.gg
        exact k _ _ _ _ (t.trans s) (.lst upd_same r) (.lst (t.before hp) upd_same (DNs.flat r.length n)) z3
    · exact z3.elim
end
end DL

namespace DL
open PySem PySem.Spec L2
open PyProof.Rows hiding St
/-! ### words that repeat -/
def isPer (t : List Nat) (d : Nat) : Prop := 1 ≤ d ∧ t.length % d = 0 ∧ (List.replicate (t.length / d) (t.take d)).flatten = t
structure LPer (t : List Nat) (d : Nat) : Prop where
  is : isPer t d
  le : ∀ e, 1 ≤ e → e < d → ¬ isPer t e
theorem LPer.unique {t : List Nat} {d e : Nat} (h : LPer t d) (g : LPer t e) : d = e := by
  rcases Nat.lt_trichotomy d e with l | l | l
  · exact absurd h.is (g.le d h.is.1 l)
  · exact l
  · exact absurd g.is (h.le e g.is.1 l)
theorem flat_get (w : List Nat) : ∀ (m i : Nat), i < m * w.length → (List.replicate m w).flatten[i]? = w[i % w.length]?
  | 0, i, h => by omega
  | m + 1, i, h => by
    rw [List.replicate_succ, List.flatten_cons]
    by_cases c : i < w.length
    · rw [List.getElem?_append_left c, Nat.mod_eq_of_lt c]
    · rw [List.getElem?_append_right (by omega), flat_get w m (i - w.length) (by rw [Nat.succ_mul] at h; omega)]
      congr 1
      exact (Nat.mod_eq_sub_mod (by omega)).symm
theorem flat_length (w : List Nat) (n : Nat) : (List.replicate n w).flatten.length = n * w.length := by
  induction n with
  | zero => simp
  | succ n ih => rw [List.replicate_succ, List.flatten_cons, List.length_append, ih, Nat.succ_mul]; omega
theorem per_iff {t : List Nat} {d : Nat} (h1 : 1 ≤ d) (h2 : t.length % d = 0) : (List.replicate (t.length / d) (t.take d)).flatten = t ↔ ∀ i, i < t.length → t[i]? = t[i % d]? := by
  by_cases h0 : t.length = 0
  · have : t = [] := List.length_eq_zero_iff.mp h0
    subst this
    simp
  have dl : d ≤ t.length := Nat.le_of_dvd (by omega) (Nat.dvd_of_mod_eq_zero h2)
  have lt : (t.take d).length = d := by rw [List.length_take]; omega
  have mul : t.length / d * d = t.length := Nat.div_mul_cancel (Nat.dvd_of_mod_eq_zero h2)
  have key : ∀ i, i < t.length → (List.replicate (t.length / d) (t.take d)).flatten[i]? = t[i % d]? := fun i hi => by
    rw [flat_get _ _ _ (by rw [lt, mul]; exact hi), lt, List.getElem?_take_of_lt (Nat.mod_lt _ h1)]
  constructor
  · intro e i hi
    have := key i hi
    rw [e] at this
    exact this
  · intro e
    apply List.ext_getElem?
    intro i
    by_cases hi : i < t.length
    · rw [key i hi, e i hi]
    · rw [List.getElem?_eq_none (by rw [flat_length, lt, mul]; omega), List.getElem?_eq_none (by omega)]
theorem isPer_self {t : List Nat} (h : 1 ≤ t.length) : isPer t t.length := ⟨h, Nat.mod_self _, by rw [Nat.div_self h, List.take_length]; simp⟩
theorem isPer_le {t : List Nat} {d : Nat} (h : 1 ≤ t.length) (p : isPer t d) : d ≤ t.length := Nat.le_of_dvd (by omega) (Nat.dvd_of_mod_eq_zero p.2.1)
theorem isPer.get {t : List Nat} {d : Nat} (p : isPer t d) : ∀ i, i < t.length → t[i]? = t[i % d]? := (per_iff p.1 p.2.1).mp p.2.2
/-- there is a least one -/
theorem lper_ex {t : List Nat} (h : 1 ≤ t.length) : ∃ d, LPer t d := by
  have : ∀ n d, isPer t d → d ≤ n → ∃ d, LPer t d := by
    intro n
    induction n with
    | zero => intro d p l; have := p.1; omega
    | succ n ih =>
      intro d p l
      by_cases q : ∃ e, 1 ≤ e ∧ e < d ∧ isPer t e
      · obtain ⟨e, _, e2, e3⟩ := q
        exact ih e e3 (by omega)
      · exact ⟨d, p, fun e a b c => q ⟨e, a, b, c⟩⟩
  exact this _ _ (isPer_self h) (Nat.le_refl _)
/-- the root of a root -/
theorem lper_root {t : List Nat} {d : Nat} (h : 1 ≤ t.length) (p : LPer t d) : LPer (t.take d) d := by
  have dl := isPer_le h p.is
  have lt : (t.take d).length = d := by rw [List.length_take]; omega
  refine ⟨?_, fun e e1 e2 q => p.le e e1 e2 ?_⟩
  · have := isPer_self (t := t.take d) (by rw [lt]; exact p.is.1)
    rwa [lt] at this
  · have ed : d % e = 0 := by have := q.2.1; rwa [lt] at this
    have et : t.length % e = 0 := Nat.mod_eq_zero_of_dvd (Nat.dvd_trans (Nat.dvd_of_mod_eq_zero ed) (Nat.dvd_of_mod_eq_zero p.is.2.1))
    refine ⟨e1, et, (per_iff e1 et).mpr fun i hi => ?_⟩
    have m1 : i % d < d := Nat.mod_lt _ p.is.1
    have m2 : i % e < e := Nat.mod_lt _ e1
    have g := q.get (i % d) (by rw [lt]; exact m1)
    rw [List.getElem?_take_of_lt m1, List.getElem?_take_of_lt (by have := Nat.mod_lt (i % d) e1; omega), Nat.mod_mod_of_dvd _ (Nat.dvd_of_mod_eq_zero ed)] at g
    rw [p.is.get i hi, g]
/-! periods of functions -/
theorem per_add {α : Type} {f : Nat → α} {p : Nat} (h : ∀ i, f (i + p) = f i) : ∀ k i, f (i + p * k) = f i
  | 0, i => rfl
  | k + 1, i => by rw [Nat.mul_succ, ← Nat.add_assoc, h, per_add h k]
theorem per_mod {α : Type} {f : Nat → α} {p : Nat} (h : ∀ i, f (i + p) = f i) (i : Nat) : f i = f (i % p) := by
  have := per_add h (i / p) (i % p)
  rw [Nat.mod_add_div] at this; exact this
theorem per_gcd {α : Type} {f : Nat → α} : ∀ (a b : Nat), (∀ i, f (i + a) = f i) → (∀ i, f (i + b) = f i) → ∀ i, f (i + Nat.gcd a b) = f i := by
  intro a b
  induction a, b using Nat.gcd.induction with
  | H0 n => intro _ h2 i; rw [Nat.gcd_zero_left]; exact h2 i
  | H1 m n hm ih =>
    intro h1 h2 i
    rw [Nat.gcd_rec]
    refine ih (fun j => ?_) h1 i
    have := per_add h1 (n / m) (j + n % m)
    rw [Nat.add_assoc, Nat.mod_add_div] at this
    rw [← this, h2]
/-- all periods that divide the length are multiples of the least one -/
theorem lper_dvd {t : List Nat} {d e : Nat} (h : 1 ≤ t.length) (p : LPer t d) (q : isPer t e) : e % d = 0 := by
  let f : Nat → Option Nat := fun i => t[i % t.length]?
  have pf : ∀ {g}, isPer t g → ∀ i, f (i + g) = f i := fun {g} r i => by
    have gl := isPer_le h r
    have e1 : ∀ j, f j = t[j % g]? := fun j => by
      show t[j % t.length]? = _
      rw [r.get _ (Nat.mod_lt _ (by omega)), Nat.mod_mod_of_dvd _ (Nat.dvd_of_mod_eq_zero r.2.1)]
    rw [e1, e1, Nat.add_mod_right]
  have g1 := per_gcd d e (pf p.is) (pf q)
  have gp : 1 ≤ Nat.gcd d e := Nat.gcd_pos_of_pos_left _ p.is.1
  have gd : Nat.gcd d e ∣ d := Nat.gcd_dvd_left d e
  have gt : t.length % Nat.gcd d e = 0 := Nat.mod_eq_zero_of_dvd (Nat.dvd_trans gd (Nat.dvd_of_mod_eq_zero p.is.2.1))
  have gle : Nat.gcd d e ≤ t.length := Nat.le_trans (Nat.le_of_dvd p.is.1 gd) (isPer_le h p.is)
  have ip : isPer t (Nat.gcd d e) := ⟨gp, gt, (per_iff gp gt).mpr fun i hi => by
    have a := per_mod g1 i
    have b : f i = t[i]? := by show t[i % t.length]? = _; rw [Nat.mod_eq_of_lt hi]
    have c : f (i % Nat.gcd d e) = t[i % Nat.gcd d e]? := by
      have := Nat.mod_lt i gp
      show t[i % Nat.gcd d e % t.length]? = _; rw [Nat.mod_eq_of_lt (show i % Nat.gcd d e < t.length by omega)]
    rw [← b, a, c]⟩
  have ge : Nat.gcd d e = d := by
    rcases Nat.lt_or_ge (Nat.gcd d e) d with l | l
    · exact absurd ip (p.le _ gp l)
    · exact Nat.le_antisymm (Nat.le_of_dvd p.is.1 gd) l
  exact Nat.mod_eq_zero_of_dvd (ge ▸ Nat.gcd_dvd_right d e)
/-- the root of a text repeated -/
theorem lper_rep {t : List Nat} {d k : Nat} (h : 1 ≤ t.length) (hk : 1 ≤ k) (p : LPer t d) : LPer (List.replicate k t).flatten d ∧ (List.replicate k t).flatten.take d = t.take d := by
  have L : (List.replicate k t).flatten.length = k * t.length := flat_length t k
  have dl := isPer_le h p.is
  have tk : t.length ≤ k * t.length := Nat.le_mul_of_pos_left _ hk
  have get : ∀ i, i < k * t.length → (List.replicate k t).flatten[i]? = t[i % t.length]? := fun i hi => flat_get t k i hi
  have pT : isPer (List.replicate k t).flatten d := by
    have m0 : (List.replicate k t).flatten.length % d = 0 := by rw [L]; exact Nat.mod_eq_zero_of_dvd (Nat.dvd_trans (Nat.dvd_of_mod_eq_zero p.is.2.1) (Nat.dvd_mul_left _ _))
    refine ⟨p.is.1, m0, (per_iff p.is.1 m0).mpr fun i hi => ?_⟩
    rw [L] at hi
    have := Nat.mod_lt i p.is.1
    rw [get i hi, get _ (by omega), p.is.get _ (Nat.mod_lt _ (by omega)), Nat.mod_mod_of_dvd _ (Nat.dvd_of_mod_eq_zero p.is.2.1), Nat.mod_eq_of_lt (show i % d < t.length by omega)]
  have tkd : (List.replicate k t).flatten.take d = t.take d := by
    apply List.ext_getElem?
    intro i
    by_cases hi : i < d
    · rw [List.getElem?_take_of_lt hi, List.getElem?_take_of_lt hi, get i (by omega), Nat.mod_eq_of_lt (by omega)]
    · rw [List.getElem?_eq_none (by rw [List.length_take]; omega), List.getElem?_eq_none (by rw [List.length_take]; omega)]
  obtain ⟨e, pe⟩ := lper_ex (t := (List.replicate k t).flatten) (by rw [L]; omega)
  have pn : isPer (List.replicate k t).flatten t.length := by
    have m0 : (List.replicate k t).flatten.length % t.length = 0 := by rw [L]; exact Nat.mul_mod_left _ _
    refine ⟨h, m0, (per_iff h m0).mpr fun i hi => ?_⟩
    rw [L] at hi
    have := Nat.mod_lt i h
    rw [get i hi, get _ (by omega), Nat.mod_mod]
  have en := lper_dvd (by rw [L]; omega) pe pn
  have ed : e ≤ d := by
    rcases Nat.lt_or_ge d e with l | l
    · exact absurd pT (pe.le d p.is.1 l)
    · exact l
  have iet : isPer t e := by
    refine ⟨pe.is.1, en, (per_iff pe.is.1 en).mpr fun i hi => ?_⟩
    have := pe.is.get i (by rw [L]; omega)
    have m := Nat.mod_lt i pe.is.1
    rw [get i (by omega), get _ (by omega), Nat.mod_eq_of_lt hi, Nat.mod_eq_of_lt (show i % e < t.length by omega)] at this
    exact this
  have : e = d := by
    rcases Nat.lt_or_ge e d with l | l
    · exact absurd iet (p.le e pe.is.1 l)
    · exact Nat.le_antisymm ed l
  subst this
  exact ⟨pe, tkd⟩

theorem ifN2 {c a b : Prop} [Decidable c] (h1 : ¬ c → a) (h2 : c → b) : ifB (!decide c) a b := by
  by_cases h : c
  · rw [decide_eq_true h]; exact h2 h
  · rw [decide_eq_false h]; exact h1 h
/-- a statement, then the rest: what stands between them, said by P -/
theorem seqP {d e : DS} {C : DEnds} {ρ : List Sl} (P : List Sl → Prop) (h1 : ∀ N : List Sl → Prop, (∀ ρ, P ρ → N ρ) → d { C with nx := N } ρ) (h2 : ∀ ρ, P ρ → e C ρ) : dSeq d e C ρ := h1 _ h2
theorem nxP {d e : DS} {C0 : DEnds} {rt xe bk ct rf} {ρ : List Sl} (P : List Sl → Prop) (h1 : ∀ N : List Sl → Prop, (∀ ρ, P ρ → N ρ) → d { C0 with nx := N } ρ) (h2 : ∀ ρ, P ρ → e C0 ρ) : DEnds.nx { nx := dSeq d e C0, rt := rt, xe := xe, bk := bk, ct := ct, rf := rf } ρ := h1 _ h2
def s_root : DSp := fun ds _ R => ∃ t : List Nat, ds = [.str t] ∧ 1 ≤ t.length ∧ t.length ≤ 100000 ∧ ∀ d, LPer t d → R (.str (t.take d))
def s_l_root : DSp := s_root
/-- root(text 0, many 1, length 2) -/
def b_root : DS :=
  (dSeq (dAsg 1 (dCB cLen (dCons (dVar 0) dNil))) (dSeq (dAsg 2 (dC (.int 1))) (dSeq (dWhile (dOr (dTest (dOp oNeI (dOp oMod (dVar 1) (dVar 2)) (dC (.int 0)))) (dTest (dOp oNeS (dOp oRepT (dSl oSlS (dVar 0) dNo (dPart (dVar 2))) (dOp oDiv (dVar 1) (dVar 2))) (dVar 0)))) (dAug 2 (dC (.int 1)) (fun i j => i + j))) (dRet (dSl oSlS (dVar 0) dNo (dPart (dVar 2)))))))

/-- _law_root(_law_text 0, _law_size 1) -/
def b_l_root : DS :=
  (dSeq (dFor (dRng2 (dCons (dC (.int 1)) (dCons (dCB cLen (dCons (dVar 0) dNil)) dNil))) (dgName 1) (dIfS (dAnd (dTest (dOp oEqI (dOp oMod (dCB cLen (dCons (dVar 0) dNil)) (dVar 1)) (dC (.int 0)))) (dTest (dOp oEqS (dOp oRepT (dSl oSlS (dVar 0) dNo (dPart (dVar 1))) (dOp oDiv (dCB cLen (dCons (dVar 0) dNil)) (dVar 1))) (dVar 0)))) (dRet (dSl oSlS (dVar 0) dNo (dPart (dVar 1)))) dNext)) (dRet (dVar 0)))

/-- the first part, repeated, as a text repeats it -/
theorem rep_part {t : List Nat} {k : Nat} {R : D → Prop} (h1 : 1 ≤ k) (h2 : t.length % k = 0) (h3 : t.length ≤ 100000) (q : R (.str (List.replicate (t.length / k) (t.take k)).flatten)) : oRepT (.str (t.take k)) (.int ((t.length : Int) / (k : Int))) R := by
  have e : (t.length : Int) / (k : Int) = ((t.length / k : Nat) : Int) := (Int.natCast_ediv _ _).symm
  have l1 : t.length / k ≤ t.length := Nat.div_le_self _ _
  have l2 : (t.take k).length * (t.length / k) ≤ t.length := by
    have : (t.take k).length ≤ k := by rw [List.length_take]; omega
    exact Nat.le_trans (Nat.mul_le_mul_right _ this) (Nat.mul_div_le _ _)
  rw [e]
  generalize t.length / k = m at *
  exact ⟨show (-4611686018427387904 : Int) < (m : Int) by omega, show (m : Int) < 4611686018427387904 by omega, show (t.take k).length * ((m : Int)).toNat ≤ 16000000 by rw [Int.toNat_natCast]; omega, q⟩
theorem ok_root : OkN 1 3 s_root b_root := by
  rintro ds xe R ⟨t, rfl, h1, h2, q⟩
  refine ⟨rfl, ?_⟩
  refine ⟨line_of (by omega), ?_⟩
  refine ⟨fun m ρ => ∃ k : Nat, ρ = [.dd (.str t), .dd (.int (t.length : Int)), .dd (.int (k : Int))] ∧ 1 ≤ k ∧ k ≤ t.length ∧ (∀ e, 1 ≤ e → e < k → ¬ isPer t e) ∧ m = t.length - k, ⟨_, 1, rfl, by omega, by omega, fun e a b => by omega, rfl⟩, fun m ρ ⟨k, hρ, k1, k2, k3, k4⟩ => ?_⟩
  subst hρ
  have more : ¬ isPer t k → ∃ N : List Sl → Prop, (∀ ρ2, N ρ2 → ∃ m', m' < m ∧ ∃ k : Nat, ρ2 = [.dd (.str t), .dd (.int (t.length : Int)), .dd (.int (k : Int))] ∧ 1 ≤ k ∧ k ≤ t.length ∧ (∀ e, 1 ≤ e → e < k → ¬ isPer t e) ∧ m' = t.length - k) ∧ N [.dd (.str t), .dd (.int (t.length : Int)), .dd (.int ((k : Int) + 1))] := fun np => by
    have lt : k < t.length := by
      rcases Nat.lt_or_ge k t.length with l | l
      · exact l
      · have : k = t.length := by omega
        exact absurd (this ▸ isPer_self h1) np
    refine ⟨fun ρ => ρ = [.dd (.str t), .dd (.int (t.length : Int)), .dd (.int ((k : Int) + 1))], fun ρ2 e => ⟨t.length - (k + 1), by omega, k + 1, e, by omega, by omega, fun e' a b => ?_, rfl⟩, rfl⟩
    by_cases z : e' = k
    · rw [z]; exact np
    · exact k3 e' a (by omega)
  refine ⟨show (0 : Int) < (k : Int) by omega, ?_⟩
  refine ifN2 (c := (t.length : Int) % (k : Int) = 0) (fun h => ?_) (fun h => ?_)
  · exact more fun p => h (by have := p.2.1; omega)
  · have h' : t.length % k = 0 := by omega
    show dTest _ _ _ _
    refine ⟨line_of (by omega), cdiv_wide (by omega) (by omega), ?_⟩
    rw [cut_to]
    refine rep_part k1 h' h2 ?_
    refine ifN2 (c := (List.replicate (t.length / k) (t.take k)).flatten = t) (fun g => ?_) (fun g => ?_)
    · exact more fun p => g p.2.2
    · refine ⟨line_of (by omega), ?_⟩
      rw [cut_to]
      exact q k ⟨⟨k1, h', g⟩, k3⟩
theorem ok_l_root : OkN 1 2 s_l_root b_l_root := by
  rintro ds xe R ⟨t, rfl, h1, h2, q⟩
  refine ⟨rfl, ?_⟩
  refine ⟨line_of (by omega), ⟨by decide, by decide, by omega, by omega⟩, ?_⟩
  refine ⟨fun i ρ => ∃ a : Sl, ρ = [Sl.dd (.str t), a] ∧ ∀ e, 1 ≤ e → e < i + 1 → ¬ isPer t e, ⟨_, rfl, fun e a b => by omega⟩, fun i d ρ e w => ?_, fun ρ w => ?_⟩
  · obtain ⟨a, rfl, w⟩ := w
    obtain ⟨hi, rfl⟩ := span_get e
    have ei : (1 : Int) + (i : Int) = ((i + 1 : Nat) : Int) := by omega
    rw [ei]
    have next : ¬ isPer t (i + 1) → ∃ a, [Sl.dd (.str t), Sl.dd (.int ((i + 1 : Nat) : Int))] = [.dd (.str t), a] ∧ ∀ e, 1 ≤ e → e < i + 1 + 1 → ¬ isPer t e := fun np => ⟨_, rfl, fun e' a b => by
      by_cases z : e' = i + 1
      · rw [z]; exact np
      · exact w e' a (by omega)⟩
    refine ⟨line_of (by omega), show (0 : Int) < ((i + 1 : Nat) : Int) by omega, ?_⟩
    refine ifB2 (c := (t.length : Int) % ((i + 1 : Nat) : Int) = 0) (fun h => ?_) (fun h => ?_)
    · have h' : t.length % (i + 1) = 0 := by omega
      refine ⟨line_of (by omega), line_of (by omega), cdiv_wide (by omega) (by omega), ?_⟩
      rw [cut_to]
      refine rep_part (by omega) h' h2 ?_
      refine ifB2 (c := (List.replicate (t.length / (i + 1)) (t.take (i + 1))).flatten = t) (fun g => ?_) (fun g => ?_)
      · refine ⟨line_of (by omega), ?_⟩
        rw [cut_to]
        exact q (i + 1) ⟨⟨by omega, h', g⟩, w⟩
      · exact next fun p => g p.2.2
    · exact next fun p => h (by have := p.2.1; omega)
  · obtain ⟨a, rfl, w⟩ := w
    have := q t.length ⟨isPer_self h1, fun e a b => w e a (by rw [span_length]; omega)⟩
    rw [List.take_length] at this
    exact this
end DL

namespace DL
open PySem PySem.Spec L2
open PyProof.Rows hiding St

/-! ### tallies -/
abbrev Tally := List (Nat × Nat)
def tl (ts : Tally) : List D := ts.map fun q => D.tup [.str [q.1], .int (q.2 : Int)]
/-- letters ascending, numbers from 1 to N -/
structure tOk (N : Nat) (ts : Tally) : Prop where
  l0 : 1 ≤ ts.length
  l1 : ts.length ≤ 26
  ab : ∀ q ∈ ts, 97 ≤ q.1 ∧ q.1 ≤ 122
  nb : ∀ q ∈ ts, 1 ≤ q.2 ∧ q.2 ≤ N
  up : (ts.map (·.1)).Pairwise (· < ·)
theorem tl_length {ts : Tally} : (tl ts).length = ts.length := List.length_map ..
theorem tl_app {a b : Tally} : tl (a ++ b) = tl a ++ tl b := List.map_append
theorem tl_get {ts : Tally} {i : Nat} {d : D} (h : (tl ts)[i]? = some d) : ∃ q, ts[i]? = some q ∧ d = .tup [.str [q.1], .int (q.2 : Int)] := by
  unfold tl at h
  rw [List.getElem?_map] at h
  cases e : ts[i]? with
  | none => rw [e] at h; cases h
  | some q => rw [e] at h; exact ⟨q, rfl, (Option.some.inj h).symm⟩
theorem log_lt' {n : Nat} (h : n < 2 ^ 400) : n.log2 < 400 := by
  by_cases z : n = 0
  · subst z; decide
  · exact (Nat.log2_lt z).mpr h
theorem cmulwI {i j : Int} (h : i.natAbs < 2 ^ 400) (g : j.natAbs < 2 ^ 400) : CMulW i j := by
  have := log_lt' h; have := log_lt' g
  show i.natAbs.log2 + j.natAbs.log2 < 1000000
  omega
theorem div2_ok {i : Int} : CDivW i 2 := ⟨by show (0 : Int) < 2; decide, by show (2 : Int).natAbs.log2 < 9000; decide +kernel⟩
theorem fine_q {q : Nat × Nat} {N : Nat} (h : q.1 ≤ 122) (g : q.2 ≤ N) (hN : N < 10 ^ 200) : fine (.tup [.str [q.1], .int (q.2 : Int)]) ∧ wt (.tup [.str [q.1], .int (q.2 : Int)]) ≤ 250 ∧ dpD (.tup [.str [q.1], .int (q.2 : Int)]) ≤ 50 := by
  have f1 : fine (.str [q.1]) := fine_str (fun c hc => by have : c = q.1 := by simpa using hc
                                                          omega) (show 1 ≤ 1000000 by decide)
  have f2 : fine (.int (q.2 : Int)) := fine_int (by omega)
  refine ⟨fine_tup (n := 220) (m := 2) (fun x hx => ?_) (show 2 ≤ 2 by decide) (by decide), ?_, ?_⟩
  · rcases List.mem_cons.mp hx with e | hx
    · subst e; exact ⟨f1, by simp [wt], by simp [dpD]⟩
    · have e := List.mem_singleton.mp hx
      subst e; exact ⟨f2, by simp [wt], by simp [dpD]⟩
  · simp [wt, wts]
  · simp [dpD, dpDs]
theorem tOk.fine {N : Nat} {ts : Tally} (h : tOk N ts) (hN : N < 10 ^ 200) : fine (.lst (tl ts)) := by
  refine fine_lst (n := 250) (m := 26) (fun x hx => ?_) (by rw [tl_length]; exact h.l1) (by decide)
  obtain ⟨q, hq, rfl⟩ := List.mem_map.mp hx
  exact fine_q (h.ab q hq).2 (h.nb q hq).2 hN
theorem wt_tl {ts : Tally} (h : ts.length ≤ 26) (n : ∀ q ∈ ts, q.2 < 10 ^ 200) : wt (.lst (tl ts)) ≤ 7000 := by
  simp only [wt]
  have : wts (tl ts) ≤ (tl ts).length * (250 + 2) := wts_le fun x hx => by
    obtain ⟨q, hq, rfl⟩ := List.mem_map.mp hx
    simp [wt, wts]
  rw [tl_length] at this
  have : ts.length * (250 + 2) ≤ 26 * 252 := Nat.mul_le_mul h (Nat.le_refl _)
  omega
def oddL (ts : Tally) : List Nat := (ts.filter fun q => decide (q.2 % 2 = 1)).map (·.1)
def totT (ts : Tally) : Nat := (ts.map (·.2)).sum
/-- the letter that was called last, if there is one -/
def lastC (ts : Tally) : Option Nat := match oddL ts with
  | [c] => if totT ts < 3 then none else some c
  | _ => none
def halfT (ts : Tally) : Tally := ts.map fun q => (q.1, (q.2 + 1) / 2)
def laterT (ts : Tally) (c : Nat) : Tally := ts.map fun q => (q.1, 2 * q.2 - if q.1 = c then 1 else 0)
def lastD (ts : Tally) : D := match lastC ts with
  | some c => .str [c]
  | none => .non
def s_last_called : DSp := fun ds _ R => ∃ ts : Tally, ds = [.lst (tl ts)] ∧ ts.length ≤ 26 ∧ R (lastD ts)
def s_halved : DSp := fun ds _ R => ∃ ts : Tally, ds = [.lst (tl ts)] ∧ ts.length ≤ 26 ∧ R (.lst (tl (halfT ts)))
def s_later : DSp := fun ds _ R => ∃ (ts : Tally) (c : Nat), ds = [.lst (tl ts), .str [c]] ∧ ts.length ≤ 26 ∧ (∀ q ∈ ts, 1 ≤ q.2) ∧ R (.lst (tl (laterT ts c)))
def s_numbers : DSp := fun ds _ R => ∃ N : Nat, ds = [.int (N : Int)] ∧ 102 ≤ N ∧ N ≤ 10 ^ 50 ∧ ∀ ts : Tally, tOk N ts → R (.lst (tl ts))
/-- last_called(tally 0, odd 1, letter 2, number 3, _ 4) -/
def b_last_called : DS :=
  (dSeq (dAsg 1 (dLc (dItems (dVar 0)) (dgPair 2 3) (dTest (dOp oEqI (dOp oMod (dVar 3) (dC (.int 2))) (dC (.int 1)))) (dVar 2) [2, 3])) (dSeq (dIfS (dOr (dTest (dOp oNeI (dCB cLen (dCons (dVar 1) dNil)) (dC (.int 1)))) (dTest (dOp oLt (dCB cSum (dCons (dLc (dItems (dVar 0)) (dgPair 4 3) dYes (dVar 3) [4, 3]) dNil)) (dC (.int 3))))) (dRet (dC .non)) dNext) (dRet (dOp oIx (dVar 1) (dC (.int 0))))))

/-- halved(tally 0, letter 1, number 2) -/
def b_halved : DS :=
  (dRetG (dLc (dItems (dVar 0)) (dgPair 1 2) dYes (dTup (dCons (dNol (dVar 1)) (dCons (dNol (dOp oDiv (dOp oAdd (dVar 2) (dC (.int 1))) (dC (.int 2)))) dNil))) [1, 2]))

/-- _law_later(_law_numbers_here 0, _law_letter 1, _law_one 2, _law_times 3) -/
def b_later : DS :=
  (dRet (dLc (dItems (dVar 0)) (dgPair 2 3) dYes (dTup (dCons (dVar 2) (dCons (dOp oSub (dOp oMul (dC (.int 2)) (dVar 3)) (dCB cInt (dCons (dOp oEqS (dVar 2) (dVar 1)) dNil))) dNil))) [2, 3]))

/-- _law_numbers(_law_bag_here 0, _law_top 1, _law_found 2, _law_wide 3, _law_start 4, _law_letter 5, _law_great 6, _law_k 7, _law_some 8, _law_times 9) -/
def b_numbers : DS :=
  (dSeq (dParO 2 3 (dOp oIx (dLst (dCons (dC (.int 3)) (dCons (dC (.int 26)) dNil))) (dCallB 0 s_take (dCons (dC (.int 2)) dNil)))) (dSeq (dAsg 4 (dCallB 0 s_take (dCons (dOp oSub (dC (.int 27)) (dVar 3)) dNil))) (dSeq (dFor (dSigns (dSl oSlS (dC (.str [97, 98, 99, 100, 101, 102, 103, 104, 105, 106, 107, 108, 109, 110, 111, 112, 113, 114, 115, 116, 117, 118, 119, 120, 121, 122])) (dPart (dVar 4)) (dPart (dOp oAdd (dVar 4) (dVar 3))))) (dgName 5) (dSeq (dAsg 6 (dCallB 0 s_take (dCons (dOp oPow (dC (.int 10)) (dC (.int 9))) dNil))) (dSeq (dFor (dRng1 (dCons (dC (.int 2)) dNil)) (dgName 7) (dAsg 6 (dOp oAdd (dOp oMulW (dVar 6) (dOp oPow (dC (.int 10)) (dC (.int 18)))) (dCallB 0 s_take (dCons (dOp oPow (dC (.int 10)) (dC (.int 18))) dNil))))) (dSeq (dAsg 8 (dLst (dCons (dC (.int 0)) (dCons (dC (.int 1)) (dCons (dOp oAdd (dC (.int 1)) (dCallB 0 s_take (dCons (dC (.int 5)) dNil))) (dCons (dOp oAdd (dC (.int 2)) (dOp oMul (dC (.int 2)) (dCallB 0 s_take (dCons (dC (.int 50)) dNil)))) (dCons (dOp oAdd (dC (.int 1)) (dOp oMod (dVar 6) (dVar 1))) (dCons (dVar 1) dNil)))))))) (dSeq (dAsg 9 (dOp oIx (dVar 8) (dCallB 0 s_take (dCons (dC (.int 6)) dNil)))) (dIfS (dTest (dOp oGt (dVar 9) (dC (.int 0)))) (dApp 2 (dTup (dCons (dVar 5) (dCons (dVar 9) dNil)))) dNext)))))) (dFrz 2 (dRet (dOrT (dVar 2) (dLst (dCons (dTup (dCons (dC (.str [109])) (dCons (dOp oAdd (dC (.int 1)) (dCallB 0 s_take (dCons (dC (.int 3)) dNil))) dNil))) dNil))))))))

theorem intsD_map {α : Type} {f : α → Int} : ∀ l : List α, intsD (l.map fun x => D.int (f x)) = some (l.map f)
  | [] => rfl
  | a :: l => by
    show (intsD (l.map fun x => D.int (f x))).map (f a :: ·) = _
    rw [intsD_map l]; rfl
theorem sum_cast : ∀ l : List Nat, (l.map (fun n : Nat => (n : Int))).sum = ((l.sum : Nat) : Int)
  | [] => rfl
  | a :: l => by
    rw [List.map_cons, List.sum_cons, List.sum_cons, sum_cast l]; omega
/-- [letter for letter, number in tally if number is odd] -/
theorem lc_odd {ts : Tally} (l1 : ts.length ≤ 26) {ρ : List Sl} {i j : Nat} {R : D → Prop} (hi : ∀ x y : D, (((dwipe ρ [i, j]).set i (.dd x)).set j (.dd y))[i]? = some (.dd x)) (hj : ∀ x y : D, (((dwipe ρ [i, j]).set i (.dd x)).set j (.dd y))[j]? = some (.dd y))
    (q : R (.lst ((oddL ts).map fun c => D.str [c]))) : lcBody (dgPair i j) (dTest (dOp oEqI (dOp oMod (dVar j) (dC (.int 2))) (dC (.int 1)))) (dVar i) [i, j] ρ R (tl ts) := by
  refine lc_filter (fun d => match d with | .tup [_, .int n] => decide (n % 2 = 1) | _ => false) (fun d => match d with | .tup [s, _] => s | _ => .non) (by rw [tl_length]; omega) (fun k d Q Z e h1 h2 => ?_) ?_
  · obtain ⟨p, hp, rfl⟩ := tl_get e
    simp only [dgPair, dTest, dOp, dVar, dC, hi, hj, oIC, oI, true_and, show (0 : Int) < 2 by decide]
    exact ifB2 (c := (p.2 : Int) % 2 = 1) (fun z => h1 (decide_eq_true z)) (fun z => h2 (decide_eq_false z))
  · have e : List.map (fun d => match d with | D.tup [s, _] => s | _ => .non) (List.filter (fun d => match d with | D.tup [_, .int n] => decide (n % 2 = 1) | _ => false) (tl ts)) = (oddL ts).map fun c => D.str [c] := by
      unfold tl oddL
      rw [List.filter_map, List.map_map, List.map_map]
      have : ∀ l : Tally, List.filter ((fun d => match d with | D.tup [_, .int n] => decide (n % 2 = 1) | _ => false) ∘ fun q : Nat × Nat => D.tup [.str [q.1], .int (q.2 : Int)]) l = List.filter (fun q => decide (q.2 % 2 = 1)) l := fun l => by
        congr 1
        funext q
        show decide (((q.2 : Nat) : Int) % 2 = 1) = decide (q.2 % 2 = 1)
        exact decide_eq_decide.mpr ⟨fun h => by omega, fun h => by omega⟩
      rw [this]; rfl
    rw [e]; exact q
/-- [number for _, number in tally] -/
theorem lc_num {ts : Tally} (l1 : ts.length ≤ 26) {ρ : List Sl} {i j : Nat} {R : D → Prop} (hj : ∀ x y : D, (((dwipe ρ [i, j]).set i (.dd x)).set j (.dd y))[j]? = some (.dd y))
    (q : R (.lst (ts.map fun q => D.int (q.2 : Int)))) : lcBody (dgPair i j) dYes (dVar j) [i, j] ρ R (tl ts) := by
  refine lc_map (fun d => match d with | .tup [_, n] => n | _ => .non) (by rw [tl_length]; omega) (fun k d Q e h => ?_) ?_
  · obtain ⟨p, hp, rfl⟩ := tl_get e
    simp only [dgPair, dYes, dVar, hj]
    exact h
  · have e : (tl ts).map (fun d => match d with | D.tup [_, n] => n | _ => .non) = ts.map fun q => D.int (q.2 : Int) := by unfold tl; rw [List.map_map]; rfl
    rw [e]; exact q

theorem oddL_len (ts : Tally) : (oddL ts).length ≤ ts.length := by unfold oddL; rw [List.length_map]; exact List.length_filter_le _ _
theorem lastC_no {ts : Tally} (h : (oddL ts).length ≠ 1) : lastC ts = none := by
  unfold lastC
  split
  · rename_i c e
    rw [e] at h; exact absurd rfl h
  · rfl
theorem odd_one {ts : Tally} (h : (oddL ts).length = 1) : ∃ c, oddL ts = [c] := by
  cases e : oddL ts with
  | nil => rw [e] at h; cases h
  | cons c r =>
    cases r with
    | nil => exact ⟨c, rfl⟩
    | cons _ _ => rw [e] at h; simp at h
theorem lastC_of {ts : Tally} {c : Nat} (e : oddL ts = [c]) : lastC ts = if totT ts < 3 then none else some c := by
  unfold lastC; rw [e]
theorem tot_cast (ts : Tally) : (ts.map fun q => ((q.2 : Nat) : Int)).sum = ((totT ts : Nat) : Int) := by
  unfold totT; rw [← sum_cast, List.map_map]; rfl
theorem ok_last_called : OkN 1 5 s_last_called b_last_called := by
  rintro ds xe R ⟨ts, rfl, l1, q⟩
  refine ⟨rfl, ?_⟩
  refine lc_odd l1 ?_ ?_ ?_
  · exact fun _ _ => rfl
  · exact fun _ _ => rfl
  show ifB (!decide (((((oddL ts).map fun c => D.str [c]).length : Nat) : Int) = 1)) _ _
  rw [List.length_map]
  unfold lastD at q
  refine ifN2' (fun z => ?_) (fun z => ?_)
  · rw [lastC_no (by omega)] at q; exact q
  · obtain ⟨c, e⟩ := odd_one (ts := ts) (by omega)
    rw [lastC_of e] at q
    refine lc_num l1 ?_ ⟨_, intsD_map ts, ?_⟩
    · exact fun _ _ => rfl
    rw [tot_cast]
    refine ifB2 (fun y => ?_) (fun y => ?_)
    · rw [if_pos (by omega)] at q; exact q
    · rw [if_neg (by omega)] at q
      rw [e]
      exact ⟨_, atI_nat (j := 0) rfl, q⟩
theorem ok_halved : OkNF 1 3 s_halved b_halved := by
  rintro ds xe R ⟨ts, rfl, l1, q⟩
  refine ⟨rfl, ?_⟩
  refine lc_map (fun d => match d with | .tup [s, .int n] => .tup [s, .int ((n + 1) / 2)] | _ => .non) (by rw [tl_length]; omega) (fun k d Q e h => ?_) ?_
  · obtain ⟨p, hp, rfl⟩ := tl_get e
    exact ⟨rfl, div2_ok, rfl, small_line (n := 2) (by decide), h⟩
  · have e : (tl ts).map (fun d => match d with | D.tup [s, .int n] => .tup [s, .int ((n + 1) / 2)] | _ => .non) = tl (halfT ts) := by
      unfold tl halfT
      rw [List.map_map, List.map_map]
      refine List.map_congr_left fun p hp => ?_
      show D.tup [.str [p.1], .int ((((p.2 : Nat) : Int) + 1) / 2)] = D.tup [.str [p.1], .int (((p.2 + 1) / 2 : Nat) : Int)]
      norm_cast
    rw [e]; exact q
theorem ok_later : OkN 2 4 s_later b_later := by
  rintro ds xe R ⟨ts, c, rfl, l1, pos, q⟩
  refine ⟨rfl, ?_⟩
  refine lc_map (fun d => match d with | .tup [.str s, .int n] => .tup [.str s, .int (2 * n - (if decide (s = [c]) then 1 else 0))] | _ => .non) (by rw [tl_length]; omega) (fun k d Q e h => ?_) ?_
  · obtain ⟨p, hp, rfl⟩ := tl_get e
    exact ⟨.inl ⟨by decide, by decide⟩, small_line (n := 2) (by decide), h⟩
  · have e : (tl ts).map (fun d => match d with | D.tup [.str s, .int n] => .tup [.str s, .int (2 * n - (if decide (s = [c]) then 1 else 0))] | _ => .non) = tl (laterT ts c) := by
      unfold tl laterT
      rw [List.map_map, List.map_map]
      refine List.map_congr_left fun p hp => ?_
      have := pos p hp
      show D.tup [.str [p.1], .int (2 * ((p.2 : Nat) : Int) - (if decide ([p.1] = [c]) = true then 1 else 0))] = D.tup [.str [p.1], .int ((2 * p.2 - (if p.1 = c then 1 else 0) : Nat) : Int)]
      by_cases z : p.1 = c
      · rw [if_pos (by simp [z]), if_pos z]
        have : 2 * ((p.2 : Nat) : Int) - 1 = ((2 * p.2 - 1 : Nat) : Int) := by omega
        rw [this]
      · rw [if_neg (by simp [z]), if_neg z]
        have : 2 * ((p.2 : Nat) : Int) - 0 = ((2 * p.2 - 0 : Nat) : Int) := by omega
        rw [this]
    rw [e]; exact q
abbrev abcW : List Nat := [97, 98, 99, 100, 101, 102, 103, 104, 105, 106, 107, 108, 109, 110, 111, 112, 113, 114, 115, 116, 117, 118, 119, 120, 121, 122]
theorem abc_piece {s w : Nat} (h : s + w ≤ 26) : cut abcW (some (s : Int)) (some ((s : Int) + (w : Int))) = (List.range w).map fun k => 97 + s + k := by
  rw [show (s : Int) + (w : Int) = ((s + w : Nat) : Int) by omega, cut_fromto]
  have : ∀ s : Fin 27, ∀ w : Fin 27, s.val + w.val ≤ 26 → (abcW.take (s.val + w.val)).drop s.val = (List.range w.val).map fun k => 97 + s.val + k := by decide +kernel
  exact this ⟨s, by omega⟩ ⟨w, by omega⟩ h
theorem ok_numbers : OkB 1 10 s_numbers b_numbers := by
  rintro ds xe R ⟨N, rfl, n0, n1, q⟩
  refine ⟨rfl, small_line (n := 2) (by decide), rfl, 2, rfl, by decide, by decide, fun v0 h0 h1 => ?_⟩
  refine ix_P (fun d => ∃ w : Nat, d = .int (w : Int) ∧ 3 ≤ w ∧ w ≤ 26) h0 h1 ?_ ?_
  · simp only [List.forall_mem_cons]
    exact ⟨⟨3, rfl, by decide, by decide⟩, ⟨26, rfl, by decide, by decide⟩, fun _ h => nomatch h⟩
  rintro _ ⟨w, rfl, w3, w26⟩
  refine ⟨rfl, 27 - (w : Int), rfl, by omega, by omega, fun v1 h2 h3 => ?_⟩
  obtain ⟨s, rfl⟩ := Int.eq_ofNat_of_zero_le h2
  refine ⟨line_of (by decide), ?_⟩
  rw [abc_piece (s := s) (w := w) (by omega)]
  refine ⟨fun i ρ => ∃ (ts : Tally) (a5 a6 a7 a8 a9 : Sl), ρ = [.bg, .dd (.int (N : Int)), .own (tl ts), .dd (.int (w : Int)), .dd (.int (s : Int)), a5, a6, a7, a8, a9] ∧ ts.length ≤ i ∧ i ≤ w ∧ (∀ q ∈ ts, 97 ≤ q.1 ∧ q.1 < 97 + s + i) ∧ (∀ q ∈ ts, 1 ≤ q.2 ∧ q.2 ≤ N) ∧ (ts.map (·.1)).Pairwise (· < ·), ⟨[], _, _, _, _, _, rfl, Nat.le_refl _, Nat.zero_le _, by simp, by simp, List.Pairwise.nil⟩, fun i d ρ e wv => ?_, fun ρ wv => ?_⟩
  · obtain ⟨ts, a5, a6, a7, a8, a9, rfl, tl_, iw, tb, tn, tp⟩ := wv
    rw [List.getElem?_map, List.getElem?_map] at e
    have il : i < w := by
      rcases Nat.lt_or_ge i w with l | l
      · exact l
      · rw [List.getElem?_eq_none (by simpa using l)] at e; cases e
    rw [List.getElem?_range il] at e
    obtain rfl := Option.some.inj e
    -- great
    refine ⟨rfl, ⟨by decide, by decide, by decide⟩, _, rfl, by decide, by decide, fun g0 k0 k1 => ?_⟩
    refine ⟨by decide, by decide, fun j ρ => ∃ (g : Int) (a7 : Sl), 0 ≤ g ∧ g < 10 ^ 9 * 10 ^ (18 * j) ∧ j ≤ 2 ∧ ρ = [.bg, .dd (.int (N : Int)), .own (tl ts), .dd (.int (w : Int)), .dd (.int (s : Int)), .dd (.str [97 + s + i]), .dd (.int g), a7, a8, a9], ⟨g0, _, k0, k1, by decide, rfl⟩, fun j d ρ e wv => ?_, fun ρ wv => ?_⟩
    · obtain ⟨g, a7, g0', g1', j2, rfl⟩ := wv
      obtain ⟨jl, rfl⟩ := span_get e
      have jl' : j < 2 := jl
      have gb : g < 10 ^ 40 := by
        have : (10 : Int) ^ 9 * 10 ^ (18 * j) < 10 ^ 40 := by
          have : j = 0 ∨ j = 1 := by omega
          rcases this with e | e <;> subst e <;> decide
        omega
      refine ⟨⟨by decide, by decide, by decide⟩, cmulwI ?_ (by decide +kernel), rfl, ⟨by decide, by decide, by decide⟩, _, rfl, by decide, by decide, fun v p0 p1 => ?_⟩
      · have : (10 : Nat) ^ 40 < 2 ^ 400 := by decide +kernel
        omega
      · have e18 : (10 : Int) ^ ((18 : Int)).toNat = 10 ^ 18 := rfl
        refine ⟨_, _, ?_, ?_, by omega, rfl⟩
        · have : (0 : Int) ≤ g * 10 ^ ((18 : Int)).toNat := Int.mul_nonneg g0' (by decide)
          omega
        · have e1 : (10 : Int) ^ 9 * 10 ^ (18 * (j + 1)) = 10 ^ 9 * 10 ^ (18 * j) * 10 ^ 18 := by
            rw [Nat.mul_succ, Int.pow_add, ← Int.mul_assoc]
          have p1' : v < 10 ^ 18 := p1
          rw [e18, e1]
          generalize (10 : Int) ^ 9 * 10 ^ (18 * j) = M at *
          omega
    · obtain ⟨g, a7', g0', g1', j2, rfl⟩ := wv
      have n0' : (0 : Int) < (N : Int) := by omega
      -- some
      refine ⟨rfl, 5, rfl, by decide, by decide, fun v2 p2 p3 => ?_⟩
      refine ⟨rfl, 50, rfl, by decide, by decide, fun v3 p4 p5 => ?_⟩
      have m0 := Int.emod_nonneg g (show (N : Int) ≠ 0 by omega)
      have m1 := Int.emod_lt_of_pos g n0'
      refine ⟨.inl ⟨by decide, by decide⟩, n0', small_line (n := 6) (by decide), rfl, 6, rfl, by decide, by decide, fun v4 p6 p7 => ?_⟩
      refine ix_P (fun d => ∃ m : Nat, d = .int (m : Int) ∧ m ≤ N) p6 p7 ?_ ?_
      · simp only [List.forall_mem_cons]
        refine ⟨⟨0, rfl, by omega⟩, ⟨1, rfl, by omega⟩, ⟨(1 + v2).toNat, ?_, by omega⟩, ⟨(2 + 2 * v3).toNat, ?_, by omega⟩, ⟨(1 + g % (N : Int)).toNat, ?_, by omega⟩, ⟨N, rfl, Nat.le_refl _⟩, fun _ h => nomatch h⟩
        · rw [show (((1 + v2).toNat : Nat) : Int) = 1 + v2 by omega]
        · rw [show (((2 + 2 * v3).toNat : Nat) : Int) = 2 + 2 * v3 by omega]
        · rw [show (((1 + g % (N : Int)).toNat : Nat) : Int) = 1 + g % (N : Int) by omega]
      rintro _ ⟨m, rfl, hm⟩
      refine ifB2 (c := (0 : Int) < (m : Int)) (fun z => ?_) (fun z => ?_)
      · refine ⟨Nat.lt_of_le_of_lt (show (tl ts).length ≤ 26 by rw [tl_length]; omega) (by decide), small_line (n := 2) (by decide), ?_⟩
        have et : tl ts ++ [.tup [.str [97 + s + i], .int (m : Int)]] = tl (ts ++ [(97 + s + i, m)]) := by rw [tl_app]; rfl
        show ∃ (ts : Tally) (a5 a6 a7 a8 a9 : Sl), [Sl.bg, .dd (.int (N : Int)), .own (_ ++ [D.tup [.str [97 + s + i], .int (m : Int)]]), _, _, _, _, _, _, _] = _ ∧ _
        rw [et]
        refine ⟨ts ++ [(97 + s + i, m)], _, _, _, _, _, rfl, by rw [List.length_append]; simp; omega, by omega, ?_, ?_, ?_⟩
        · intro q hq
          rcases List.mem_append.mp hq with h | h
          · have := tb q h; omega
          · have e := List.mem_singleton.mp h
            subst e; show 97 ≤ 97 + s + i ∧ _; omega
        · intro q hq
          rcases List.mem_append.mp hq with h | h
          · exact tn q h
          · have e := List.mem_singleton.mp h
            subst e; show 1 ≤ m ∧ m ≤ N; omega
        · rw [List.map_append, List.pairwise_append]
          refine ⟨tp, List.pairwise_singleton _ _, fun x hx y hy => ?_⟩
          obtain ⟨q, hq, rfl⟩ := List.mem_map.mp hx
          have e : y = 97 + s + i := by simpa using hy
          subst e
          exact (tb q hq).2
      · exact ⟨ts, _, _, _, _, _, rfl, by omega, by omega, fun q hq => by have := tb q hq; omega, tn, tp⟩
  · obtain ⟨ts, a5, a6, a7, a8, a9, rfl, tl_, iw, tb, tn, tp⟩ := wv
    refine ⟨_, rfl, trivial, ?_⟩
    cases ts with
    | nil =>
      refine ⟨rfl, 3, rfl, by decide, by decide, fun v p0 p1 => ?_⟩
      refine ⟨small_line (n := 2) (by decide), small_line (n := 1) (by decide), ?_⟩
      have := q [(109, (1 + v).toNat)] ⟨show 1 ≤ 1 by decide, show 1 ≤ 26 by decide, by simp, fun x hx => by
        have e := List.mem_singleton.mp hx
        subst e; show 1 ≤ (1 + v).toNat ∧ (1 + v).toNat ≤ N; omega, List.pairwise_singleton _ _⟩
      show R (.lst [.tup [.str [109], .int (1 + v)]])
      rw [show (1 + v : Int) = (((1 + v).toNat : Nat) : Int) by omega]
      exact this
    | cons a r => exact q _ ⟨by simp, by have := tl_; simp only [List.length_map, List.length_range] at this; omega, fun x hx => by
        have := tb x hx
        simp only [List.length_map, List.length_range] at this iw
        omega, tn, tp⟩
end DL

/-! helpers of the mathematics -/
namespace DL
open PySem PySem.Spec L2
open PyProof.Rows hiding St
/-- letters as texts -/
def cs (l : List Nat) : List D := l.map fun c => D.str [c]
theorem cs_length {l : List Nat} : (cs l).length = l.length := List.length_map ..
theorem cs_get {l : List Nat} {i : Nat} {d : D} (h : (cs l)[i]? = some d) : ∃ c, l[i]? = some c ∧ d = .str [c] := by
  unfold cs at h
  rw [List.getElem?_map] at h
  cases e : l[i]? with
  | none => rw [e] at h; cases h
  | some c => rw [e] at h; exact ⟨c, rfl, (Option.some.inj h).symm⟩
theorem cs_strs : ∀ l : List Nat, strsD (cs l) = some (l.map fun c => [c])
  | [] => rfl
  | c :: l => by
    show (strsD (cs l)).map ([c] :: ·) = _
    rw [cs_strs l]; rfl
theorem cs_flat : ∀ l : List Nat, (l.map fun c => [c]).flatten = l
  | [] => rfl
  | c :: l => by rw [List.map_cons, List.flatten_cons, cs_flat l]; rfl
theorem cs_mem {l : List Nat} {c : Nat} : ([c] ∈ l.map fun c => [c]) ↔ c ∈ l := by
  rw [List.mem_map]
  exact ⟨fun ⟨x, h, e⟩ => by cases e; exact h, fun h => ⟨c, h, rfl⟩⟩
theorem cs_dec {l : List Nat} {c : Nat} : decide ([c] ∈ l.map fun c => [c]) = decide (c ∈ l) := decide_eq_decide.mpr cs_mem
theorem cs_at {l : List Nat} {v : Int} (h0 : 0 ≤ v) (h1 : v < l.length) : ∃ c ∈ l, atI (cs l) v = some (.str [c]) := by
  obtain ⟨k, rfl⟩ := Int.eq_ofNat_of_zero_le h0
  have kl : k < l.length := by omega
  refine ⟨l[k], List.getElem_mem kl, atI_nat ?_⟩
  unfold cs
  rw [List.getElem?_map, List.getElem?_eq_getElem kl]; rfl
theorem cs_nol {l : List Nat} : ∀ d ∈ cs l, nol d = true := fun d h => by
  obtain ⟨c, _, rfl⟩ := List.mem_map.mp h; rfl
theorem cs_of : ∀ {ds : List D}, (∀ d ∈ ds, ∃ c : Nat, d = .str [c] ∧ 97 ≤ c ∧ c ≤ 122) → ∃ l : List Nat, ds = cs l ∧ ∀ c ∈ l, 97 ≤ c ∧ c ≤ 122
  | [], _ => ⟨[], rfl, by simp⟩
  | d :: ds, h => by
    obtain ⟨c, e, hc⟩ := h d List.mem_cons_self
    obtain ⟨l, e2, hl⟩ := cs_of (ds := ds) fun x hx => h x (List.mem_cons_of_mem _ hx)
    exact ⟨c :: l, by rw [e, e2]; rfl, fun x hx => by rcases List.mem_cons.mp hx with z | z; subst z; exact hc; exact hl x z⟩
theorem cs_fine {l : List Nat} (h : ∀ c ∈ l, 97 ≤ c ∧ c ≤ 122) (hl : l.length ≤ 100000) : fine (.lst (cs l)) := by
  refine fine_lst (n := 12) (m := 100000) (fun x hx => ?_) (by rw [cs_length]; exact hl) (by decide)
  obtain ⟨c, hc, rfl⟩ := List.mem_map.mp hx
  exact ⟨fine_str (fun y hy => by have : y = c := by simpa using hy
                                  have := h c hc; omega) (show 1 ≤ 1000000 by decide), by simp [wt], by simp [dpD]⟩
theorem ne_nilG {xs : List D} {R : D → Prop} (f : fine (.lst xs)) (q : R (.bl (!xs.isEmpty))) : oNe (.lst xs) (.lst []) R := by
  refine ⟨f.eq, nil_fine.eq, ?_⟩
  have : (!PyData.eqv (toPy (.lst xs)) (toPy (.lst []))) = !xs.isEmpty := by cases xs <;> rfl
  rw [this]; exact q
/-- a filter of which but what it gives is known -/
theorem lc_sub {items : List D} {dg : DG} {dt : DT} {de : DE} {vs : List Nat} {ρ : List Sl} {R : D → Prop} (P : D → Prop) (hl : items.length ≤ 1000000)
    (h : ∀ (i : Nat) d (Q : D → Prop) (Z : Prop), items[i]? = some d → (∀ y, P y → Q y) → Z → dg d (dwipe ρ vs) fun ρ2 => dt ρ2 (fun _ => False) fun k => ifB k (de ρ2 (fun _ => False) Q) Z)
    (q : ∀ acc, acc.length ≤ items.length → (∀ y ∈ acc, P y) → R (.lst acc)) : lcBody dg dt de vs ρ R items := by
  refine ⟨Nat.le_trans hl (by decide), fun i acc => ∀ y ∈ acc, P y, fun _ h => by simp at h, fun i d acc e _ w => ?_, fun acc l w => q acc l w⟩
  exact h i d _ _ e (fun y hy z hz => by
    rcases List.mem_append.mp hz with z' | z'
    · exact w z z'
    · have := List.mem_singleton.mp z'
      subst this; exact hy) w
/-- [letter for letter, _ in tally] -/
theorem lc_let {ts : Tally} (l1 : ts.length ≤ 26) {ρ : List Sl} {i j : Nat} {R : D → Prop} (hi : ∀ x y : D, (((dwipe ρ [i, j]).set i (.dd x)).set j (.dd y))[i]? = some (.dd x))
    (q : R (.lst (cs (ts.map (·.1))))) : lcBody (dgPair i j) dYes (dVar i) [i, j] ρ R (tl ts) := by
  refine lc_map (fun d => match d with | .tup [s, _] => s | _ => .non) (by rw [tl_length]; omega) (fun k d Q e h => ?_) ?_
  · obtain ⟨p, hp, rfl⟩ := tl_get e
    simp only [dgPair, dYes, dVar, hi]
    exact h
  · have e : (tl ts).map (fun d => match d with | D.tup [s, _] => s | _ => .non) = cs (ts.map (·.1)) := by unfold tl cs; rw [List.map_map, List.map_map]; rfl
    rw [e]; exact q
end DL

namespace DL
open PySem PySem.Spec L2
open PyProof.Rows hiding St
open PySem.W (dataLe AllAlike Sortable EachIs sorted_data)

/-! ### sorted(list), any data that can be sorted -/
abbrev leD (a b : D) : Bool := dataLe false toPy a b
def sortD (ds : List D) : List D := ds.mergeSort leD
def sortOk (ds : List D) : Prop := plains ds = true ∧ AllAlike (ds.map toPy) ∧ Sortable (ds.map toPy) ∧ (∀ d ∈ ds, (toPy d).depth ≤ 50) ∧ ds.length ≤ sizeLine
theorem toPys_map : ∀ ds : List D, toPys ds = ds.map toPy
  | [] => rfl
  | d :: ds => by rw [toPys, toPys_map ds]; rfl
def encP (p : V × D) : PyData := toPy p.2
def rSortD (K : PySem.W.Frag) : List V → Hp → VK → Prop := fun vs H Q => ∃ (a : Addr) (ps : List (V × D)), vs = [V.ref a] ∧ SqL K H a (ps.map (·.1)) ∧ (∀ p ∈ ps, Dp K H p.1 (toPy p.2)) ∧ AllAlike (ps.map encP) ∧ Sortable (ps.map encP) ∧ (∀ p ∈ ps, (encP p).depth ≤ 50) ∧ ps.length ≤ sizeLine ∧
  ∀ q : Addr, H q = none → Q (.ref q) (upd H q (.lst ((ps.mergeSort (dataLe false encP)).map (·.1))))
theorem each_vals : ∀ {us : List Value} {ps : List (V × D)}, EachIs (fun u p => RelV p.1 u) us ps → Vals (ps.map (·.1)) us
  | _, _, .nil => .nil
  | _, _, .cons h t => .cons h (each_vals t)
theorem vals_each : ∀ {us : List Value} {ps : List (V × D)}, Vals (ps.map (·.1)) us → EachIs (fun u p => RelV p.1 u) us ps
  | _, [], h => by cases h; exact .nil
  | _, p :: ps, h => by
    cases h with
    | cons a b => exact .cons a (vals_each b)
theorem each_all {R : Value → V × D → Prop} {T : Value → V × D → Prop} : ∀ {us : List Value} {ps : List (V × D)}, EachIs R us ps → (∀ u p, p ∈ ps → R u p → T u p) → EachIs T us ps
  | _, _, .nil, _ => .nil
  | _, _, .cons h t, k => .cons (k _ _ (List.mem_cons_self) h) (each_all t fun u p m => k u p (List.mem_cons_of_mem _ m))
section
variable {X : Cx} {k : Nat}
theorem cr_sortD (hu : X.A.units + 64 < cLine) : CallR X (.builtin "sorted") (rSortD X.K) := by
  intro pins s σ H vs us Q I r h
  obtain ⟨a, ps, rfl, hs, hd, ha, hk, h5, hl, q⟩ := h
  obtain ⟨its, rv, pl, hz⟩ := I.list hs
  rw [Vals.ref1 r]
  have e := vals_each rv
  refine sorted_data (R := fun u p => RelV p.1 u) (enc := encP) pl.isList (by simpa using e) ?_ ha hk hl (fun b hb => by have := h5 b hb; omega) fun out ho eo => ?_
  · exact each_all (by simpa using e) fun u p m rx => Dp.reads I _ _ _ (hd p m) rx
  · obtain ⟨ep, he'⟩ := PyProof.Rows.sortedAll_at s.heap its out.toArray
    have hv := each_vals eo
    have hlen : ((ps.mergeSort (dataLe false encP)).map (·.1)).length ≤ sizeLine := by
      rw [List.length_map, List.length_mergeSort]; exact hl
    exact ⟨.ref _, upd H (s.heap.objs.size + 1) (.lst ((ps.mergeSort (dataLe false encP)).map (·.1))), I.laid (t' := s.toks) (fun _ _ => PyProof.Rows.sortedAll_old) (Nat.le_succ _) ⟨hlen, out, ep, hv, he'⟩, rfl, q _ (I.hok.fresh (Nat.le_succ _))⟩
end
def cSortD : OC := fun ds R => match ds with
  | [.lst xs] => sortOk xs ∧ R (.lst (sortD xs))
  | _ => False
theorem reps_of {K : PySem.W.Frag} {G : Hp} : ∀ {ps : List (V × D)}, (∀ p ∈ ps, Rep K G p.1 p.2) → Reps K G (ps.map (·.1)) (ps.map (·.2))
  | [], _ => .nil
  | p :: ps, h => .cons (h p List.mem_cons_self) (reps_of fun q m => h q (List.mem_cons_of_mem _ m))
theorem reps_zip {K : PySem.W.Frag} {G : Hp} : ∀ {vs : List V} {ds : List D}, Reps K G vs ds → (vs.zip ds).map (·.1) = vs ∧ (vs.zip ds).map (·.2) = ds ∧ ∀ p ∈ vs.zip ds, Rep K G p.1 p.2
  | _, _, .nil => ⟨rfl, rfl, fun _ h => nomatch h⟩
  | _, _, .cons a b => by
    obtain ⟨h1, h2, h3⟩ := reps_zip b
    refine ⟨by simp [h1], by simp [h2], fun p hp => ?_⟩
    rcases List.mem_cons.mp hp with e | m
    · rw [e]; exact a
    · exact h3 p m
theorem plains_mem : ∀ {ds : List D}, plains ds = true → ∀ d ∈ ds, plain d = true
  | d :: ds, h, x, m => by
    simp only [plains, Bool.and_eq_true] at h
    rcases List.mem_cons.mp m with e | m
    · rw [e]; exact h.1
    · exact plains_mem h.2 x m
theorem mem_plains : ∀ {ds : List D}, (∀ d ∈ ds, plain d = true) → plains ds = true
  | [], _ => rfl
  | d :: ds, h => by
    simp only [plains, Bool.and_eq_true]
    exact ⟨h d List.mem_cons_self, mem_plains fun x m => h x (List.mem_cons_of_mem _ m)⟩
theorem simc_sortD {K : PySem.W.Frag} : SimC K (rSortD K) cSortD := fun B G H vs ds s r Q R k q => by
  unfold cSortD at q
  split at q
  · rename_i xs
    cases r with
    | cons r1 r =>
      cases r
      cases r1 with
      | @lst a xv _ a1 b1 =>
        obtain ⟨⟨o1, o2, o3, o4, o5⟩, q⟩ := q
        obtain ⟨z1, z2, z3⟩ := reps_zip b1
        have me : (xv.zip xs).map encP = xs.map toPy := by
          conv => rhs; rw [← z2]
          rw [List.map_map]; rfl
        have mz : ∀ p ∈ xv.zip xs, p.2 ∈ xs := fun p hp => by rw [← z2]; exact List.mem_map.mpr ⟨p, hp, rfl⟩
        refine ⟨a, xv.zip xs, rfl, by rw [z1]; exact SqL.of (s.gh _ _ a1), fun p hp => (z3 p hp).dp s.gh (plains_mem o1 _ (mz p hp)), by rw [me]; exact o2, by rw [me]; exact o3, fun p hp => o4 _ (mz p hp), ?_, ?_⟩
        · have : ((xv.zip xs).map (·.2)).length = xs.length := by rw [z2]
          rw [List.length_map] at this; omega
        · have e : ((xv.zip xs).mergeSort (dataLe false encP)).map (·.2) = sortD xs := by
            have := List.map_mergeSort (r := dataLe false encP) (s := leD) (f := Prod.snd) (l := xv.zip xs) (fun a _ b _ => rfl)
            rw [this, z2]; rfl
          have rr := reps_of (K := K) (G := G) (ps := (xv.zip xs).mergeSort (dataLe false encP)) fun p hp => z3 p (List.mem_mergeSort.mp hp)
          rw [e] at rr
          exact s.lst rr k q
  · exact q.elim
theorem xSortD {X : Cx} {E : XK} {e : Expr} {de : DE} {p pos : Pos} {k : Nat} (rg : RmG k X.A) (hg : Gl X "sorted") (hm : X.mg "sorted" = none) (ha : XEx X E e de) (he : starEach [e] X.env = (false, eval e X.env) :: starEach [] X.env := by rfl) : XEx X E (.Call (.Name "sorted" p) [e] [] pos) (dCB cSortD (dCons de dNil)) := xCB (cr_sortD rg.rm.units) simc_sortD hg hm (by decide +kernel) (xa_cons ha xa_nil he) (he := he)
end DL

/-! sorted(set(list of whole numbers)) -/
namespace L2
open PySem PySem.Spec PySem.Calls PyProof.Rows
/-- the new set of an object's heap -/
abbrev newSet (w : World) : Obj := { cls := .type "set", dict := none, data := .set #[] 0 (.fresh 0 0 (!w.params.followText "set-order")) }
section
variable {P : Program} {w : World} {A : Around} {E : Value → Shared → Prop} {s : Shared}
/-- set(xs), xs a list of whole numbers: its members are those of the list -/
theorem set_of_ints {l : Addr} {items : Array Value} (ns : List Int) {Q : Value → Shared → Prop} (hh : A.handled = none) (hl : s.heap.IsList l items) (hit : IntsAre items.toList ns) (hb : ns.length + 1 < scanBound)
    (h : ∀ (h' : Heap) (tk c : Nat), SetR w h' s.heap.objs.size (fun j => decide (j ∈ ns)) c → c ≤ ns.length → (∀ b o, s.heap.get? b = some o → h'.get? b = some o) → Q (.ref s.heap.objs.size) { s with heap := h', toks := tk }) :
    wpAny (model P w) A (call (.type "set") [.ref l]) Q E s := by
  have hisz : items.size = ns.length := by
    have q := IntsAre.length hit
    rwa [Array.length_toList] at q
  obtain ⟨c, tl, hmro⟩ := F.called_set.mro
  have hmade := F.called_set.made
  have hsub := F.called_set.sub
  refine wpAny_call (codeAny_of_tree ?_)
  show wpAny _ _ (callAny (.type "set") _) _ _ _
  refine wpAny_pure ⟨Code.quiet_builtin _ (by decide +kernel), codeAny_builtin F.entry_type_call ?_⟩
  rw [Around.under_plain (weight_type_call_type "set" [.ref l] []) rfl]
  have h1 := F.called_set.notType
  have h2 := F.called_set.canCreate
  have hct := F.typeCall_set_1 (.ref l)
  repeat (any_goals (first | assumption | wp_step))
  refine codeAny_mono (code_set_led1 (.ref l) (E := E) (Q₁ := fun obj s₁ => obj = .ref s.heap.objs.size ∧ s₁ = { s with heap := s.heap.push (newSet w) }) ⟨rfl, rfl⟩) fun r s₁ hr => ?_
  match r, hr with
  | .error e, hr => exact hr
  | .ok (.ret obj), hr =>
    obtain ⟨rfl, rfl⟩ := hr
    have hS : (s.heap.push (newSet w)).get? s.heap.objs.size = some (newSet w) := Heap.get?_push_size _ rfl
    have hT : Shared.TypeIs { s with heap := s.heap.push (newSet w) } (.ref s.heap.objs.size) "set" := ⟨_, hS, rfl⟩
    have hli := F.called_set.init.lookup
    have hbi := F.called_set.init.bind (.ref s.heap.objs.size)
    repeat (any_goals (first | assumption | wp_step))
    refine codeAny_mono (codeAny_call_builtin (R := wants (fun r s₂ => r = .none ∧ ∃ h' tk c, s₂ = { s with heap := h', toks := tk } ∧ SetR w h' s.heap.objs.size (fun j => decide (j ∈ ns)) c ∧ c ≤ ns.length ∧
        (∀ b o, s.heap.get? b = some o → h'.get? b = some o)) E) F.called_set.init.plain F.entry_set_init (check_set_init_1 hT ?_)) fun r₂ s₂ hr₂ => ?_
    · obtain ⟨⟨ocls, odict, odata, oslots⟩, hol, hcl, nl, hdl⟩ := hl
      simp only at hcl hdl
      subst hcl; subst hdl
      have hlS : l < s.heap.objs.size := Heap.lt_size hol
      have hol' := Heap.get?_push_of_some (newSet w) hol
      have hl1 : (s.heap.push (newSet w)).IsList l items := ⟨_, hol', rfl, nl, rfl⟩
      have hsls := F.sub_list_set
      have hslf := F.sub_list_frozenset
      have hne : (Value.type "list" == Value.type "dict") = false := by decide
      unfold Builtin.«set.__init__» noKeywords Builtin.Frozenset.updateFrom
      generalize hPI : pyIter = PI
      wp_walk
      subst hPI
      refine wpAny_pyIter_list hl1 ?_
      refine wpAny_bind (wpAny_runValue ?_)
      have hh3 : A.in1.in1.in1.handled = none := by simp [hh]
      have hneI : l ≠ (s.heap.push (newSet w)).objs.size := by
        rw [Heap.size_push]; exact Nat.ne_of_lt (Nat.lt_succ_of_lt hlS)
      have hSf : s.heap.objs.size ∉ [(s.heap.push (newSet w)).objs.size, l] := by
        rw [Heap.size_push]
        simp only [List.mem_cons, List.mem_singleton, List.not_mem_nil, or_false, not_or]
        exact ⟨Nat.ne_of_lt (Nat.lt_succ_self _), Nat.ne_of_gt hlS⟩
      refine set_update_ints ((Walks.list hh3 _ l hneI items).toS) s.heap.objs.size hSf ns hisz hb (fun i v hv => ?_) (items.size - 0) 0 _ (by omega) (Nat.zero_le _)
        ⟨⟨_, Heap.get?_push_size _ rfl, rfl, rfl⟩, (hl1.push _)⟩ ⟨0, Nat.le_refl 0, setR_new_at (Heap.get?_push_of_some _ hS)⟩ fun s' c' hm hc' hS' => ?_
      · have hi : i < ns.length := by rw [← hisz]; exact (Array.getElem?_eq_some_iff.mp hv).1
        obtain ⟨t, e⟩ := IntsAre.int_at hit i v (by rw [Array.getElem?_toList]; exact hv)
        rw [List.getD_eq_getElem?_getD, List.getElem?_eq_getElem hi] at e
        exact ⟨ns[i], t, List.getElem?_eq_getElem hi, e⟩
      · obtain ⟨h', g2, d', tk', os'⟩ := s'
        have eg : g2 = s.gens := hm.gens
        have ed : d' = s.drawn := hm.drawn
        have eo : os' = s.os := hm.os
        subst eg; subst ed; subst eo
        show wpAny _ _ _ _ _ _
        refine wpAny_pure ?_
        show wpAny _ _ (ret Value.none) _ _ _
        rw [hisz] at hc'
        refine wpAny_pure ⟨rfl, h', tk', c', rfl, hS', hc', fun b o e => hm.heap b o ?_ (Heap.get?_push_of_some _ (Heap.get?_push_of_some _ e))⟩
        have hb0 : b < s.heap.objs.size := Heap.lt_size e
        rw [Heap.size_push]
        simp only [List.mem_cons, List.mem_singleton, List.not_mem_nil, or_false, not_or]
        exact ⟨Nat.ne_of_lt hb0, Nat.ne_of_lt (Nat.lt_succ_of_lt hb0)⟩
    · match r₂, hr₂ with
      | .error e, hr₂ => exact hr₂
      | .ok (.ret r), hr₂ =>
        obtain ⟨rfl, h', tk, c', rfl, hS', hc', hk'⟩ := hr₂
        repeat (any_goals (first | assumption | wp_step))
        exact h _ _ _ hS' hc' hk'
end
end L2

namespace L2
open PySem PySem.Spec PyProof.Rows
def rSetI (K : PySem.W.Frag) (w : World) : List V → Hp → VK → Prop := fun vs H Q => ∃ (a : Addr) (ns : List Int), vs = [V.ref a] ∧ SqL K H a (ns.map V.int) ∧ ns.length + 1 < scanBound ∧
  ∀ (p : Addr) (c : Nat), c ≤ ns.length → H p = none → Q (.ref p) (upd H p (SetO w p (fun j => decide (j ∈ ns)) c))
theorem cr_setI {X : Cx} (hc : X.calm = true) : CallR X (.type "set") (rSetI X.K X.w) := by
  intro pins s σ H vs us Q I r h
  obtain ⟨a, ns, rfl, hs, hb, q⟩ := h
  obtain ⟨its, rv, pl, hz⟩ := I.list hs
  rw [Vals.ref1 r]
  refine set_of_ints ns (I.ok.hd hc) pl.isList (by simpa using rv.ints) hb fun h' tk c hS hc' hk => ?_
  exact ⟨.ref s.heap.objs.size, upd H s.heap.objs.size (SetO X.w s.heap.objs.size (fun j => decide (j ∈ ns)) c), I.laid hk (Nat.le_refl _) (setO_new hS), rfl, q _ c hc' I.fresh⟩
end L2

namespace DL
open PySem PySem.Spec L2
open PyProof.Rows hiding St
/-- sorted(set(e)), e a list of whole numbers -/
def dSortSet (de : DE) : DE := fun ρ xe R => de ρ xe fun d => match d with
  | .lst xs => ∃ ns : List Int, xs = ns.map D.int ∧ ns.length < 64 ∧ ∀ ms : List Int, ms.Pairwise (· < ·) → (∀ k : Int, k ∈ ms ↔ k ∈ ns) → R (.lst (ms.map D.int))
  | _ => False
section
variable {X : Cx} {E : XK} {e : Expr} {de : DE} {p p' pos pos' : Pos}
theorem xSortSet (hc : X.calm = true) (hg : Gl X "sorted") (hm : X.mg "sorted" = none) (hg' : Gl X "set") (hm' : X.mg "set" = none) (ha : XEx X E e de)
    (he : starEach [e] X.env = (false, eval e X.env) :: starEach [] X.env := by rfl)
    (he' : starEach [Expr.Call (.Name "set" p') [e] [] pos'] X.env = (false, eval (Expr.Call (.Name "set" p') [e] [] pos') X.env) :: starEach [] X.env := by rfl) :
    XEx X E (.Call (.Name "sorted" p) [.Call (.Name "set" p') [e] [] pos'] [] pos) (dSortSet de) :=
  .of (pe_callB (cr_sortedSet hc) hg hm (by decide +kernel) (pa_cons (pe_callTy (cr_setI hc) hg' hm' (by decide +kernel) (pa_cons ha.pe pa_nil he) (he := he)) pa_nil he') (he := he')) fun B G0 H0 G H σ ρ I xe lx Q R kk q =>
  sE B G0 H0 G H σ ρ I xe lx _ _ (fun v G' H' d t r z => by
    split at z
    · obtain ⟨ns, rfl, h64, z⟩ := z
      cases r with
      | @lst a xv _ a1 b1 =>
        have e := reps_ints b1
        subst e
        refine ⟨a, ns, rfl, SqL.of (t.gh _ _ a1), by unfold scanBound; omega, fun q c hc' hq => ?_⟩
        have t0 : Stt B G' H' G' H' := Stt.refl t.gh t.bag
        have t1 := t0.new (o := SetO X.w q (fun j => decide (j ∈ ns)) c) hq
        refine ⟨q, _, c, rfl, upd_same, by omega, fun ms q2 hp hm2 hl2 hq2 => ?_⟩
        exact (Stt.refl t1.gh t1.bag).lst (ints_reps ms) (fun v G3 H3 f t3 r3 q3 => kk v G3 H3 f ((t.trans t1).trans t3) r3 q3) (z ms hp fun k => by rw [hm2 k]; simp) q2 hq2
    · exact z.elim) q
end
end DL

/-! isinstance(e, (A, B, ..)) of a caught error -/
namespace DL
open PySem PySem.Spec L2
open PyProof.Rows hiding St
def rIsDT (K : PySem.W.Frag) (D a dx : Addr) : List V → Hp → VK → Prop := fun xs H Q => ∃ (tp : Addr) (cs : List V) (us : List Value) (b : Bool) (fs : List (Str × V)), xs = [.ref a, .ref tp] ∧ H tp = some (.tup cs) ∧ Paired ClsV cs us ∧ PySem.W.kitAny K (.ref D) us = some b ∧ H dx = some (.xd fs) ∧ Q (.bl b) H
theorem call_isDT {X : Cx} {a D dx : Addr} {oe : Obj} {pn : List (Addr × Obj)} (C : ExcC X.K D) (hc : (PySem.W.clsIn X.K D).isSome = true) (hz : Zc (.ref D) (some dx) oe) (hf : ∃ vs, oe.data = .fields vs) :
    CallR (X.suite a ((a, oe) :: pn)) (.builtin "isinstance") (rIsDT X.K D a dx) := fun pins s σ H xs us Q I r ⟨tp, cs, ws, b, fs, e, h1, h2, h3, h4, q⟩ => by
  subst e
  obtain ⟨u1, u2, rfl, r1, r2⟩ := vals2 r
  cases (show u2 = Value.ref tp from r2)
  cases r1
  have pin := I.pin (a, oe) (by simp)
  obtain ⟨mA, ⟨o, es, ep, g1, _⟩, _⟩ := I.hok dx _ h4
  obtain ⟨vs, hv⟩ := hf
  have at_ : PySem.W.InstAt s.heap a oe D (some o) := ⟨pin.1, hz.1, by unfold PySem.W.notCls; rw [hv], by rw [hz.2]; exact g1⟩
  obtain ⟨_, its, rv, o', g2, g3, n, g4⟩ := (show ObjOk X.prog X.w H s.heap tp (.tup cs) from I.hok tp _ h1)
  have e3 := ClsV.all h2 rv
  subst e3
  obtain ⟨oc, od, dt, sl⟩ := o'
  simp only at g3 g4
  subst g3 g4
  refine PySem.W.kia_tup (PySem.W.kitx_exc hc C.hg C.hk C.hs C.ha C.hn C.ht C.hm) I.kIn at_ g2 h3 (by intro h; cases h) fun tk => ?_
  exact ⟨.bl b, H, ⟨I.ok, I.os, I.bare, I.base, I.loc, I.cell, I.free, I.freeC, I.pin, I.hok, I.len⟩, rfl, q⟩
def tCs (vs : List V) : TA := fun _ H Q => Q vs H
section
variable {X : Cx} {E : XK} {a D dx : Addr} {oe : Obj} {pn : List (Addr × Obj)} {c : Value} {e et : Expr} {es : List Expr} {v : V} {vs : List V} {i : Nat} {pos : Pos}
theorem pa_cs0 : PA X [] (tCs []) := pa_nil
theorem pa_cs (ha : PE X e (tC v)) (hr : PA X es (tCs vs)) (hs : starEach (e :: es) X.env = (false, eval e X.env) :: starEach es X.env := by rfl) : PA X (e :: es) (tCs (v :: vs)) := pa_cons ha hr hs
theorem kit_yes {K : PySem.W.Frag} {t c : Value} {r : List Value} (h : PySem.W.kitOne K t c = some true) : PySem.W.kitAny K t (c :: r) = some true := by unfold PySem.W.kitAny; rw [h]
theorem kit_no1 {K : PySem.W.Frag} {t c : Value} {r : List Value} {b : Bool} (h : PySem.W.kitOne K t c = some false) (hr : PySem.W.kitAny K t r = some b) : PySem.W.kitAny K t (c :: r) = some b := by unfold PySem.W.kitAny; rw [h]; exact hr
theorem kit_nil {K : PySem.W.Frag} {t : Value} : PySem.W.kitAny K t [] = some false := by unfold PySem.W.kitAny; rfl
theorem xIsXT {p p2 tp : Pos} {k : Nat} {ets : List Expr} {cs : List V} {ws : List Value} {b : Bool} (Z : ErF X.K c D) (hz : Zc (.ref D) (some dx) oe) (hf : ∃ vs, oe.data = .fields vs) (hg : Gl (X.suite a ((a, oe) :: pn)) "isinstance") (hm : X.mg "isinstance" = none) (hv : PE (X.suite a ((a, oe) :: pn)) e (tVar i)) (ht : PA (X.suite a ((a, oe) :: pn)) ets (tCs cs)) (hu : Paired ClsV cs ws)
    (hk : PySem.W.kitAny X.K (.ref D) ws = some b) (hl : cs.length ≤ 100 := by decide) (h1 : starEach [e, .Tuple ets k tp] X.env = (false, eval e X.env) :: starEach [.Tuple ets k tp] X.env := by rfl) (h2 : starEach [.Tuple ets k tp] X.env = (false, eval (.Tuple ets k tp) X.env) :: starEach [] X.env := by rfl) (hpl : (backTo pos (starEach [.Tuple ets k tp] X.env)).any (·.1) = false := by rfl) :
    XEx (X.suite a ((a, oe) :: pn)) E (.Call (.Name "isinstance" p) [e, .Tuple ets k tp] [] pos) (dIsX a dx i b) := .of (pe_callB (call_isDT Z.ex Z.cl hz hf) hg hm (by decide +kernel) (pa_cons hv (pa_cons (pe_tup ht) pa_nil h2) h1) (by decide) (by decide) h1 hpl) fun B G0 H0 G H σ ρ I xe lx Q R kk q => by
  unfold dIsX at q
  split at q
  · rename_i a' d' er e1
    obtain ⟨⟨rfl, rfl, q0⟩, q2⟩ := q
    obtain ⟨h1, h2⟩ := ex_slot I e1
    rcases h2 with h2 | ⟨dx', fs, g1, g2, g3, g4⟩
    · exact absurd h2 q0
    cases g1
    refine ⟨_, h1, Nat.le_trans hl (by decide), fun q hq => ?_⟩
    have t1 := I.st.here.new (o := .tup cs) hq
    exact ⟨q, cs, ws, b, fs, rfl, upd_same, hu, hk, t1.gh _ _ (t1.gg _ _ g2), kk _ _ _ _ t1 (.bl b) q2⟩
  · exact q.elim
end
end DL

/-! {} as data, its repr; tuple(list) -/
namespace DL
open PySem PySem.Spec L2
open PyProof.Rows hiding St
def dDct0 : DE := fun _ _ R => R (.dct [] [])
def cTupOf : OC := fun ds R => match ds with
  | [.lst s] => R (.tup s)
  | _ => False
theorem simc_tupOf {K : PySem.W.Frag} : SimC K (fun xs H Q => ∃ p ys, xs = [.ref p] ∧ ((SqL K H p ys ∧ ∀ l, H l = none → Q (.ref l) (upd H l (.tup ys))) ∨ (SqT K H p ys ∧ Q (.ref p) H))) cTupOf := fun B G H vs ds s r Q R k q => by
  unfold cTupOf at q
  split at q
  · cases r with
    | cons r1 r =>
      cases r
      cases r1 with
      | lst a1 b1 => exact ⟨_, _, rfl, .inl ⟨SqL.of (s.gh _ _ a1), s.tup b1 k q⟩⟩
  · exact q.elim
def rReprX (K : PySem.W.Frag) : List V → Hp → VK → Prop := fun xs H Q => rRepr K xs H Q ∨ ∃ a, xs = [.ref a] ∧ H a = some (.dK []) ∧ Q (.str ⟨#[123, 125]⟩) H
theorem call_reprX {X : Cx} {k : Nat} (rg : RmG k X.A) : CallR X (.builtin "repr") (rReprX X.K) := by
  intro pins s σ H xs us Q I r h
  rcases h with h | ⟨a, rfl, ha, q⟩
  · exact call_repr rg pins s σ H xs us Q I r h
  · obtain ⟨u, rfl, rx⟩ := vals1 r
    cases (show u = Value.ref _ from rx)
    obtain ⟨_, hs, vs, kv, o, es, ep, h1, h2, h3, h4, h5, h6⟩ := (show ObjOk X.prog X.w H s.heap a (.dK []) from I.hok a _ ha)
    have ev : vs = [] := by cases kv; rfl
    subst ev
    have ee : es.toList = [] := by
      generalize es.toList = l at h5
      cases h5; rfl
    have rd : Reads s.heap (.ref a) (.dict []) ([a] ++ []) := by
      refine Reads.dict (o := o) (es := es) (n := ep) (kvs := []) (as := []) (bs := []) h1 h2.1 h3 ?_ ?_
      · rw [ee]; exact .nil
      · rw [ee]; exact .nil
    have un := rg.rm.un
    refine repr_of_reads' rd (by rfl) (fun _ hm => ?_) rg.gd (by show X.A.units + (0 + 1 + 1) < _; omega) (fun _ _ z => z) (fun h' w tk kp => ⟨.str _, H, I.kept kp, ⟨w, rfl⟩, q⟩) (by decide)
    · rw [List.append_nil, List.mem_singleton] at hm
      rw [← hm] at hs; simp at hs
/-- {} may be shown, and what repr may be asked of -/
def okX (d : D) : Prop := d = .dct [] [] ∨ reprOk d
def shX (d : D) : List Nat := match d with
  | .dct _ _ => [123, 125]
  | d => (toPy d).shown.cps.toList
def cReprX : OC := fun ds R => match ds with
  | [d] => okX d ∧ R (.str (shX d))
  | _ => False
theorem simc_reprX {K : PySem.W.Frag} : SimC K (rReprX K) cReprX := fun B G H vs ds s r Q R k q => by
  unfold cReprX at q
  split at q
  · rename_i d
    obtain ⟨o, q⟩ := q
    rcases o with rfl | o
    · cases r with
      | cons r1 r =>
        cases r
        cases r1 with
        | dct a1 hk b1 n => exact absurd rfl n
        | dct0 a1 => exact .inr ⟨_, rfl, s.gh _ _ a1, k _ G H _ s (.str [123, 125]) q⟩
    · have e : shX d = (toPy d).shown.cps.toList := by
        have p := o.1
        cases d with
        | dct => cases p
        | _ => rfl
      rw [e] at q
      exact .inl (simc_repr B G H vs _ s r Q R k ⟨o, q⟩)
  · exact q.elim
section
variable {X : Cx} {E : XK} {e : Expr} {de : DE} {p pos : Pos} {k : Nat}
theorem xDct0 : XEx X E (.Dict [] [] pos) dDct0 := .of pe_dnewK fun B G0 H0 G H σ ρ I xe lx Q R kk q => fun a ha => by
  have t1 := I.st.here.new (o := .dK []) ha
  exact kk (.ref a) _ _ _ t1 (.dct0 upd_same) q
theorem xTupOf (hg : Gl X "tuple") (hm : X.mg "tuple" = none) (ha : XEx X E e de) (he : starEach [e] X.env = (false, eval e X.env) :: starEach [] X.env := by rfl) : XEx X E (.Call (.Name "tuple" p) [e] [] pos) (dCB cTupOf (dCons de dNil)) := xCT call_tuple_of simc_tupOf hg hm (by decide +kernel) (xa_cons ha xa_nil he) (he := he)
theorem xReprX (rg : RmG k X.A) (hg : Gl X "repr") (hm : X.mg "repr" = none) (ha : XEx X E e de) (he : starEach [e] X.env = (false, eval e X.env) :: starEach [] X.env := by rfl) : XEx X E (.Call (.Name "repr" p) [e] [] pos) (dCB cReprX (dCons de dNil)) :=
  xCB (call_reprX rg) simc_reprX hg hm (by decide +kernel) (xa_cons ha xa_nil he) (he := he)
end
end DL

/-! own dicts whose values are data: x = {}, x[k] = v, x.get(k, d), len(x) -/
namespace DL
open PySem PySem.Spec L2
open PyProof.Rows hiding St
/-- what a slot still says once an own dict is written -/
def oth : Sl → Sl
  | .odk _ _ => .un
  | s => s
def keyD : D → Option DK
  | .int i => some (.inl i)
  | .str s => some (.inr s)
  | _ => none
def getX : List DK → List D → DK → Option D
  | q :: ks, x :: xs, k => if q = k then some x else getX ks xs k
  | _, _, _ => none
def hasK (ks : List DK) (k : DK) : Bool := ks.any fun q => decide (q = k)
def putKs (ks : List DK) (k : DK) : List DK := if hasK ks k then ks else ks ++ [k]
def repX : List DK → List D → DK → D → List D
  | q :: ks, x :: xs, k, v => (if q = k then v else x) :: repX ks xs k v
  | _, _, _, _ => []
def putX (ks : List DK) (xs : List D) (k : DK) (v : D) : List D := if hasK ks k then repX ks xs k v else xs ++ [v]
theorem key_inj {a b : DK} (h : DK.key a = DK.key b) : a = b := by
  cases a with
  | inl i => cases b with
    | inl j => exact congrArg Sum.inl (Sum.inl.inj h)
    | inr t => cases h
  | inr s => cases b with
    | inl j => cases h
    | inr t =>
      have := Sum.inr.inj h
      have e : s.toArray = t.toArray := congrArg Str.cps this
      exact congrArg Sum.inr (by simpa using congrArg Array.toList e)
theorem key_dec {a b : DK} : decide (DK.key a = DK.key b) = decide (a = b) := decide_eq_decide.mpr ⟨key_inj, fun h => by rw [h]⟩
theorem getX_ok {K : PySem.W.Frag} {G : Hp} {k : DK} : ∀ {kvs : List (Key × V)} {ks : List DK} {xs : List D}, kvs.map (·.1) = ks.map DK.key → Reps K G (kvs.map (·.2)) xs →
    (∀ d, getX ks xs k = some d → ∃ v, valV kvs (DK.key k) = some v ∧ Rep K G v d) ∧ (getX ks xs k = none → valV kvs (DK.key k) = none)
  | [], [], _, _, r => by cases r; exact ⟨fun _ h => (nomatch h), fun _ => rfl⟩
  | [], _ :: _, _, h, _ => by cases h
  | _ :: _, [], _, h, _ => by cases h
  | p :: kvs, q :: ks, xs, h, r => by
    cases r with
    | @cons v vs x xs r1 r2 =>
      have h1 : p.1 = DK.key q := (List.cons.inj h).1
      have h2 := (List.cons.inj h).2
      obtain ⟨i1, i2⟩ := getX_ok (k := k) h2 r2
      by_cases e : q = k
      · have ep : p.1 = DK.key k := by rw [h1, e]
        constructor
        · intro d hd
          rw [show getX (q :: ks) (x :: xs) k = some x by unfold getX; rw [if_pos e]] at hd
          cases hd
          exact ⟨p.2, valV_pos ep, r1⟩
        · intro hd
          rw [show getX (q :: ks) (x :: xs) k = some x by unfold getX; rw [if_pos e]] at hd
          cases hd
      · have ep : p.1 ≠ DK.key k := by rw [h1]; exact fun z => e (key_inj z)
        have ev : valV (p :: kvs) (DK.key k) = valV kvs (DK.key k) := by simp [valV, List.find?_cons, ep]
        have eg : getX (q :: ks) (x :: xs) k = getX ks xs k := by conv => lhs; unfold getX; rw [if_neg e]
        rw [ev, eg]
        exact ⟨i1, i2⟩
theorem has_ok {k : DK} : ∀ {kvs : List (Key × V)} {ks : List DK}, kvs.map (·.1) = ks.map DK.key → (kvs.any fun kv => decide (kv.1 = DK.key k)) = hasK ks k
  | [], [], _ => rfl
  | [], _ :: _, h => by cases h
  | _ :: _, [], h => by cases h
  | p :: kvs, q :: ks, h => by
    have h1 : p.1 = DK.key q := (List.cons.inj h).1
    have ih := has_ok (k := k) (List.cons.inj h).2
    show (decide (p.1 = DK.key k) || _) = (decide (q = k) || _)
    rw [h1, key_dec]
    exact congrArg _ ih
theorem rep_ok {K : PySem.W.Frag} {G : Hp} {k : DK} {v : V} {d : D} (r : Rep K G v d) : ∀ {kvs : List (Key × V)} {ks : List DK} {xs : List D}, kvs.map (·.1) = ks.map DK.key → Reps K G (kvs.map (·.2)) xs →
    (kvs.map fun kv => if kv.1 = DK.key k then (kv.1, v) else kv).map (·.1) = ks.map DK.key ∧ Reps K G ((kvs.map fun kv => if kv.1 = DK.key k then (kv.1, v) else kv).map (·.2)) (repX ks xs k d)
  | [], [], _, _, h => by cases h; exact ⟨rfl, .nil⟩
  | [], _ :: _, _, h, _ => by cases h
  | _ :: _, [], _, h, _ => by cases h
  | p :: kvs, q :: ks, xs, h, rs => by
    cases rs with
    | @cons v' vs x xs r1 r2 =>
      have h1 : p.1 = DK.key q := (List.cons.inj h).1
      obtain ⟨i1, i2⟩ := rep_ok r (List.cons.inj h).2 r2
      by_cases e : q = k
      · have ep : p.1 = DK.key k := by rw [h1, e]
        constructor
        · rw [List.map_cons, List.map_cons, List.map_cons, i1, if_pos ep, h1]
        · rw [List.map_cons, List.map_cons, if_pos ep]
          show Reps K G _ ((if q = k then d else x) :: repX ks xs k d)
          rw [if_pos e]; exact .cons r i2
      · have ep : ¬ p.1 = DK.key k := by rw [h1]; exact fun z => e (key_inj z)
        constructor
        · rw [List.map_cons, List.map_cons, List.map_cons, i1, if_neg ep, h1]
        · rw [List.map_cons, List.map_cons, if_neg ep]
          show Reps K G _ ((if q = k then d else x) :: repX ks xs k d)
          rw [if_neg e]; exact .cons r1 i2
theorem put_ok {K : PySem.W.Frag} {G : Hp} {k : DK} {v : V} {d : D} (r : Rep K G v d) {kvs : List (Key × V)} {ks : List DK} {xs : List D} (h : kvs.map (·.1) = ks.map DK.key) (rs : Reps K G (kvs.map (·.2)) xs) :
    (putK kvs (DK.key k) v).map (·.1) = (putKs ks k).map DK.key ∧ Reps K G ((putK kvs (DK.key k) v).map (·.2)) (putX ks xs k d) := by
  have e := has_ok (k := k) h
  unfold putK putKs putX
  rw [e]
  cases hk : hasK ks k with
  | true => exact rep_ok r h rs
  | false =>
    constructor
    · show (kvs ++ [(DK.key k, v)]).map (·.1) = (ks ++ [k]).map DK.key
      rw [List.map_append, List.map_append, h]; rfl
    · show Reps K G ((kvs ++ [(DK.key k, v)]).map (·.2)) (xs ++ [d])
      rw [List.map_append]
      exact rs.append (.cons r .nil)
section
variable {K : PySem.W.Frag} {B : Option Addr} {G0 H0 G H : Hp} {σ : L2.St} {ρ : List Sl}
theorem En.layD {i : Nat} {p : Addr} (I : En K B G0 H0 G H σ ρ) (hp : H p = none) : En K B G0 H0 G (upd H p (.dK [])) (σ.set i (some (.ref p))) (ρ.set i (.odk [] [])) := by
  have nb : B ≠ some p := fun e => by
    obtain ⟨_, _, _, _, _, _, h, _⟩ := I.st.bag p e
    rw [hp] at h; cases h
  have h0 : H0 p = none := by
    cases z : H0 p with
    | none => rfl
    | some u => rw [I.st.hh p u (fun z => nb z.symm) z] at hp; cases hp
  have t : Stt B G H G (upd H p (.dK [])) := by
    refine ⟨Same.refl _, fun a u h => ?_, fun a u n h => ?_, fun a u h => .inl h, fun b z => ?_, fun b z => ?_⟩
    · rw [upd_ne (ne_of_none (I.st.gh a u h) hp)]; exact I.st.gh a u h
    · rw [upd_ne (ne_of_none h hp)]; exact h
    · obtain ⟨g0, n, sd, j, c, cells, k1, k2, q⟩ := I.st.bag b z
      exact ⟨g0, n, sd, j, c, cells, by rw [upd_ne (fun z' => nb (by rw [z, z']))]; exact k1, k2, q⟩
    · unfold bagC; rw [upd_ne (fun z' => nb (by rw [z, z']))]
  have I' := I.step t
  refine ⟨I'.st, pset (.odk (kvs := []) upd_same rfl .nil (I.st.gfree hp) h0 nb) i I'.sl, fun j k q x y e1 e2 e3 e4 => ?_⟩
  have nj : j ≠ i := fun z => by
    subst z
    by_cases l : j < ρ.length
    · rw [List.getElem?_set_self l] at e1; cases e1
    · rw [List.getElem?_eq_none (by simpa using l)] at e1; cases e1
  have nk : k ≠ i := fun z => by
    subst z
    by_cases l : k < ρ.length
    · rw [List.getElem?_set_self l] at e2; cases e2
    · rw [List.getElem?_eq_none (by simpa using l)] at e2; cases e2
  rw [List.getElem?_set_ne nj.symm] at e1 e3
  rw [List.getElem?_set_ne nk.symm] at e2 e4
  exact I.ap j k q x y e1 e2 e3 e4
theorem En.dict {i : Nat} {ks : List DK} {xs : List D} (I : En K B G0 H0 G H σ ρ) (e : ρ[i]? = some (.odk ks xs)) : ∃ p kvs, σ[i]? = some (some (.ref p)) ∧ H p = some (.dK kvs) ∧ kvs.map (·.1) = ks.map DK.key ∧ Reps K G (kvs.map (·.2)) xs ∧ G p = none ∧ H0 p = none ∧ B ≠ some p := by
  obtain ⟨o, h1, h2⟩ := pget I.sl e
  cases h2 with
  | odk a k r g h0 nb => exact ⟨_, _, h1, a, k, r, g, h0, nb⟩
theorem En.putD {i : Nat} {p : Addr} {ks ks' : List DK} {xs xs' : List D} {kvs' : List (Key × V)} (I : En K B G0 H0 G H σ ρ) (e : ρ[i]? = some (.odk ks xs)) (es_ : σ[i]? = some (some (.ref p))) (hk : kvs'.map (·.1) = ks'.map DK.key) (r : Reps K G (kvs'.map (·.2)) xs') :
    En K B G0 H0 G (upd H p (.dK kvs')) σ ((ρ.map oth).set i (.odk ks' xs')) := by
  obtain ⟨p', kvs, h1, h2, _, _, h4, h5, h6⟩ := I.dict e
  rw [h1] at es_
  cases es_
  have t : Stt B G0 H0 G (upd H p (.dK kvs')) := by
    refine ⟨I.st.gg, fun a u h => ?_, fun a u n h => ?_, I.st.fr, fun b z => ?_, fun b z => by rw [← I.st.bc b z]; unfold bagC; rw [upd_ne (fun z' => h6 (by rw [z, z']))]⟩
    · rw [upd_ne (fun z => by subst z; rw [h4] at h; cases h)]; exact I.st.gh a u h
    · rw [upd_ne (fun z => by subst z; rw [h5] at h; cases h)]; exact I.st.hh a u n h
    · obtain ⟨g0, n, sd, j, c, cells, k1, k2, q⟩ := I.st.bag b z
      exact ⟨g0, n, sd, j, c, cells, by rw [upd_ne (fun z' => h6 (by rw [z, z']))]; exact k1, k2, q⟩
  have len := plen I.sl
  have il : i < ρ.length := (List.getElem?_eq_some_iff.mp e).1
  have σi : σ.set i (some (.ref p)) = σ := by
    apply List.ext_getElem?
    intro j
    by_cases hj : j = i
    · subst hj
      rw [List.getElem?_set_self (by omega), h1]
    · rw [List.getElem?_set_ne (Ne.symm hj)]
  have one : ∀ {o : Option V} {s : Sl}, SlOk K B H0 G H o s → SlOk K B H0 G (upd H p (.dK kvs')) o (oth s) := fun {o s} q => by
    cases q with
    | un => exact .un
    | dd r => exact .dd r
    | bg e => exact .bg e
    | fz a' r' h0' nb' => exact .fz a' r' h0' nb'
    | ex h => exact .ex h
    | pin r => exact .pin r
    | nw r n => exact .nw r n
    | odk a' k' r' g' h0' nb' => exact .un
    | own a' r' g' h0' nb' =>
      refine .own ?_ r' g' h0' nb'
      rw [upd_ne (fun z => by rw [z, h2] at a'; cases a')]
      exact a'
  have all : ∀ {l : List (Option V)} {q : List Sl}, Paired (SlOk K B H0 G H) l q → Paired (SlOk K B H0 G (upd H p (.dK kvs'))) l (q.map oth) := fun {l q} h => by
    induction h with
    | nil => exact .nil
    | cons r t ih => exact .cons (one r) ih
  refine ⟨t, ?_, fun j k q x y e1 e2 e3 e4 => ?_⟩
  · have P := pset (SlOk.odk (K := K) (B := B) (H0 := H0) (G := G) (H := upd H p (.dK kvs')) upd_same hk r h4 h5 h6) i (all I.sl)
    rw [σi] at P
    exact P
  · have back : ∀ (j : Nat) x, ((ρ.map oth).set i (Sl.odk ks' xs'))[j]? = some (Sl.own x) → ρ[j]? = some (Sl.own x) := fun j x e1 => by
      by_cases hj : j = i
      · subst hj
        rw [List.getElem?_set_self (by simpa using il)] at e1; cases e1
      · rw [List.getElem?_set_ne (Ne.symm hj), List.getElem?_map] at e1
        cases z : ρ[j]? with
        | none => rw [z] at e1; cases e1
        | some s =>
          rw [z] at e1
          have e1 := Option.some.inj e1
          cases s with
          | own y => exact congrArg some e1
          | _ => cases e1
    exact I.ap j k q x y (back j x e1) (back k y e2) e3 e4
end

/-! ### the statements and readings -/
/-- x = {} -/
def dNewD (i : Nat) : DS := fun C ρ => C.nx (ρ.set i (.odk [] []))
/-- x[k] = v -/
def dPutD (i : Nat) (dv dk : DE) : DS := fun C ρ => match ρ[i]? with
  | some (.odk ks xs) => dv ρ C.xe fun d => dk ρ C.xe fun kd => ∃ k, keyD kd = some k ∧ ks.length < sizeLine ∧ C.nx ((ρ.map oth).set i (.odk (putKs ks k) (putX ks xs k d)))
  | _ => False
/-- x.get(k, d) -/
def dGetD (i : Nat) (dk dd : DE) : DE := fun ρ xe R => match ρ[i]? with
  | some (.odk ks xs) => dk ρ xe fun kd => dd ρ xe fun dflt => ∃ k, keyD kd = some k ∧ R ((getX ks xs k).getD dflt)
  | _ => False
/-- len(x) -/
def dLenD (i : Nat) : DE := fun ρ _ R => match ρ[i]? with
  | some (.odk ks _) => R (.int (ks.length : Int))
  | _ => False
theorem rep_key {K : PySem.W.Frag} {G : Hp} {v : V} {d : D} {k : DK} (r : Rep K G v d) (h : keyD d = some k) : v = kV (DK.key k) := by
  cases r with
  | int i => cases h; rfl
  | str s => cases h; rfl
  | _ => cases h
section
variable {X : Cx} {E : XK} {e f a b : Expr} {dv dk dd : DE} {pos : Pos} {i : Nat} {x : Str}
theorem xs_newD {pl pos' : Pos} (hN : X.N.Nodup) (hi : X.N[i]? = some x) (hx : Loc X.env.scope x) (hs : swapsWith (.Dict [] [] pl) (some (.Name x pos')) pos.line X.env = pure false := by rfl) (hf : X.fn x = true ∨ X.env.scope.names.lookup x = some .local := by first | exact .inl rfl | exact .inr rfl | assumption) :
    XS X E (.Assign [.Name x pos'] (.Dict [] [] pl) pos) (dNewD i) := .of (ps_set hN hi hx pe_dnewK hs hf) fun B G0 H0 G H σ ρ I Gs sg D C l q => fun p hp => l.nx _ _ _ _ sg (I.layD hp) q
theorem sim_putD {K : PySem.W.Frag} {te tj : TE} (h : SimE K E te dv) (hj : SimE K E tj dk) : SimS K E (tAsg te (gSub (tVar i) tj rSetD)) (dPutD i dv dk) := fun B G0 H0 G H σ ρ I Gs sg D C l q => by
  unfold dPutD at q
  split at q
  · rename_i ks xs e
    obtain ⟨p, kvs, h1, h2, h3, h4, h5, h6, h7⟩ := I.dict e
    refine h B G0 H0 G H σ ρ I C.xe l.xe _ _ (fun v G1 H1 d t r z => ?_) q
    refine ⟨.ref p, h1, ?_⟩
    refine hj B G0 H0 G1 H1 σ ρ (I.step t) C.xe l.xe _ _ (fun u G2 H2 f t2 r2 z2 => ?_) z
    obtain ⟨k, z3, z4, z5⟩ := z2
    have h2' : H2 p = some (.dK kvs) := (t.trans t2).hh _ _ (fun z => h7 z.symm) h2
    have hl : kvs.length = ks.length := by
      have := congrArg List.length h3
      simpa using this
    obtain ⟨p1, p2⟩ := put_ok (k := k) (r.mono t2.gg) h3 (h4.mono (t.gg.trans t2.gg))
    rw [rep_key r2 z3]
    exact ⟨p, _, rfl, DPut.k h2' (by omega), l.nx _ _ _ _ ((sg.trans t.gg).trans t2.gg) (((I.step t).step t2).putD e h1 p1 p2) z5⟩
  · exact q.elim
theorem xs_putD {p pt : Pos} (hv : PE X (.Name x p) (tVar i)) (he : XEx X E e dv) (hj : XEx X E a dk) (hg : PG X (.Subscript (.Name x p) a pt) (gSub (tVar i) (cE X.K E dk) rSetD)) (hs : swapsWithSole [.Subscript (.Name x p) a pt] e pos.line X.env = pure false := by rfl)
    (hw : swappedStores [.Subscript (.Name x p) a pt] e X.env = pure none := by rfl) (h1 : (assignEach [.Subscript (.Name x p) a pt] X.env).map (·.2) = [assign (.Subscript (.Name x p) a pt) X.env] := by rfl) :
    XS X E (.Assign [.Subscript (.Name x p) a pt] e pos) (dPutD i dv dk) := .of (ps_asg he.pe hg hs hw h1) (sim_putD sE sE)
theorem xGetD {p apos cpos : Pos} (hu : X.A.units + 1 < cLine) (hv : PE X (.Name x p) (tVar i)) (hk : XEx X E a dk) (hd : XEx X E b dd) (m : M2 X (.Name x p) "get" apos a b cpos) :
    XEx X E (.Call (.Attribute (.Name x p) "get" apos) [a, b] [] cpos) (dGetD i dk dd) := .of (pe_dget2 hu hv hk.pe hd.pe m) fun B G0 H0 G H σ ρ I xe lx Q R kk q => by
  unfold dGetD at q
  split at q
  · rename_i ks xs e
    obtain ⟨p, kvs, h1, h2, h3, h4, h5, h6, h7⟩ := I.dict e
    refine ⟨.ref p, h1, p, rfl, .inl ⟨kvs, .inl h2⟩, ?_⟩
    refine sE B G0 H0 G H σ ρ I xe lx _ _ (fun u G1 H1 kd t r z => ?_) q
    refine sE B G0 H0 G1 H1 σ ρ (I.step t) xe lx _ _ (fun w G2 H2 df t2 r2 z2 => ?_) z
    obtain ⟨k, z3, z4⟩ := z2
    have h2' : H2 p = some (.dK kvs) := (t.trans t2).hh _ _ (fun z => h7 z.symm) h2
    obtain ⟨g1, g2⟩ := getX_ok (k := k) h3 (h4.mono (t.gg.trans t2.gg))
    refine ⟨_, by rw [rep_key r z3]; exact DGet.k h2', ?_⟩
    cases eg : getX ks xs k with
    | some d =>
      obtain ⟨v, e1, e2⟩ := g1 d eg
      rw [e1]
      rw [eg] at z4
      exact kk v _ _ _ (t.trans t2) e2 z4
    | none =>
      rw [g2 eg]
      rw [eg] at z4
      exact kk w _ _ _ (t.trans t2) r2 z4
  · exact q.elim
theorem xLenD {p pn : Pos} (hg : Gl X "len") (hm : X.mg "len" = none) (hv : PE X (.Name x p) (tVar i)) (he : starEach [.Name x p] X.env = (false, eval (.Name x p) X.env) :: starEach [] X.env := by rfl) :
    XEx X E (.Call (.Name "len" pn) [.Name x p] [] pos) (dLenD i) := .of (pe_callB call_lenD hg hm (by decide +kernel) (pa_cons hv pa_nil he) (he := he)) fun B G0 H0 G H σ ρ I xe lx Q R kk q => by
  unfold dLenD at q
  split at q
  · rename_i ks xs e
    obtain ⟨p, kvs, h1, h2, h3, h4, h5, h6, h7⟩ := I.dict e
    have hl : kvs.length = ks.length := by
      have := congrArg List.length h3
      simpa using this
    refine ⟨.ref p, h1, p, kvs, rfl, h2, ?_⟩
    rw [hl]
    exact kk _ _ _ _ I.st.here (.int _) q
  · exact q.elim
end
theorem hu1 {k : Nat} {A : Around} (rg : RmG k A) : A.units + 1 < cLine := by have := rg.rm.units; omega
end DL

/-! [d[k] for k in d], d an own dict -/
namespace DL
open PySem PySem.Spec L2
open PyProof.Rows hiding St
def dValsD (i j : Nat) : DE := fun ρ _ R => match ρ[i]? with
  | some (.odk ks xs) => (i ≠ j ∧ j < ρ.length ∧ ks.length < sizeLine) ∧ R (.lst (ks.map fun k => (getX ks xs k).getD .non))
  | _ => False
theorem getX_mem {k : DK} : ∀ {ks : List DK} {xs : List D}, ks.length = xs.length → k ∈ ks → ∃ d, getX ks xs k = some d
  | [], _, _, h => nomatch h
  | _ :: _, [], h, _ => by cases h
  | q :: ks, x :: xs, h, m => by
    unfold getX
    by_cases e : q = k
    · rw [if_pos e]; exact ⟨_, rfl⟩
    · rw [if_neg e]
      rcases List.mem_cons.mp m with z | z
      · exact absurd z.symm e
      · exact getX_mem (by simpa using h) z
theorem vals_rep {K : PySem.W.Frag} {G : Hp} {kvs : List (Key × V)} {ks : List DK} {xs : List D} (h : kvs.map (·.1) = ks.map DK.key) (r : Reps K G (kvs.map (·.2)) xs) : ∀ {qs : List DK}, (∀ q ∈ qs, q ∈ ks) →
    Reps K G (qs.map fun q => (valV kvs (DK.key q)).getD .non) (qs.map fun q => (getX ks xs q).getD .non) ∧ ∀ q ∈ qs, ∃ v, valV kvs (DK.key q) = some v
  | [], _ => ⟨.nil, fun _ h => nomatch h⟩
  | q :: qs, m => by
    obtain ⟨i1, i2⟩ := vals_rep h r (qs := qs) fun x hx => m x (List.mem_cons_of_mem _ hx)
    have hl : ks.length = xs.length := by
      have := congrArg List.length h
      have := r.length
      simp at *; omega
    obtain ⟨d, hd⟩ := getX_mem hl (m q List.mem_cons_self)
    obtain ⟨v, e1, e2⟩ := (getX_ok (k := q) h r).1 d hd
    refine ⟨?_, fun x hx => ?_⟩
    · rw [List.map_cons, List.map_cons, e1, hd]
      exact .cons e2 i1
    · rcases List.mem_cons.mp hx with z | z
      · rw [z]; exact ⟨v, e1⟩
      · exact i2 x z
section
variable {X : Cx} {E : XK} {i j : Nat} {x k : Str}
theorem sim_valsD {K : PySem.W.Frag} : SimE K E (tLockE (tLc (iKeys (tVar i)) (gName j) tYes (tDGet (tVar i) (tVar j)) [j])) (dValsD i j) := fun B G0 H0 G H σ ρ I xe lx Q R kk q => by
  unfold dValsD at q
  split at q
  · rename_i ks xs e
    obtain ⟨⟨hij, hj, hs⟩, q⟩ := q
    have len := plen I.sl
    obtain ⟨p, kvs, h1, h2, h3, h4, h5, h6, h7⟩ := I.dict e
    have hl : kvs.length = ks.length := by
      have := congrArg List.length h3
      simpa using this
    obtain ⟨v1, v2⟩ := vals_rep (qs := ks) h3 h4 fun _ h => h
    refine ⟨p, .dK kvs, h2, trivial, fun od => ?_⟩
    refine ⟨.ref p, h1, p, od, rfl, .inl ⟨kvs, upd_same, fun D hD => ?_⟩⟩
    have hDp : D ≠ p := fun z => by rw [z, upd_same] at hD; cases hD
    have hD' : H D = none := by rwa [upd_ne hDp] at hD
    refine ⟨fun n m H' => H' = upd (upd H p (.frz od (.dK kvs))) D (.lst ((ks.map fun q => (valV kvs (DK.key q)).getD .non).take n)) ∧ n ≤ ks.length ∧ m = ks.length - n, ⟨_, rfl, Nat.zero_le _, rfl⟩, fun n m H' ⟨hH, hn, hm⟩ => ?_⟩
    subst hH
    have hp' : ∀ l, upd (upd H p (.frz od (.dK kvs))) D (.lst l) p = some (.frz od (.dK kvs)) := fun l => by rw [upd_ne (Ne.symm hDp)]; exact upd_same
    by_cases hlt : n < ks.length
    · refine .inr ⟨⟨hp' _, by omega⟩, fun H'' => H'' = upd (upd H p (.frz od (.dK kvs))) D (.lst ((ks.map fun q => (valV kvs (DK.key q)).getD .non).take (n + 1))), fun H'' e => ⟨ks.length - (n + 1), by omega, e, by omega, rfl⟩, fun y H'' hy => ?_⟩
      obtain ⟨rfl, k', v', e1, rfl⟩ := hy
      obtain ⟨q0, hq0⟩ : ∃ q0, ks[n]? = some q0 := ⟨_, List.getElem?_eq_getElem hlt⟩
      have ek : k' = DK.key q0 := by
        have e2 : (kvs.map (·.1))[n]? = (ks.map DK.key)[n]? := by rw [h3]
        rw [List.getElem?_map, List.getElem?_map, e1, hq0] at e2
        exact Option.some.inj e2
      subst ek
      obtain ⟨v, hv⟩ := v2 q0 (List.mem_of_getElem? hq0)
      have w1 : wipe σ [j] = σ.set j none := rfl
      have g1 : ((wipe σ [j]).set j (some (kV (DK.key q0))))[i]? = some (some (.ref p)) := by
        rw [w1, List.getElem?_set_ne (Ne.symm hij), List.getElem?_set_ne (Ne.symm hij)]; exact h1
      have g2 : ((wipe σ [j]).set j (some (kV (DK.key q0))))[j]? = some (some (kV (DK.key q0))) := by
        rw [List.getElem?_set_self (by rw [w1, List.length_set]; omega)]
      refine ⟨by rw [w1]; show ((σ.set j none).set j _).set j none = _; rw [List.set_set, List.set_set], ?_⟩
      unfold tYes
      dsimp only
      rw [if_pos (rfl : true = true)]
      refine ⟨.ref p, g1, kV (DK.key q0), g2, p, v, rfl, .inl ⟨kvs, DK.key q0, .inr ⟨od, hp' _⟩, rfl, hv.symm⟩, _, upd_same, by rw [List.length_take]; omega, ?_⟩
      have ev : (ks.map fun q => (valV kvs (DK.key q)).getD .non)[n]? = some v := by rw [List.getElem?_map, hq0]; show some ((valV kvs (DK.key q0)).getD .non) = _; rw [hv]; rfl
      rw [List.take_add_one, ev]
      funext b
      by_cases hb : b = D
      · subst hb; rw [upd_same, upd_same]; rfl
      · rw [upd_ne hb, upd_ne hb, upd_ne hb]
    · have ne : n = ks.length := by omega
      have tk : (ks.map fun q => (valV kvs (DK.key q)).getD .non).take n = ks.map fun q => (valV kvs (DK.key q)).getD .non := by rw [ne]; exact List.take_of_length_le (by rw [List.length_map]; exact Nat.le_refl _)
      rw [tk] at *
      refine .inl ⟨⟨hp' _, by omega⟩, hp' _, ?_⟩
      have hu : upd (upd (upd H p (.frz od (.dK kvs))) D (.lst (ks.map fun q => (valV kvs (DK.key q)).getD .non))) p (.dK kvs) = upd H D (.lst (ks.map fun q => (valV kvs (DK.key q)).getD .non)) := by
        funext b
        by_cases hb : b = p
        · subst hb; rw [upd_same, upd_ne (Ne.symm hDp), h2]
        · rw [upd_ne hb]
          by_cases hd : b = D
          · subst hd; rw [upd_same, upd_same]
          · rw [upd_ne hd, upd_ne hb, upd_ne hd]
      rw [hu]
      exact I.st.here.lst v1 kk q D hD'
  · exact q.elim
theorem xValsD {elt tg : Expr} {px pos : Pos} {scope : Scope} {own : List (Str × Nat)} (hc : X.calm = true) (hN : X.N.Nodup) (hv : PE X (.Name x px) (tVar i)) (ok : BlkOk X.N X.env.scope scope own) (ho : own.map (·.2) = [j])
    (hg : ∀ (s : Shared) (H : Hp) (C : Addr) (cl : List (Str × Addr)) (fp : List Addr), PG (X.blk s H scope (compEnvC scope cl C X.env) fp) tg (gName j))
    (he : ∀ (s : Shared) (H : Hp) (C : Addr) (cl : List (Str × Addr)) (fp : List Addr), PE (X.blk s H scope (compEnvC scope cl C X.env) fp) elt (tDGet (tVar i) (tVar j))) (hs : ∀ y, foldedSetIterable (.Name x px) X.env y = pure y := by intro _; rfl) :
    XEx X E (.ListComp elt [⟨tg, .Name x px, [], 0⟩] scope pos) (dValsD i j) := .of (by
      have := pe_lc (pos := pos) hc hN (pi_keys hv) ok hg (fun _ _ _ _ _ => pts_nil) he hs
      rw [ho] at this
      exact pe_lock this) sim_valsD
end
end DL

/-! an own dict given up: data from then on -/
namespace DL
open PySem PySem.Spec L2
open PyProof.Rows hiding St
section
variable {K : PySem.W.Frag} {B : Option Addr} {G0 H0 G H : Hp} {σ : L2.St} {ρ : List Sl}
theorem En.freezeD {i : Nat} {ks : List DK} {xs : List D} (I : En K B G0 H0 G H σ ρ) (e : ρ[i]? = some (Sl.odk ks xs)) (ne : ks ≠ []) : ∃ p kvs, H p = some (.dK kvs) ∧ ∀ od : Obj, ∃ G', Same G G' ∧ En K B G0 H0 G' (upd H p (.frz od (.dK kvs))) σ ((ρ.map oth).set i (.dd (.dct ks xs))) := by
  obtain ⟨p, kvs, h1, h2, h3, h3', h4, h5, h6⟩ := I.dict e
  refine ⟨p, kvs, h2, fun od => ?_⟩
  have sm : Same G (upd G p (.frz od (.dK kvs))) := fun a u h => by rw [upd_ne (ne_of_none h h4)]; exact h
  have t : Stt B G0 H0 (upd G p (.frz od (.dK kvs))) (upd H p (.frz od (.dK kvs))) := by
    refine ⟨I.st.gg.trans sm, fun a u h => ?_, fun a u n h => ?_, fun a u h => ?_, fun b z => ?_, fun b z => by rw [← I.st.bc b z]; unfold bagC; rw [upd_ne (fun z' => h6 (by rw [z, z']))]⟩
    · by_cases q : a = p
      · subst q; rw [upd_same] at h; cases h; exact upd_same
      · rw [upd_ne q] at h; rw [upd_ne q]; exact I.st.gh a u h
    · rw [upd_ne (fun z => by subst z; rw [h5] at h; cases h)]; exact I.st.hh a u n h
    · by_cases q : a = p
      · subst q; exact .inr h5
      · rw [upd_ne q] at h; exact I.st.fr a u h
    · obtain ⟨g0, n, sd, j, c, cells, k1, k2, q⟩ := I.st.bag b z
      exact ⟨by rw [upd_ne (fun z' => h6 (by rw [z, z']))]; exact g0, n, sd, j, c, cells, by rw [upd_ne (fun z' => h6 (by rw [z, z']))]; exact k1, sm _ _ k2, q⟩
  have il : i < ρ.length := (List.getElem?_eq_some_iff.mp e).1
  have len := plen I.sl
  have rp : Rep K (upd G p (.frz od (.dK kvs))) (.ref p) (.dct ks xs) := .dct upd_same h3 (h3'.mono sm) ne
  have σi : σ.set i (some (.ref p)) = σ := by
    apply List.ext_getElem?
    intro j
    by_cases hj : j = i
    · subst hj
      rw [List.getElem?_set_self (by omega), h1]
    · rw [List.getElem?_set_ne (Ne.symm hj)]
  have one : ∀ {o : Option V} {s : Sl}, SlOk K B H0 G H o s → SlOk K B H0 (upd G p (.frz od (.dK kvs))) (upd H p (.frz od (.dK kvs))) o (oth s) := fun {o s} h => by
    cases h with
    | un => exact .un
    | dd r => exact .dd (r.mono sm)
    | bg e => exact .bg e
    | fz a' r' h0' nb' => exact .fz (sm _ _ a') (r'.mono sm) h0' nb'
    | ex h => exact .ex (exMono sm h)
    | pin r => exact .pin (r.mono sm)
    | nw r n => exact .nw (r.mono sm) (n.mono (fun _ h => h) sm)
    | odk a' k' r' g' h0' nb' => exact .un
    | own a' r' g' h0' nb' => exact .own (by rw [upd_ne (fun z => by rw [z, h2] at a'; cases a')]; exact a') (r'.mono sm) (by rw [upd_ne (fun z => by rw [z, h2] at a'; cases a')]; exact g') h0' nb'
  have all : ∀ {l : List (Option V)} {q : List Sl}, Paired (SlOk K B H0 G H) l q → Paired (SlOk K B H0 (upd G p (.frz od (.dK kvs))) (upd H p (.frz od (.dK kvs)))) l (q.map oth) := fun {l q} h => by
    induction h with
    | nil => exact .nil
    | cons r t ih => exact .cons (one r) ih
  refine ⟨upd G p (.frz od (.dK kvs)), sm, t, ?_, fun j k q x y e1 e2 e3 e4 => ?_⟩
  · have P := pset (SlOk.dd (K := K) (B := B) (H0 := H0) (H := upd H p (.frz od (.dK kvs))) rp) i (all I.sl)
    rw [σi] at P
    exact P
  · have back : ∀ (j : Nat) x, ((ρ.map oth).set i (.dd (.dct ks xs)))[j]? = some (Sl.own x) → ρ[j]? = some (Sl.own x) := fun j x e1 => by
      by_cases hj : j = i
      · subst hj
        rw [List.getElem?_set_self (by simpa using il)] at e1; cases e1
      · rw [List.getElem?_set_ne (Ne.symm hj), List.getElem?_map] at e1
        cases z : ρ[j]? with
        | none => rw [z] at e1; cases e1
        | some s =>
          rw [z] at e1
          have e1 := Option.some.inj e1
          cases s with
          | own y => exact congrArg some e1
          | _ => cases e1
    exact I.ap j k q x y (back j x e1) (back k y e2) e3 e4
end
/-- an own dict is given up ahead of d -/
def dFrzD (i : Nat) (d : DS) : DS := fun C ρ => match ρ[i]? with
  | some (.odk ks xs) => ks ≠ [] ∧ d C ((ρ.map oth).set i (.dd (.dct ks xs)))
  | _ => False
/-- a dict is held from here on -/
def tLk (t : TS) : TS := fun D σ H => ∃ p u, H p = some u ∧ Mut (some u) ∧ ∀ od : Obj, t D σ (upd H p (.frz od u))
theorem ps_lk {X : Cx} {st : Stmt} {t : TS} (h : PS X st t) : PS X st (tLk t) := ⟨fun pins s σ H D I ⟨p, u, hp, m, k⟩ => by
  obtain ⟨od, I'⟩ := I.lock hp m
  exact h.run pins s σ _ D I' (k od)⟩
theorem pss_lk {X : Cx} {st : List Stmt} {t : TS} (h : PSs X st t) : PSs X st (tLk t) := ⟨fun pins s σ H D I ⟨p, u, hp, m, k⟩ => by
  obtain ⟨od, I'⟩ := I.lock hp m
  exact h.run pins s σ _ D I' (k od)⟩
section
variable {X : Cx} {E : XK} {st : Stmt} {rest : List Stmt} {ds : DS} {i j : Nat} {x : Str}
theorem xs_frzD (h : XS X E st ds) : XS X E st (dFrzD i ds) := .of (ps_lk h.ps) fun B G0 H0 G H σ ρ I Gs sg D C l q => by
  unfold dFrzD at q
  split at q
  · rename_i ks xs e
    obtain ⟨p, kvs, hp, I'⟩ := I.freezeD e q.1
    refine ⟨p, .dK kvs, hp, trivial, fun od => ?_⟩
    obtain ⟨G', sm, I'⟩ := I' od
    exact sS B G0 H0 G' _ σ _ I' Gs (sg.trans sm) D C l q.2
  · exact q.elim
theorem xss_frzD (h : XSs X E rest ds) : XSs X E rest (dFrzD i ds) := .of (pss_lk h.ps) fun B G0 H0 G H σ ρ I Gs sg D C l q => by
  unfold dFrzD at q
  split at q
  · rename_i ks xs e
    obtain ⟨p, kvs, hp, I'⟩ := I.freezeD e q.1
    refine ⟨p, .dK kvs, hp, trivial, fun od => ?_⟩
    obtain ⟨G', sm, I'⟩ := I' od
    exact sS B G0 H0 G' _ σ _ I' Gs (sg.trans sm) D C l q.2
  · exact q.elim
/-- a slot's dict, own or data -/
def dctAt (s : Option Sl) : Option (List DK × List D) := match s with
  | some (.odk ks xs) => some (ks, xs)
  | _ => none
theorem En.dictAt {K : PySem.W.Frag} {B : Option Addr} {G0 H0 G H : Hp} {σ : L2.St} {ρ : List Sl} {ks : List DK} {xs : List D} (I : En K B G0 H0 G H σ ρ) (e : dctAt ρ[i]? = some (ks, xs)) : ∃ p kvs, σ[i]? = some (some (.ref p)) ∧ H p = some (.dK kvs) ∧ kvs.map (·.1) = ks.map DK.key ∧ Reps K G (kvs.map (·.2)) xs := by
  unfold dctAt at e
  split at e
  · rename_i ks' xs' e'
    cases e
    obtain ⟨p, kvs, h1, h2, h3, h3', _⟩ := I.dict e'
    exact ⟨p, kvs, h1, h2, h3, h3'⟩
  · cases e
/-- [d[k] for k in d], d an own dict or a given one -/
def dValsE (i j : Nat) : DE := fun ρ _ R => match dctAt ρ[i]? with
  | some (ks, xs) => (i ≠ j ∧ j < ρ.length ∧ ks.length < sizeLine) ∧ R (.lst (ks.map fun k => (getX ks xs k).getD .non))
  | none => False
theorem sim_valsE {K : PySem.W.Frag} : SimE K E (tLockE (tLc (iKeys (tVar i)) (gName j) tYes (tDGet (tVar i) (tVar j)) [j])) (dValsE i j) := fun B G0 H0 G H σ ρ I xe lx Q R kk q => by
  unfold dValsE at q
  split at q
  · rename_i ks xs e
    obtain ⟨⟨hij, hj, hs⟩, q⟩ := q
    have len := plen I.sl
    obtain ⟨p, kvs, h1, h2, h3, h4⟩ := I.dictAt e
    have hl : kvs.length = ks.length := by
      have := congrArg List.length h3
      simpa using this
    obtain ⟨v1, v2⟩ := vals_rep (qs := ks) h3 h4 fun _ h => h
    refine ⟨p, .dK kvs, h2, trivial, fun od => ?_⟩
    refine ⟨.ref p, h1, p, od, rfl, .inl ⟨kvs, upd_same, fun D hD => ?_⟩⟩
    have hDp : D ≠ p := fun z => by rw [z, upd_same] at hD; cases hD
    have hD' : H D = none := by rwa [upd_ne hDp] at hD
    refine ⟨fun n m H' => H' = upd (upd H p (.frz od (.dK kvs))) D (.lst ((ks.map fun q => (valV kvs (DK.key q)).getD .non).take n)) ∧ n ≤ ks.length ∧ m = ks.length - n, ⟨_, rfl, Nat.zero_le _, rfl⟩, fun n m H' ⟨hH, hn, hm⟩ => ?_⟩
    subst hH
    have hp' : ∀ l, upd (upd H p (.frz od (.dK kvs))) D (.lst l) p = some (.frz od (.dK kvs)) := fun l => by rw [upd_ne (Ne.symm hDp)]; exact upd_same
    by_cases hlt : n < ks.length
    · refine .inr ⟨⟨hp' _, by omega⟩, fun H'' => H'' = upd (upd H p (.frz od (.dK kvs))) D (.lst ((ks.map fun q => (valV kvs (DK.key q)).getD .non).take (n + 1))), fun H'' e => ⟨ks.length - (n + 1), by omega, e, by omega, rfl⟩, fun y H'' hy => ?_⟩
      obtain ⟨rfl, k', v', e1, rfl⟩ := hy
      obtain ⟨q0, hq0⟩ : ∃ q0, ks[n]? = some q0 := ⟨_, List.getElem?_eq_getElem hlt⟩
      have ek : k' = DK.key q0 := by
        have e2 : (kvs.map (·.1))[n]? = (ks.map DK.key)[n]? := by rw [h3]
        rw [List.getElem?_map, List.getElem?_map, e1, hq0] at e2
        exact Option.some.inj e2
      subst ek
      obtain ⟨v, hv⟩ := v2 q0 (List.mem_of_getElem? hq0)
      have w1 : wipe σ [j] = σ.set j none := rfl
      have g1 : ((wipe σ [j]).set j (some (kV (DK.key q0))))[i]? = some (some (.ref p)) := by
        rw [w1, List.getElem?_set_ne (Ne.symm hij), List.getElem?_set_ne (Ne.symm hij)]; exact h1
      have g2 : ((wipe σ [j]).set j (some (kV (DK.key q0))))[j]? = some (some (kV (DK.key q0))) := by
        rw [List.getElem?_set_self (by rw [w1, List.length_set]; omega)]
      refine ⟨by rw [w1]; show ((σ.set j none).set j _).set j none = _; rw [List.set_set, List.set_set], ?_⟩
      unfold tYes
      dsimp only
      rw [if_pos (rfl : true = true)]
      refine ⟨.ref p, g1, kV (DK.key q0), g2, p, v, rfl, .inl ⟨kvs, DK.key q0, .inr ⟨od, hp' _⟩, rfl, hv.symm⟩, _, upd_same, by rw [List.length_take]; omega, ?_⟩
      have ev : (ks.map fun q => (valV kvs (DK.key q)).getD .non)[n]? = some v := by rw [List.getElem?_map, hq0]; show some ((valV kvs (DK.key q0)).getD .non) = _; rw [hv]; rfl
      rw [List.take_add_one, ev]
      funext b
      by_cases hb : b = D
      · subst hb; rw [upd_same, upd_same]; rfl
      · rw [upd_ne hb, upd_ne hb, upd_ne hb]
    · have ne : n = ks.length := by omega
      have tk : (ks.map fun q => (valV kvs (DK.key q)).getD .non).take n = ks.map fun q => (valV kvs (DK.key q)).getD .non := by rw [ne]; exact List.take_of_length_le (by rw [List.length_map]; exact Nat.le_refl _)
      rw [tk] at *
      refine .inl ⟨⟨hp' _, by omega⟩, hp' _, ?_⟩
      have hu : upd (upd (upd H p (.frz od (.dK kvs))) D (.lst (ks.map fun q => (valV kvs (DK.key q)).getD .non))) p (.dK kvs) = upd H D (.lst (ks.map fun q => (valV kvs (DK.key q)).getD .non)) := by
        funext b
        by_cases hb : b = p
        · subst hb; rw [upd_same, upd_ne (Ne.symm hDp), h2]
        · rw [upd_ne hb]
          by_cases hd : b = D
          · subst hd; rw [upd_same, upd_same]
          · rw [upd_ne hd, upd_ne hb, upd_ne hd]
      rw [hu]
      exact I.st.here.lst v1 kk q D hD'
  · exact q.elim
theorem xValsE {elt tg : Expr} {px pos : Pos} {scope : Scope} {own : List (Str × Nat)} (hc : X.calm = true) (hN : X.N.Nodup) (hv : PE X (.Name x px) (tVar i)) (ok : BlkOk X.N X.env.scope scope own) (ho : own.map (·.2) = [j])
    (hg : ∀ (s : Shared) (H : Hp) (C : Addr) (cl : List (Str × Addr)) (fp : List Addr), PG (X.blk s H scope (compEnvC scope cl C X.env) fp) tg (gName j))
    (he : ∀ (s : Shared) (H : Hp) (C : Addr) (cl : List (Str × Addr)) (fp : List Addr), PE (X.blk s H scope (compEnvC scope cl C X.env) fp) elt (tDGet (tVar i) (tVar j))) (hs : ∀ y, foldedSetIterable (.Name x px) X.env y = pure y := by intro _; rfl) :
    XEx X E (.ListComp elt [⟨tg, .Name x px, [], 0⟩] scope pos) (dValsE i j) := .of (by
      have := pe_lc (pos := pos) hc hN (pi_keys hv) ok hg (fun _ _ _ _ _ => pts_nil) he hs
      rw [ho] at this
      exact pe_lock this) sim_valsE
end
section
variable {X : Cx} {i j : Nat} {W : List Nat}
/-- the rest behind the loop -/
theorem xd_for2 {f g : List Stmt → List Stmt} {sel : D → D → Prop} {m m2 : D → Nat → Prop} {c c2 : Nat} {tg : Expr} {tG : TG} {it : Str} {pi_ pos : Pos}
    (hp : PassesOwn (model X.prog X.w) X.A X.env X.xe) (hc : X.calm = true) (hv : PE X (.Name it pi_) (tVar i)) (hg : PG X tg tG) (hb : XDc X j [] f m c) (iW : i ∉ W := by decide) (jW : j ∈ W := by decide)
    (hG : ∀ (Hs G' H' H2 : Hp) (v : V) (d d' : D) (σ2 : L2.St) (k : Nat), Same G' H' → Rep X.K G' v d → DN X.K Hs G' v d → sel d d' → DKp Hs G' H' k H2 → i < σ2.length → j < σ2.length → ∀ Q : L2.St → Hp → Prop,
      (∀ v' σ3, Rep X.K G' v' d' → DN X.K Hs G' v' d' → σ3[j]? = some (some v') → L2.wipe σ3 W = L2.wipe σ2 W → Q σ3 H2) → tG v σ2 H2 Q)
    (hJ : j < X.N.length) (h2 : XDc X i W g m2 c2)
    (hs : ∀ x, foldedSetIterable (.Name it pi_) X.env x = pure x := by intro _; rfl) :
    XD X i W (fun r => .For tg (.Name it pi_) (f []) [] pos :: g r) (fun ρ d => j < ρ.length ∧ ∃ dss, d = .lst dss ∧ (∀ e ∈ dss, ∃ e', sel e e' ∧ ∀ k, k ≤ 1000000 → m e' k) ∧ dss.length * c ≤ 1000000 ∧ m2 d (dss.length * c)) := ⟨fun rest tr hr => by
  obtain ⟨tb, pb, sb⟩ := hb.go [] _ pss_nil
  obtain ⟨t2, p2, s2⟩ := h2.go rest tr hr
  refine ⟨_, pss_cons (ps_for hp hc (pi_list hv) hg pb hs) p2, fun B G0 H0 G' H' Hs σ' ρ' v d D I e dn nd kk => ?_⟩
  obtain ⟨jl, dss, rfl, hi, hcost, hm2⟩ := nd
  obtain ⟨o, g1, g2⟩ := pget I.sl e
  cases g2 with
  | pin r =>
  have r0 := r
  cases r with
  | @lst p vs _ a1 b1 =>
  have hp' : H' p = some (.lst vs) := I.st.gh _ _ a1
  have sl := plen I.sl
  have il : i < σ'.length := (List.getElem?_eq_some_iff.mp g1).1
  refine ⟨.ref p, g1, p, rfl, ⟨vs, SqL.of hp'⟩, ?_⟩
  -- the list itself is kept while the loop walks it
  have dnA : ∀ (n : Nat) w e, vs[n]? = some w → dss[n]? = some e → DN X.K (upd Hs p (.lst [])) G' w e := fun n w e h1 h2 =>
    DN.avoid r0 (sizeOf_mem (List.mem_of_getElem? h2)) (b1.at2 h1 h2) ((dn.inner a1).at h1 h2)
  refine ⟨fun n mm σ H => mm = vs.length - n ∧ n ≤ vs.length ∧ L2.wipe σ W = L2.wipe σ' W ∧ DKp (upd Hs p (.lst [])) G' H' (n * c) H, ⟨vs.length, by omega, Nat.zero_le _, rfl, by rw [Nat.zero_mul]; exact DKp.start I.st.gh⟩, ?_⟩
  rintro n mm σ H ⟨rfl, hle, ew, dk⟩
  have hpp : H p = some (.lst vs) := dk.1 p _ hp' fun ⟨z, _⟩ => by rw [upd_same] at z; cases z
  have len : σ.length = σ'.length := by have := congrArg List.length ew; simpa [wipe_length] using this
  have ll : vs.length = dss.length := b1.length
  by_cases hlt : n < vs.length
  · have hw : vs[n]? = some vs[n] := List.getElem?_eq_getElem hlt
    have hd : dss[n]? = some dss[n] := List.getElem?_eq_getElem (by omega)
    refine .inr ⟨⟨vs, vs[n], SqL.of hpp, hw⟩, fun σ H => L2.wipe σ W = L2.wipe σ' W ∧ DKp (upd Hs p (.lst [])) G' H' ((n + 1) * c) H, fun σ2 H2 ⟨y1, y2⟩ => ⟨vs.length - (n + 1), by omega, rfl, hlt, y1, y2⟩, fun x H2 y => ?_⟩
    obtain ⟨rfl, fy⟩ := y
    have ex := fy vs (SqL.of hpp)
    rw [hw] at ex
    cases ex
    obtain ⟨e', he', hm⟩ := hi dss[n] (List.getElem_mem _)
    have nc : n * c ≤ 1000000 := Nat.le_trans (Nat.mul_le_mul_right c (by omega)) hcost
    refine hG _ G' H' _ _ _ e' σ (n * c) I.st.gh (b1.at2 hw hd) (dnA n _ _ hw hd) he' dk (by omega) (by omega) _ (fun v' σ3 r3 dn3 e3 ew3 => ?_)
    refine sb (upd Hs p (.lst [])) G' H' _ v' e' σ3 _ (n * c) I.st.gh r3 dn3 (hm _ nc) e3 dk (fun σ4 H4 ew4 dk4 => ?_)
    exact ⟨((congrArg (fun s => L2.wipe s W) (show σ4 = σ3 from ew4)).trans ew3).trans ew, by rw [Nat.succ_mul]; exact dk4⟩
  · have en : n = vs.length := by omega
    subst en
    refine .inl ⟨⟨vs, SqL.of hpp, Nat.le_refl _⟩, ?_⟩
    have dk' : DKp Hs G' H' (vs.length * c) H := ⟨fun a u h1 h2 => dk.1 a u h1 fun ⟨z1, z2⟩ => h2 ⟨by
      by_cases z : a = p
      · subst z; rw [upd_same] at z1; cases z1
      · rw [upd_ne z] at z1; exact z1, z2⟩, dk.2⟩
    refine s2 Hs G' H' H (.ref p) (.lst dss) σ D (vs.length * c) I.st.gh r0 dn (by rw [ll]; exact hm2) (by rw [wipe_at ew iW]; exact g1) dk' (fun σ3 H3 ew3 dk3 => ?_)
    exact kk G' H' H3 σ3 (Same.refl _) I (ew3.trans ew) dk3.1⟩
end
end DL

/-! an own dict of own lists: x = {}; for ..: ..; if t: x.setdefault(k, []).append(e); return list(x.items()) -/
namespace DL
open PySem PySem.Spec L2
open PyProof.Rows hiding St
/-! ### another base -/
section
variable {K : PySem.W.Frag} {B : Option Addr} {G0 H0 G1 H1 G H : Hp} {σ : L2.St} {ρ : List Sl}
theorem pall {α β : Type} {F F' : α → β → Prop} (h : ∀ a b, F a b → F' a b) : ∀ {l : List α} {r : List β}, Paired F l r → Paired F' l r
  | _, _, .nil => .nil
  | _, _, .cons r t => .cons (h _ _ r) (pall h t)
theorem pallm {α β : Type} {F F' : α → β → Prop} {m : β → β} (h : ∀ a b, F a b → F' a (m b)) : ∀ {l : List α} {r : List β}, Paired F l r → Paired F' l (r.map m)
  | _, _, .nil => .nil
  | _, _, .cons r t => .cons (h _ _ r) (pallm h t)
/-- what was made since (G1, H1) was made since (G0, H0) -/
theorem En.up (I : En K B G1 H1 G H σ ρ) (t : Stt B G0 H0 G1 H1) : En K B G0 H0 G H σ ρ := by
  refine ⟨t.trans I.st, ?_, I.ap⟩
  refine pall (fun o s h => ?_) I.sl
  cases h with
  | un => exact .un
  | dd r => exact .dd r
  | bg e => exact .bg e
  | own a r g h0 nb => exact .own a r g (t.before h0) nb
  | ex h => exact .ex h
  | nw r n => exact .nw r (n.mono (fun a h => t.before h) (Same.refl _))
  | pin r => exact .pin r
  | odk a k r g h0 nb => exact .odk a k r g (t.before h0) nb
  | fz a r h0 nb => exact .fz a r (t.before h0) nb
def low : Sl → Sl
  | .own _ => .un
  | .fz _ _ => .un
  | .odk _ _ => .un
  | .nw d => .dd d
  | s => s
theorem En.down (I : En K B G0 H0 G H σ ρ) : En K B G H G H σ (ρ.map low) := by
  refine ⟨I.st.here, ?_, fun i j p x y e1 e2 e3 e4 => ?_⟩
  · refine pallm (fun o s h => ?_) I.sl
    cases h with
    | un => exact .un
    | dd r => exact .dd r
    | bg e => exact .bg e
    | own a r g h0 nb => exact .un
    | ex h => exact .ex h
    | nw r n => exact .dd r
    | pin r => exact .pin r
    | odk a k r g h0 nb => exact .un
    | fz a r h0 nb => exact .un
  · exfalso
    rw [List.getElem?_map] at e1
    cases z : ρ[i]? with
    | none => rw [z] at e1; cases e1
    | some s => rw [z] at e1; cases s <;> cases e1
end

/-! ### groups in the heap -/
def er0 : Er := ⟨0, []⟩
def kD : DK → D
  | .inl i => .int i
  | .inr s => .str s
def prsD (ks : List DK) (xs : List D) : List D := (ks.zip xs).map fun z => .tup [kD z.1, z.2]
theorem kD_key {K : PySem.W.Frag} {G : Hp} (k : DK) : Rep K G (kV (DK.key k)) (kD k) := by
  cases k with
  | inl i => exact .int i
  | inr s => exact .str s
def GvOk (K : PySem.W.Frag) (B : Option Addr) (H0 G H : Hp) (q : Addr) (d : D) : Prop := ∃ vs ds, d = .lst ds ∧ nols ds = true ∧ H q = some (.lst vs) ∧ Reps K G vs ds ∧ G q = none ∧ H0 q = none ∧ B ≠ some q
structure GrpAt (K : PySem.W.Frag) (B : Option Addr) (H0 G H : Hp) (p : Addr) (ks : List DK) (xs : List D) (kvs : List (Key × V)) (qs : List Addr) : Prop where
  hp : H p = some (.dK kvs)
  hk : kvs.map (·.1) = ks.map DK.key
  hv : kvs.map (·.2) = qs.map V.ref
  nq : qs.Nodup
  nk : ks.Nodup
  gv : Paired (GvOk K B H0 G H) qs xs
  gp : G p = none
  h0 : H0 p = none
  nb : B ≠ some p
section
variable {K : PySem.W.Frag} {B : Option Addr} {G0 H0 G H G' H' : Hp} {p : Addr} {ks : List DK} {xs : List D} {kvs : List (Key × V)} {qs : List Addr}
theorem GvOk.mono {q : Addr} {d : D} (t : Stt B G H G' H') (h : GvOk K B H0 G H q d) : GvOk K B H0 G' H' q d := by
  obtain ⟨vs, ds, h1, h1', h2, h3, h4, h5, h6⟩ := h
  refine ⟨vs, ds, h1, h1', t.hh _ _ (fun z => h6 z.symm) h2, h3.mono t.gg, ?_, h5, h6⟩
  cases z : G' q with
  | none => rfl
  | some u => rcases t.fr q u z with y | y
              · rw [h4] at y; cases y
              · rw [h2] at y; cases y
theorem GrpAt.mono (t : Stt B G H G' H') (g : GrpAt K B H0 G H p ks xs kvs qs) : GrpAt K B H0 G' H' p ks xs kvs qs := by
  refine ⟨t.hh _ _ (fun z => g.nb z.symm) g.hp, g.hk, g.hv, g.nq, g.nk, pall (fun _ _ h => h.mono t) g.gv, ?_, g.h0, g.nb⟩
  cases z : G' p with
  | none => rfl
  | some u => rcases t.fr p u z with y | y
              · rw [g.gp] at y; cases y
              · rw [g.hp] at y; cases y
theorem has_at {k : DK} : ∀ {kvs : List (Key × V)} {ks : List DK} {qs : List Addr}, kvs.map (·.1) = ks.map DK.key → kvs.map (·.2) = qs.map V.ref → ks.Nodup → hasK ks k = true →
    ∃ (j : Nat) (q : Addr), ks[j]? = some k ∧ qs[j]? = some q ∧ valV kvs (DK.key k) = some (.ref q) ∧ ∀ xs : List D, xs.length = ks.length → getX ks xs k = xs[j]? ∧ ∀ v, repX ks xs k v = xs.set j v
  | [], [], _, _, _, _, h => by cases h
  | [], _ :: _, _, h, _, _, _ => by cases h
  | _ :: _, [], _, h, _, _, _ => by cases h
  | _ :: _, _ :: _, [], _, h, _, _ => by cases h
  | c :: kvs, q :: ks, a :: qs, h1, h2, n, hh => by
    have e1 : c.1 = DK.key q := (List.cons.inj h1).1
    have e2 : c.2 = .ref a := (List.cons.inj h2).1
    obtain ⟨n1, n2⟩ := List.nodup_cons.mp n
    by_cases e : q = k
    · subst e
      refine ⟨0, a, rfl, rfl, by rw [valV_pos e1, e2], fun xs l => ?_⟩
      cases xs with
      | nil => cases l
      | cons x xs =>
        refine ⟨by unfold getX; rw [if_pos rfl]; rfl, fun v => ?_⟩
        unfold repX
        rw [if_pos rfl]
        have : ∀ {ks : List DK} {xs : List D}, ks.length = xs.length → q ∉ ks → repX ks xs q v = xs := by
          intro ks
          induction ks with
          | nil => intro xs l _; cases xs with
            | nil => rfl
            | cons => cases l
          | cons b ks ih =>
            intro xs l m
            cases xs with
            | nil => cases l
            | cons x xs =>
              unfold repX
              rw [if_neg (fun z : b = q => m (z ▸ List.mem_cons_self)), ih (by simpa using l) (fun z => m (List.mem_cons_of_mem _ z))]
        rw [this (by simpa using l.symm) n1]; rfl
    · have hh' : hasK ks k = true := by
        have : (decide (q = k) || hasK ks k) = true := hh
        rwa [decide_eq_false e, Bool.false_or] at this
      obtain ⟨j, r, f1, f2, f3, f4⟩ := has_at (List.cons.inj h1).2 (List.cons.inj h2).2 n2 hh'
      have ep : c.1 ≠ DK.key k := by rw [e1]; exact fun z => e (key_inj z)
      refine ⟨j + 1, r, f1, f2, ?_, fun xs l => ?_⟩
      · rw [← f3]
        simp [valV, List.find?_cons, ep]
      · cases xs with
        | nil => cases l
        | cons x xs =>
          obtain ⟨g1, g2⟩ := f4 xs (by simpa using l)
          refine ⟨?_, fun v => ?_⟩
          · conv => lhs; unfold getX
            rw [if_neg e, g1]; rfl
          · conv => lhs; unfold repX
            rw [if_neg e, g2]; rfl
theorem has_no {k : DK} : ∀ {kvs : List (Key × V)} {ks : List DK}, kvs.map (·.1) = ks.map DK.key → hasK ks k = false → valV kvs (DK.key k) = none ∧ ∀ xs : List D, getX ks xs k = none
  | [], [], _, _ => ⟨rfl, fun _ => rfl⟩
  | [], _ :: _, h, _ => by cases h
  | _ :: _, [], h, _ => by cases h
  | c :: kvs, q :: ks, h1, hh => by
    have e1 : c.1 = DK.key q := (List.cons.inj h1).1
    have : (decide (q = k) || hasK ks k) = false := hh
    rw [Bool.or_eq_false_iff] at this
    have e : ¬ q = k := of_decide_eq_false this.1
    obtain ⟨a, b⟩ := has_no (List.cons.inj h1).2 this.2
    have ep : c.1 ≠ DK.key k := by rw [e1]; exact fun z => e (key_inj z)
    refine ⟨by rw [← a]; simp [valV, List.find?_cons, ep], fun xs => ?_⟩
    cases xs with
    | nil => rfl
    | cons x xs => unfold getX; rw [if_neg e]; exact b xs
theorem hasK_not {k : DK} {ks : List DK} (h : hasK ks k = false) : k ∉ ks := fun m => by
  unfold hasK at h
  rw [List.any_eq_false] at h
  exact h k m (decide_eq_true rfl)
/-- the key is there: its list -/
theorem GrpAt.has {k : DK} (g : GrpAt K B H0 G H p ks xs kvs qs) (h : hasK ks k = true) : ∃ (j : Nat) (q : Addr) (vs : List V) (ds : List D), qs[j]? = some q ∧ xs[j]? = some (.lst ds) ∧ valV kvs (DK.key k) = some (.ref q) ∧ H q = some (.lst vs) ∧ Reps K G vs ds ∧ nols ds = true ∧ getX ks xs k = some (.lst ds) ∧ ∀ v, putKs ks k = ks ∧ putX ks xs k v = xs.set j v := by
  obtain ⟨j, q, f1, f2, f3, f4⟩ := has_at g.hk g.hv g.nk h
  have l1 : xs.length = ks.length := by
    have a := plen g.gv
    have b := congrArg List.length g.hk
    have c := congrArg List.length g.hv
    simp only [List.length_map] at b c
    omega
  obtain ⟨g1, g2⟩ := f4 xs l1
  obtain ⟨d, hd⟩ : ∃ d, xs[j]? = some d := by
    have : j < ks.length := (List.getElem?_eq_some_iff.mp f1).1
    exact ⟨_, List.getElem?_eq_getElem (by omega)⟩
  obtain ⟨q', e1, vs, ds, h1, h1', h2, h3, h4, h5, h6⟩ := pget g.gv hd
  rw [f2] at e1
  cases e1
  subst h1
  refine ⟨j, q, vs, ds, f2, hd, f3, h2, h3, h1', by rw [g1, hd], fun v => ⟨?_, ?_⟩⟩
  · unfold putKs; rw [h]; rfl
  · unfold putX; rw [h]; exact g2 v
theorem Stt.poke (s : Stt B G0 H0 G H) {q : Addr} {o : HO} (gq : G q = none) (hq : H0 q = none) (nb : B ≠ some q) : Stt B G0 H0 G (upd H q o) := by
  refine ⟨s.gg, fun a u h => ?_, fun a u n h => ?_, s.fr, fun b z => ?_, fun b z => by rw [← s.bc b z]; unfold bagC; rw [upd_ne (fun z' => nb (by rw [z, z']))]⟩
  · rw [upd_ne (fun z => by subst z; rw [gq] at h; cases h)]; exact s.gh a u h
  · rw [upd_ne (fun z => by subst z; rw [hq] at h; cases h)]; exact s.hh a u n h
  · obtain ⟨g0, n, sd, j, c, cells, k1, k2, r⟩ := s.bag b z
    exact ⟨g0, n, sd, j, c, cells, by rw [upd_ne (fun z' => nb (by rw [z, z']))]; exact k1, k2, r⟩
theorem low_poke {σ : L2.St} {ρ : List Sl} {q : Addr} {o : HO} (I : En K B G0 H0 G H σ ρ) (hl : ∀ s ∈ ρ, low s = s) (gq : G q = none) (hq : H0 q = none) (nb : B ≠ some q) : En K B G0 H0 G (upd H q o) σ ρ := by
  refine ⟨I.st.poke gq hq nb, ?_, I.ap⟩
  refine pmap I.sl fun a b i e1 e2 h => ?_
  have hb := hl b (List.mem_of_getElem? e2)
  cases h with
  | un => exact .un
  | dd r => exact .dd r
  | bg e => exact .bg e
  | own a r g h0 nb => cases hb
  | ex h => exact .ex h
  | nw r n => cases hb
  | pin r => exact .pin r
  | odk a k r g h0 nb => cases hb
  | fz a r h0 nb => cases hb
theorem GvOk.upd {q r : Addr} {d : D} {o : HO} (h : GvOk K B H0 G H q d) (ne : q ≠ r) : GvOk K B H0 G (upd H r o) q d := by
  obtain ⟨vs, ds, h1, h1', h2, h3, h4, h5, h6⟩ := h
  exact ⟨vs, ds, h1, h1', by rw [upd_ne ne]; exact h2, h3, h4, h5, h6⟩
/-- x[k] set to a new empty list -/
theorem GrpAt.add {k : DK} {r : Addr} (g : GrpAt K B H0 G H p ks xs kvs qs) (h : hasK ks k = false) (hr : H r = some (.lst [])) (gr : G r = none) (h0r : H0 r = none) (nbr : B ≠ some r) (nr : r ∉ qs) :
    GrpAt K B H0 G (upd H p (.dK (putK kvs (DK.key k) (.ref r)))) p (ks ++ [k]) (xs ++ [.lst []]) (putK kvs (DK.key k) (.ref r)) (qs ++ [r]) := by
  have e : putK kvs (DK.key k) (.ref r) = kvs ++ [(DK.key k, .ref r)] := by
    unfold putK
    rw [has_ok (k := k) g.hk, h]; rfl
  have pr : p ≠ r := fun z => by rw [← z, g.hp] at hr; cases hr
  refine ⟨upd_same, ?_, ?_, ?_, ?_, ?_, g.gp, g.h0, g.nb⟩
  · rw [e, List.map_append, List.map_append, g.hk]; rfl
  · rw [e, List.map_append, List.map_append, g.hv]; rfl
  · rw [List.nodup_append]
    exact ⟨g.nq, List.pairwise_singleton _ _, fun a ha b hb z => by rw [List.mem_singleton.mp hb] at z; exact nr (z ▸ ha)⟩
  · rw [List.nodup_append]
    exact ⟨g.nk, List.pairwise_singleton _ _, fun a ha b hb z => by rw [List.mem_singleton.mp hb] at z; exact hasK_not h (z ▸ ha)⟩
  · have one : Paired (GvOk K B H0 G (L2.upd H p (.dK (putK kvs (DK.key k) (.ref r))))) [r] [.lst []] := .cons ⟨[], [], rfl, rfl, by rw [upd_ne pr.symm]; exact hr, .nil, gr, h0r, nbr⟩ .nil
    have old : Paired (GvOk K B H0 G (L2.upd H p (.dK (putK kvs (DK.key k) (.ref r))))) qs xs := pall (fun q d hq => hq.upd fun z => by
      obtain ⟨vs, ds, _, _, h2, _⟩ := hq
      rw [z, g.hp] at h2; cases h2) g.gv
    have app : ∀ {l : List Addr} {m : List D}, Paired (GvOk K B H0 G (L2.upd H p (.dK (putK kvs (DK.key k) (.ref r))))) l m → Paired (GvOk K B H0 G (L2.upd H p (.dK (putK kvs (DK.key k) (.ref r))))) (l ++ [r]) (m ++ [.lst []]) := fun {l m} hlm => by
      induction hlm with
      | nil => exact one
      | cons a b ih => exact .cons a ih
    exact app old
/-- a list of them longer by one -/
theorem GrpAt.app {j : Nat} {q : Addr} {vs : List V} {ds : List D} {v : V} {d : D} (g : GrpAt K B H0 G H p ks xs kvs qs) (e1 : qs[j]? = some q) (e2 : xs[j]? = some (.lst ds)) (hq : H q = some (.lst vs)) (r : Rep K G v d) (n : nol d = true) :
    GrpAt K B H0 G (upd H q (.lst (vs ++ [v]))) p ks (xs.set j (.lst (ds ++ [d]))) kvs qs := by
  have pq : p ≠ q := fun z => by rw [← z, g.hp] at hq; cases hq
  refine ⟨by rw [upd_ne pq]; exact g.hp, g.hk, g.hv, g.nq, g.nk, ?_, g.gp, g.h0, g.nb⟩
  obtain ⟨q', f1, vs', ds', h1, h1', h2, h3, h4, h5, h6⟩ := pget g.gv e2
  rw [e1] at f1
  cases f1
  cases h1
  rw [hq] at h2
  cases h2
  have P : Paired (fun a b => a = q ∨ GvOk K B H0 G (L2.upd H q (.lst (vs ++ [v]))) a b) qs xs := pall (fun a b h => by
    by_cases z : a = q
    · exact .inl z
    · exact .inr (h.upd z)) g.gv
  have self : GvOk K B H0 G (L2.upd H q (.lst (vs ++ [v]))) q (.lst (ds ++ [d])) := ⟨_, _, rfl, by
    rw [nols_iff] at h1' ⊢
    intro x hx
    rcases List.mem_append.mp hx with z | z
    · exact h1' x z
    · rw [List.mem_singleton.mp z]; exact n, upd_same, h3.append (.cons r .nil), h4, h5, h6⟩
  have Q : Paired (fun a b => a = q ∨ GvOk K B H0 G (L2.upd H q (.lst (vs ++ [v]))) a b) (qs.set j q) (xs.set j (.lst (ds ++ [d]))) := pset (.inr self) j P
  have sq : qs.set j q = qs := by
    apply List.ext_getElem?
    intro i
    by_cases e : i = j
    · subst e; rw [List.getElem?_set_self (List.getElem?_eq_some_iff.mp e1).1, e1]
    · rw [List.getElem?_set_ne (Ne.symm e)]
  rw [sq] at Q
  refine pmap Q fun a b i ea eb h => ?_
  rcases h with z | h
  · subst z
    have ij : i = j := by
      have hi := (List.getElem?_eq_some_iff.mp ea)
      have hj := (List.getElem?_eq_some_iff.mp e1)
      obtain ⟨li, vi⟩ := hi
      obtain ⟨lj, vj⟩ := hj
      have := List.pairwise_iff_getElem.mp g.nq
      rcases Nat.lt_trichotomy i j with c | c | c
      · exact absurd (by rw [vi, vj]) (this i j li lj c)
      · exact c
      · exact absurd (by rw [vi, vj]) (this j i lj li c)
    subst ij
    have lx : i < xs.length := (List.getElem?_eq_some_iff.mp e2).1
    rw [List.getElem?_set_self lx] at eb
    cases eb
    exact self
  · exact h
end

/-! ### the statements -/
theorem prs_rep {K : PySem.W.Frag} {B : Option Addr} {H0 G H G' H' : Hp} (sm : Same G G') : ∀ {ts : List Addr} {kvs : List (Key × V)} {ks : List DK} {qs : List Addr} {xs : List D},
    Paired (fun (t : Addr) (q : Key × V) => H' t = some (.tup [kV q.1, q.2])) ts kvs → kvs.map (·.1) = ks.map DK.key → kvs.map (·.2) = qs.map V.ref → Paired (GvOk K B H0 G H) qs xs →
    (∀ t ∈ ts, ∀ u, H' t = some u → G' t = some u) → (∀ q ∈ qs, ∀ u, H q = some u → G' q = some u) → Reps K G' (ts.map V.ref) (prsD ks xs) ∧ DNs K H0 G' (ts.map V.ref) (prsD ks xs)
  | [], [], [], [], [], _, _, _, _, _, _ => ⟨.nil, .nil⟩
  | [], [], [], [], _ :: _, _, _, _, h, _, _ => by cases h
  | [], [], [], _ :: _, _, _, _, h, _, _, _ => by cases h
  | [], [], _ :: _, _, _, _, h, _, _, _, _ => by cases h
  | [], _ :: _, _, _, _, h, _, _, _, _, _ => by cases h
  | _ :: _, [], _, _, _, h, _, _, _, _, _ => by cases h
  | _ :: _, _ :: _, [], _, _, _, h, _, _, _, _ => by cases h
  | _ :: _, _ :: _, _ :: _, [], _, _, _, h, _, _, _ => by cases h
  | _ :: _, _ :: _, _ :: _, _ :: _, [], _, _, _, h, _, _ => by cases h
  | t :: ts, c :: kvs, k :: ks, q :: qs, x :: xs, h1, h2, h3, h4, h5, h6 => by
    cases h1 with
    | cons a1 b1 =>
    cases h4 with
    | cons a4 b4 =>
    obtain ⟨i1, i2⟩ := prs_rep sm b1 (List.cons.inj h2).2 (List.cons.inj h3).2 b4 (fun t ht => h5 t (List.mem_cons_of_mem _ ht)) (fun q hq => h6 q (List.mem_cons_of_mem _ hq))
    have ek : c.1 = DK.key k := (List.cons.inj h2).1
    have ev : c.2 = V.ref q := (List.cons.inj h3).1
    obtain ⟨vs, ds, rfl, nd, hq, r, gq, h0q, nb⟩ := a4
    rw [ek, ev] at a1
    have gt := h5 t List.mem_cons_self _ a1
    have gq' := h6 q List.mem_cons_self _ hq
    have r' := r.mono sm
    exact ⟨.cons (.tup gt (.cons (kD_key k) (.cons (.lst gq' r') .nil))) i1, .cons (.tup gt (.cons (.flat (by cases k <;> rfl)) (.cons (.lst h0q gq' (DNs.flat r'.length nd)) .nil))) i2⟩
def dGrpT (i : Nat) (p : Addr) (xe : XE) (dt : DT) (dk de : DE) (W : List DK → List D → List Sl → Prop) (ks : List DK) (xs : List D) : DS := fun _ ρ =>
  ρ[i]? = some (.ex p none er0) ∧ ρ.map low = ρ ∧ dt ρ xe fun b => ifB b (dk ρ xe fun kd => ∃ (k : DK) (old : List D), keyD kd = some k ∧ ks.length < sizeLine ∧ (getX ks xs k).getD (.lst []) = .lst old ∧ old.length < sizeLine ∧
    de ρ xe fun v => nol v = true ∧ W (putKs ks k) (putX ks xs k (.lst (old ++ [v]))) ρ) (W ks xs ρ)
/-- what the loop asks, its items known -/
structure grpBody (i : Nat) (p : Addr) (dg : DG) (db : DS → DS) (dt : DT) (dk de : DE) (C : DEnds) (ρ : List Sl) (items : List D) : Prop where
  go : ∃ W : Nat → List DK → List D → List Sl → Prop, W 0 [] [] ρ ∧
    (∀ (n : Nat) d ρ' ks xs, items[n]? = some d → W n ks xs ρ' → dg d (ρ'.map low) fun ρ2 => db (dGrpT i p C.xe dt dk de (W (n + 1)) ks xs) { C with nx := fun _ => False, bk := fun _ => False, ct := fun _ => False } ρ2) ∧
    (∀ ks xs ρ', W items.length ks xs ρ' → ρ'[i]? = some (.ex p none er0) ∧ C.rf (.lst (prsD ks xs)))
/-- x = {}; the loop; return list(x.items()) -/
def dGrp (i : Nat) (di : DI) (dg : DG) (db : DS → DS) (dt : DT) (dk de : DE) : DS := fun C ρ => ∀ p : Addr, di (ρ.set i (.ex p none er0)) C.xe (grpBody i p dg db dt dk de C (ρ.set i (.ex p none er0)))
theorem low_all {ρ : List Sl} (h : ρ.map low = ρ) : ∀ s ∈ ρ, low s = s := fun s hs => by
  obtain ⟨i, hi⟩ := List.mem_iff_getElem?.mp hs
  have := congrArg (·[i]?) h
  simp only [List.getElem?_map, hi] at this
  exact Option.some.inj this
theorem LinkX.up {K : PySem.W.Frag} {B : Option Addr} {G0 H0 G1 H1 : Hp} {E : XK} {xe : XE} (l : LinkX K B G0 H0 E xe) (b : Stt B G0 H0 G1 H1) : LinkX K B G1 H1 E xe := fun er G' H' d s h q =>
  l er G' H' d (b.trans s) (h.imp id fun ⟨dx, fs, a1, a2, a3, a4, a5⟩ => ⟨dx, fs, a1, a2, a3, a4, b.before a5⟩) q
section
variable {X : Cx} {E : XK} {i : Nat} {x : Str}
theorem xss_grp {f : List Stmt → List Stmt} {db : DS → DS} {tg iter c call li : Expr} {wi : TI} {di : DI} {g : TG} {dg : DG} {vs : List Nat} {dt : DT} {dk de : DE} {p0 p1 p2 p3 p4 p5 pl : Pos}
    (hN : X.N.Nodup) (hi : X.N[i]? = some x) (hx : Loc X.env.scope x)
    (hp : PassesOwn (model X.prog X.w) X.A X.env X.xe) (hc : X.calm = true) (hI : XI X E tg iter wi di) (hg : PG X tg g) (sg : SimG X.K g dg vs) (hb : XB X E f db) (ht : XT X E c dt)
    (ha : PE X call (tBM X.K "list" rAppend (tDSetd (tVar i) (cE X.K E dk) (tLst tNil)) (tCons (cE X.K E de) tNil))) (hl : PE X li (LiI.tListItems (tVar i)))
    (hs1 : swapsWith (.Dict [] [] pl) (some (.Name x p0)) p1.line X.env = pure false := by rfl) (hf : X.fn x = true ∨ X.env.scope.names.lookup x = some .local := by first | exact .inl rfl | exact .inr rfl | assumption)
    (hs2 : ∀ x, foldedSetIterable iter X.env x = pure x := by intro _; rfl) (hs3 : swapsWith call none p2.line X.env = pure false := by rfl) :
    XSs X E [.Assign [.Name x p0] (.Dict [] [] pl) p1, .For tg iter (f [.If c [.Expr call p2] [] p3]) [] p4, .Return (some li) p5] (dGrp i di dg db dt dk de) := by
  obtain ⟨tb, pb, sb⟩ := hb.go [.If c [.Expr call p2] [] p3] _ (pss_one (ps_if ht.pt (pss_one (ps_expr ha hs3)) pss_nil))
  refine .of (pss_cons (ps_set hN hi hx pe_dnewK hs1 hf) (pss_cons (ps_for hp hc hI.pi hg pb hs2) (pss_one (ps_ret hl)))) fun B G0 H0 G H σ ρ I Gs sgs D C l q => ?_
  intro p hpn
  have nbp : B ≠ some p := fun e => by
    obtain ⟨_, _, _, _, _, _, h, _⟩ := I.st.bag p e
    rw [hpn] at h; cases h
  have lt := I.st.laid (o := .dK []) hpn
  have I1 : En X.K B G0 H0 G (upd H p (.dK [])) (σ.set i (some (.ref p))) (ρ.set i (.ex p none er0)) := (I.step lt).setS (.ex (.inl rfl)) (fun _ z => by cases z)
  have gr0 : GrpAt X.K B H0 G (upd H p (.dK [])) p [] [] [] [] := ⟨upd_same, rfl, rfl, List.nodup_nil, List.nodup_nil, .nil, I.st.gfree hpn, I.st.before hpn, nbp⟩
  refine hI.sim B G0 H0 G _ _ _ I1 C.xe l.xe _ _ (fun J G2 H2 items t jok z => ?_) (q p)
  obtain ⟨W, w0, turn, fin⟩ := z
  refine ⟨fun n m σ' H' => m = items.length - n ∧ n ≤ items.length ∧ ∃ G' ρ' ks xs kvs qs, Same G2 G' ∧ En X.K B G0 H0 G' H' σ' ρ' ∧ GrpAt X.K B H0 G' H' p ks xs kvs qs ∧ W n ks xs ρ', ⟨items.length, by simp, Nat.zero_le _, G2, _, [], [], [], [], Same.refl _, I1.step t, gr0.mono t, w0⟩, ?_⟩
  rintro n m σ' H' ⟨rfl, hle, G', ρ', ks, xs, kvs, qs, sm, I', gr, w⟩
  have jk := jok G' H' sm I'.st.gh I'.st.bag n
  by_cases hlt : n < items.length
  · obtain ⟨go, yl⟩ := jk.1 items[n] (List.getElem?_eq_getElem hlt)
    let N : L2.St → Hp → Prop := fun σ2 H3 => ∃ G' ρ' ks xs kvs qs, Same G2 G' ∧ En X.K B G0 H0 G' H3 σ2 ρ' ∧ GrpAt X.K B H0 G' H3 p ks xs kvs qs ∧ W (n + 1) ks xs ρ'
    refine .inr ⟨go, N, fun σ2 H3 ⟨G', ρ', ks, xs, kvs, qs, a1, a2, a3, a4⟩ => ⟨items.length - (n + 1), by omega, rfl, hlt, G', ρ', ks, xs, kvs, qs, a1, a2, a3, a4⟩, fun y H3 hy => ?_⟩
    obtain ⟨G3, t3, r3⟩ := yl y H3 hy
    have I3 := I'.step t3
    have base : Stt B G0 H0 G3 H3 := I3.st
    have gr3 := gr.mono t3
    refine sg B G3 H3 G3 H3 σ' _ y _ I3.down r3 _ _ (fun σ4 ρ4 I4 _ z => ?_) (turn n _ ρ' ks xs (List.getElem?_eq_getElem hlt) w)
    refine sb B G3 H3 G3 { nx := N, rt := D.rt, bk := tRet (LiI.tListItems (tVar i)) D, ct := N } { C with nx := fun _ => False, bk := fun _ => False, ct := fun _ => False } _ (fun _ _ => False) (fun _ => False)
      ⟨fun _ _ _ _ _ _ z => z.elim, fun _ _ _ _ _ _ z => z.elim, fun _ _ _ _ _ _ z => z.elim, fun v d G' H' s r z => l.rt v d G' H' (base.trans s) r z, l.xe.up base, fun v d G' H' s r dn z => l.rf v d G' H' (base.trans s) r (dn.mono (fun a h => base.before h) (Same.refl _)) z⟩ (fun G5 H5 σ5 ρ5 I5' s5 z5 => ?_) G3 H3 σ4 ρ4 I4 (Same.refl _) z
    have gr5 := gr3.mono I5'.st
    have I5 := I5'.up base
    have sm5 : Same G2 G5 := (sm.trans t3.gg).trans s5
    obtain ⟨e5, lo, z5⟩ := z5
    have es : σ5[i]? = some (some (.ref p)) := by
      obtain ⟨o, f1, f2⟩ := pget I5.sl e5
      cases f2; exact f1
    refine sT B G0 H0 G5 H5 σ5 ρ5 I5 C.xe l.xe _ _ (fun b G6 H6 t6 z6 => ?_) z5
    have I6 := I5.step t6
    have gr6 := gr5.mono t6
    have sm6 := sm5.trans t6.gg
    cases b with
    | false => exact ⟨G6, ρ5, ks, xs, kvs, qs, sm6, I6, gr6, z6⟩
    | true =>
    refine ⟨.ref p, es, p, rfl, .inl ⟨kvs, .inl gr6.hp⟩, ?_⟩
    refine sE B G0 H0 G6 H6 σ5 ρ5 I6 C.xe l.xe _ _ (fun u G7 H7 kd t7 r7 z7 => ?_) z6
    have I7 := I6.step t7
    have gr7 := gr6.mono t7
    have sm7 := sm6.trans t7.gg
    obtain ⟨k, old, y1, y2, y3, y4, y5⟩ := z7
    -- the list found, the item behind it
    have done : ∀ (H8 : Hp) (ks' : List DK) (xs' : List DL.D) (kvs' : List (Key × V)) (qs' : List Addr) (j : Nat) (a : Addr) (vs : List V), En X.K B G0 H0 G7 H8 σ5 ρ5 → GrpAt X.K B H0 G7 H8 p ks' xs' kvs' qs' → qs'[j]? = some a → xs'[j]? = some (.lst old) → H8 a = some (.lst vs) → Reps X.K G7 vs old → ks' = putKs ks k → (∀ v, xs'.set j v = putX ks xs k v) →
        tyV X.K "list" (.ref a) H8 ∧ tCons (cE X.K E de) tNil σ5 H8 fun us H9 => rAppend (.ref a) us H9 fun _ H9 => ∃ G' ρ' ks xs kvs qs, Same G2 G' ∧ En X.K B G0 H0 G' H9 σ5 ρ' ∧ GrpAt X.K B H0 G' H9 p ks xs kvs qs ∧ W (n + 1) ks xs ρ' := by
      intro H8 ks' xs' kvs' qs' j a vs I8 gr8 f1 f2 f3 f4 f5 f6
      refine ⟨.inl ⟨rfl, _, SqL.of f3⟩, ?_⟩
      refine sE B G0 H0 G7 H8 σ5 ρ5 I8 C.xe l.xe _ _ (fun v G9 H9 d t9 r9 z9 => ?_) y5
      obtain ⟨y6, y7⟩ := z9
      have I9 := I8.step t9
      have gr9 := gr8.mono t9
      obtain ⟨a', h1, vs', ds', _, _, h2, _, h4, h5, h6⟩ := pget gr9.gv f2
      rw [f1] at h1
      cases h1
      have f3' : H9 a = some (.lst vs) := t9.hh _ _ (fun z => h6 z.symm) f3
      refine ⟨a, vs, v, rfl, rfl, f3', by rw [f4.length]; exact y4, G9, ρ5, ks', xs'.set j (.lst (old ++ [d])), kvs', qs', sm7.trans t9.gg, low_poke I9 (low_all lo) h4 h5 h6, gr9.app f1 f2 f3' r9 y6, ?_⟩
      rw [f5, f6]; exact y7
    refine ⟨Nat.zero_le _, fun r hr => ?_⟩
    have lr := I7.st.laid (o := .lst []) hr
    have I8 := I7.step lr
    have gr8 := gr7.mono lr
    have nbr : B ≠ some r := fun e => by
      obtain ⟨_, _, _, _, _, _, h, _⟩ := I7.st.bag r e
      rw [hr] at h; cases h
    have hlen : kvs.length = ks.length := by
      have := congrArg List.length gr8.hk
      simpa using this
    refine ⟨kvs, DK.key k, gr8.hp, rep_key r7 y1, by omega, fun v hv => ?_, fun hn => ?_⟩
    · cases hk : hasK ks k with
      | false => rw [(has_no gr8.hk hk).1] at hv; cases hv
      | true =>
        obtain ⟨j, a, vs, ds, f1, f2, f3, f4, f5, f6, f7, f8⟩ := gr8.has hk
        rw [f3] at hv
        cases hv
        rw [f7] at y3
        cases y3
        exact done _ ks xs kvs qs j a vs I8 gr8 f1 f2 f4 f5 ((f8 .non).1.symm) (fun v => (f8 v).2.symm)
    · cases hk : hasK ks k with
      | true =>
        obtain ⟨j, a, vs, ds, f1, f2, f3, f4, f5, f6, f7, f8⟩ := gr8.has hk
        rw [f3] at hn; cases hn
      | false =>
        rw [(has_no gr8.hk hk).2 xs] at y3
        cases y3
        have nr : r ∉ qs := fun m => by
          obtain ⟨j, hj⟩ := List.mem_iff_getElem?.mp m
          have ll := plen gr7.gv
          have jl : j < xs.length := by
            have := (List.getElem?_eq_some_iff.mp hj).1
            omega
          obtain ⟨a', h1, vs', ds', _, _, h2, _⟩ := pget gr7.gv (List.getElem?_eq_getElem jl)
          rw [hj] at h1
          cases h1
          rw [hr] at h2; cases h2
        have gA := gr8.add hk upd_same (I7.st.gfree hr) (I7.st.before hr) nbr nr
        have lq := plen gr8.gv
        have pr : r ≠ p := fun z => by rw [z, gr7.hp] at hr; cases hr
        refine done _ _ _ _ _ qs.length r [] (low_poke I8 (low_all lo) gr8.gp gr8.h0 gr8.nb) gA (by rw [List.getElem?_append_right (Nat.le_refl _), Nat.sub_self]; rfl) (by rw [lq, List.getElem?_append_right (Nat.le_refl _), Nat.sub_self]; rfl) (by rw [upd_ne pr]; exact upd_same) .nil ?_ fun v => ?_
        · unfold putKs; rw [hk]; rfl
        · unfold putX
          rw [hk, lq, List.set_append_right _ _ (Nat.le_refl _), Nat.sub_self]; rfl
  · have e : n = items.length := by omega
    subst e
    refine .inl ⟨jk.2 (Nat.le_refl _), ?_⟩
    obtain ⟨z1, z2⟩ := fin ks xs ρ' w
    have es : σ'[i]? = some (some (.ref p)) := by
      obtain ⟨o, f1, f2⟩ := pget I'.sl z1
      cases f2; exact f1
    refine ⟨.ref p, es, p, kvs, rfl, gr.hp, fun H9 a ts keep na nts _ ha' pt => ?_⟩
    have gq : ∀ q ∈ qs, G' q = none ∧ H0 q = none ∧ B ≠ some q ∧ ∃ u, H' q = some u := fun q m => by
      obtain ⟨j, hj⟩ := List.mem_iff_getElem?.mp m
      have ll := plen gr.gv
      have jl : j < xs.length := by
        have := (List.getElem?_eq_some_iff.mp hj).1
        omega
      obtain ⟨a', h1, vs', ds', _, _, h2, _, h4, h5, h6⟩ := pget gr.gv (List.getElem?_eq_getElem jl)
      rw [hj] at h1
      cases h1
      exact ⟨h4, h5, h6, _, h2⟩
    let G9 : Hp := fun b => if b = a ∨ b ∈ ts ∨ b ∈ qs then H9 b else G' b
    have inn : ∀ b, (b = a ∨ b ∈ ts ∨ b ∈ qs) → G9 b = H9 b := fun b h => if_pos h
    have out : ∀ b, ¬ (b = a ∨ b ∈ ts ∨ b ∈ qs) → G9 b = G' b := fun b h => if_neg h
    have gno : ∀ b, (b = a ∨ b ∈ ts ∨ b ∈ qs) → G' b = none := fun b h => by
      rcases h with rfl | h | h
      · exact I'.st.gfree na
      · exact I'.st.gfree (nts b h)
      · exact (gq b h).1
    have sm9 : Same G' G9 := fun b u h => by
      rw [out b (fun z => by rw [gno b z] at h; cases h)]; exact h
    have st9 : Stt B G0 H0 G9 H9 := by
      refine ⟨I'.st.gg.trans sm9, fun b u h => ?_, fun b u nb h => keep _ _ (I'.st.hh b u nb h), fun b u h => ?_, fun b e => ?_, fun b e => ?_⟩
      · by_cases z : b = a ∨ b ∈ ts ∨ b ∈ qs
        · rw [inn b z] at h; exact h
        · rw [out b z] at h; exact keep _ _ (I'.st.gh b u h)
      · by_cases z : b = a ∨ b ∈ ts ∨ b ∈ qs
        · right
          rcases z with rfl | z | z
          · exact I'.st.before na
          · exact I'.st.before (nts b z)
          · exact (gq b z).2.1
        · rw [out b z] at h; exact I'.st.fr b u h
      · obtain ⟨g0, n, sd, j, c, cells, k1, k2, r⟩ := I'.st.bag b e
        refine ⟨?_, n, sd, j, c, cells, keep _ _ k1, sm9 _ _ k2, r⟩
        rw [out b (fun z => ?_)]
        · exact g0
        · rcases z with rfl | z | z
          · rw [na] at k1; cases k1
          · rw [nts b z] at k1; cases k1
          · exact (gq b z).2.2.1 e
      · rw [← I'.st.bc b e]
        obtain ⟨_, _, _, _, _, _, k1, _⟩ := I'.st.bag b e
        unfold bagC
        rw [k1, keep _ _ k1]
    obtain ⟨rr, dd⟩ := prs_rep (H' := H9) sm9 pt gr.hk gr.hv gr.gv (fun t ht u h => by rw [inn t (.inr (.inl ht))]; exact h) (fun q hq u h => by rw [inn q (.inr (.inr hq))]; exact keep _ _ h)
    exact l.rf (.ref a) (.lst (prsD ks xs)) G9 H9 st9 (.lst (by rw [inn a (.inl rfl)]; exact ha') rr) (.lst (I'.st.before na) (by rw [inn a (.inl rfl)]; exact ha') dd) z2
end
end DL

/-! [(k, d[k]) for k in d] -/
namespace DL
open PySem PySem.Spec L2
open PyProof.Rows hiding St
def valsP (ks : List DK) (xs : List D) : List D := ks.map fun k => .tup [kD k, (getX ks xs k).getD .non]
def dPairsE (i j : Nat) : DE := fun ρ _ R => match dctAt ρ[i]? with
  | some (ks, xs) => (i ≠ j ∧ j < ρ.length ∧ ks.length < sizeLine) ∧ R (.lst (valsP ks xs))
  | none => False
def vk (kvs : List (Key × V)) (q : DK) : V := (valV kvs (DK.key q)).getD .non
section
variable {i j : Nat}
theorem tups_rep {K : PySem.W.Frag} {G G' H' : Hp} {kvs : List (Key × V)} {f : DK → D} (sm : Same G G') : ∀ {ts : List Addr} {qs : List DK}, Paired (fun (t : Addr) (q : DK) => H' t = some (.tup [kV (DK.key q), vk kvs q])) ts qs → Reps K G (qs.map (vk kvs)) (qs.map f) → (∀ t ∈ ts, ∀ u, H' t = some u → G' t = some u) →
    Reps K G' (ts.map V.ref) (qs.map fun q => .tup [kD q, f q])
  | _, _, .nil, _, _ => .nil
  | t :: ts, q :: qs, .cons a b, r, h => by
    rw [List.map_cons, List.map_cons] at r
    cases r with
    | cons r1 r2 =>
      refine .cons (.tup (h t List.mem_cons_self _ a) (.cons (kD_key q) (.cons (r1.mono sm) .nil))) (tups_rep sm b r2 fun t' ht => h t' (List.mem_cons_of_mem _ ht))
theorem sim_pairsE {K : PySem.W.Frag} : SimE K E (tLockE (tLc (iKeys (tVar i)) (gName j) tYes (tTup (tCons (tVar j) (tCons (tDGet (tVar i) (tVar j)) tNil))) [j])) (dPairsE i j) := fun B G0 H0 G H σ ρ I xe lx Q R kk q => by
  unfold dPairsE at q
  split at q
  · rename_i ks xs e
    obtain ⟨⟨hij, hj, hs⟩, q⟩ := q
    have len := plen I.sl
    obtain ⟨p, kvs, h1, h2, h3, h4⟩ := I.dictAt e
    have hl : kvs.length = ks.length := by
      have := congrArg List.length h3
      simpa using this
    obtain ⟨v1, v2⟩ := vals_rep (qs := ks) h3 h4 fun _ h => h
    refine ⟨p, .dK kvs, h2, trivial, fun od => ?_⟩
    refine ⟨.ref p, h1, p, od, rfl, .inl ⟨kvs, upd_same, fun D hD => ?_⟩⟩
    have hDp : D ≠ p := fun z => by rw [z, upd_same] at hD; cases hD
    have hD' : H D = none := by rwa [upd_ne hDp] at hD
    refine ⟨fun n m H' => m = ks.length - n ∧ n ≤ ks.length ∧ ∃ ts : List Addr, ts.length = n ∧ H' p = some (.frz od (.dK kvs)) ∧ H' D = some (.lst (ts.map V.ref)) ∧ (∀ a, a ≠ p → a ≠ D → a ∉ ts → H' a = H a) ∧ (∀ t ∈ ts, H t = none ∧ t ≠ D ∧ t ≠ p) ∧
      Paired (fun (t : Addr) (q : DK) => H' t = some (.tup [kV (DK.key q), vk kvs q])) ts (ks.take n), ⟨_, rfl, Nat.zero_le _, [], rfl, by rw [upd_ne hDp.symm]; exact upd_same, upd_same, fun a a1 a2 _ => by rw [upd_ne a2, upd_ne a1], fun _ h => (nomatch h), .nil⟩, fun n m H' ⟨hm, hn, ts, tl, hp', hd', ho', ht', pt⟩ => ?_⟩
    by_cases hlt : n < ks.length
    · refine .inr ⟨⟨hp', by omega⟩, fun H'' => ∃ ts : List Addr, ts.length = n + 1 ∧ H'' p = some (.frz od (.dK kvs)) ∧ H'' D = some (.lst (ts.map V.ref)) ∧ (∀ a, a ≠ p → a ≠ D → a ∉ ts → H'' a = H a) ∧ (∀ t ∈ ts, H t = none ∧ t ≠ D ∧ t ≠ p) ∧
        Paired (fun (t : Addr) (q : DK) => H'' t = some (.tup [kV (DK.key q), vk kvs q])) ts (ks.take (n + 1)), fun H'' e => ⟨ks.length - (n + 1), by omega, rfl, by omega, e⟩, fun y H'' hy => ?_⟩
      obtain ⟨rfl, k', v', e1, rfl⟩ := hy
      obtain ⟨q0, hq0⟩ : ∃ q0, ks[n]? = some q0 := ⟨_, List.getElem?_eq_getElem hlt⟩
      have ek : k' = DK.key q0 := by
        have e2 : (kvs.map (·.1))[n]? = (ks.map DK.key)[n]? := by rw [h3]
        rw [List.getElem?_map, List.getElem?_map, e1, hq0] at e2
        exact Option.some.inj e2
      subst ek
      obtain ⟨v, hv⟩ := v2 q0 (List.mem_of_getElem? hq0)
      have w1 : wipe σ [j] = σ.set j none := rfl
      have g1 : ((wipe σ [j]).set j (some (kV (DK.key q0))))[i]? = some (some (.ref p)) := by
        rw [w1, List.getElem?_set_ne (Ne.symm hij), List.getElem?_set_ne (Ne.symm hij)]; exact h1
      have g2 : ((wipe σ [j]).set j (some (kV (DK.key q0))))[j]? = some (some (kV (DK.key q0))) := by
        rw [List.getElem?_set_self (by rw [w1, List.length_set]; omega)]
      refine ⟨by rw [w1]; show ((σ.set j none).set j _).set j none = _; rw [List.set_set, List.set_set], ?_⟩
      unfold tYes
      dsimp only
      rw [if_pos (rfl : true = true)]
      refine ⟨kV (DK.key q0), g2, .ref p, g1, kV (DK.key q0), g2, p, v, rfl, .inl ⟨kvs, DK.key q0, .inr ⟨od, hp'⟩, rfl, hv.symm⟩, small_line (n := 2) (by decide), fun T hT => ?_⟩
      have tp : T ≠ p := fun z => by rw [z, hp'] at hT; cases hT
      have tD : T ≠ D := fun z => by rw [z, hd'] at hT; cases hT
      have tt : T ∉ ts := fun z => by
        obtain ⟨jj, qq, f1, f2, f3⟩ := LiI.paired_ix pt z
        rw [f3] at hT; cases hT
      refine ⟨_, by rw [upd_ne tD.symm]; exact hd', by rw [List.length_map]; omega, ts ++ [T], by rw [List.length_append, tl]; rfl, ?_, ?_, fun a a1 a2 a3 => ?_, fun t ht => ?_, ?_⟩
      · rw [upd_ne hDp.symm, upd_ne tp.symm]; exact hp'
      · rw [upd_same, List.map_append]; rfl
      · rw [upd_ne a2, upd_ne (fun z => a3 (by rw [z]; simp))]
        exact ho' a a1 a2 (fun z => a3 (List.mem_append_left _ z))
      · rcases List.mem_append.mp ht with z | z
        · exact ht' t z
        · rw [List.mem_singleton.mp z]
          refine ⟨?_, tD, tp⟩
          rw [← ho' T tp tD tt]; exact hT
      · have ev : vk kvs q0 = v := by unfold vk; rw [hv]; rfl
        rw [List.take_add_one, hq0]
        have one : Paired (fun (t : Addr) (q : DK) => upd (upd H'' T (.tup [kV (DK.key q0), v])) D (.lst (ts.map V.ref ++ [V.ref T])) t = some (.tup [kV (DK.key q), vk kvs q])) [T] (some q0).toList := .cons (by rw [upd_ne tD, upd_same, ev]) .nil
        have old : ∀ {l : List Addr} {m : List DK}, Paired (fun (t : Addr) (q : DK) => H'' t = some (.tup [kV (DK.key q), vk kvs q])) l m → (∀ t ∈ l, t ∈ ts) → Paired (fun (t : Addr) (q : DK) => upd (upd H'' T (.tup [kV (DK.key q0), v])) D (.lst (ts.map V.ref ++ [V.ref T])) t = some (.tup [kV (DK.key q), vk kvs q])) (l ++ [T]) (m ++ (some q0).toList) := fun {l m} h hs => by
          induction h with
          | nil => exact one
          | @cons t q l m a b ih =>
            refine .cons ?_ (ih fun t ht => hs t (List.mem_cons_of_mem _ ht))
            have mt := hs t List.mem_cons_self
            rw [upd_ne (ht' t mt).2.1, upd_ne (fun z : t = T => tt (z ▸ mt))]
            exact a
        exact old pt fun _ h => h
    · have ne : n = ks.length := by omega
      refine .inl ⟨⟨hp', by omega⟩, hp', ?_⟩
      rw [ne, List.take_length] at pt
      let H9 : Hp := upd H' p (.dK kvs)
      let G9 : Hp := fun b => if b = D ∨ b ∈ ts then H9 b else G b
      have inn : ∀ b, (b = D ∨ b ∈ ts) → G9 b = H9 b := fun b h => if_pos h
      have out : ∀ b, ¬ (b = D ∨ b ∈ ts) → G9 b = G b := fun b h => if_neg h
      have hno : ∀ b, (b = D ∨ b ∈ ts) → H b = none := fun b h => by
        rcases h with rfl | h
        · exact hD'
        · exact (ht' b h).1
      have keep : ∀ b u, H b = some u → H9 b = some u := fun b u h => by
        by_cases z : b = p
        · rw [z] at h ⊢; show upd H' p (.dK kvs) p = _; rw [upd_same, ← h2, h]
        · show upd H' p (.dK kvs) b = _
          rw [upd_ne z, ho' b z (fun y => by rw [y, hD'] at h; cases h) (fun y => by rw [(ht' b y).1] at h; cases h)]; exact h
      have st9 : Stt B G H G9 H9 := by
        refine ⟨fun b u h => ?_, fun b u h => ?_, fun b u _ h => keep b u h, fun b u h => ?_, fun b e => ?_, fun b e => ?_⟩
        · rw [out b (fun z => by rw [I.st.gfree (hno b z)] at h; cases h)]; exact h
        · by_cases z : b = D ∨ b ∈ ts
          · rw [inn b z] at h; exact h
          · rw [out b z] at h; exact keep _ _ (I.st.gh b u h)
        · by_cases z : b = D ∨ b ∈ ts
          · exact .inr (hno b z)
          · rw [out b z] at h; exact .inl h
        · obtain ⟨g0, n, sd, jx, c, cells, k1, k2, r⟩ := I.st.bag b e
          refine ⟨?_, n, sd, jx, c, cells, keep _ _ k1, ?_, r⟩
          · rw [out b (fun z => by rw [hno b z] at k1; cases k1)]; exact g0
          · rw [out c (fun z => by rw [I.st.gfree (hno c z)] at k2; cases k2)]; exact k2
        · obtain ⟨_, _, _, _, _, _, k1, _⟩ := I.st.bag b e
          unfold bagC
          rw [k1, keep _ _ k1]
      have rr := tups_rep (H' := H') (kvs := kvs) (f := fun q => (getX ks xs q).getD .non) st9.gg pt v1 (fun t ht u h => by
        rw [inn t (.inr ht)]; show upd H' p (.dK kvs) t = _; rw [upd_ne (ht' t ht).2.2]; exact h)
      exact kk (.ref D) G9 H9 (.lst (valsP ks xs)) st9 (.lst (by rw [inn D (.inl rfl)]; show upd H' p (.dK kvs) D = _; rw [upd_ne hDp]; exact hd') rr) q
  · exact q.elim
end
section
variable {X : Cx} {E : XK} {i j : Nat} {x k : Str}
theorem xPairsE {elt tg : Expr} {px pos : Pos} {scope : Scope} {own : List (Str × Nat)} (hc : X.calm = true) (hN : X.N.Nodup) (hv : PE X (.Name x px) (tVar i)) (ok : BlkOk X.N X.env.scope scope own) (ho : own.map (·.2) = [j])
    (hg : ∀ (s : Shared) (H : Hp) (C : Addr) (cl : List (Str × Addr)) (fp : List Addr), PG (X.blk s H scope (compEnvC scope cl C X.env) fp) tg (gName j))
    (he : ∀ (s : Shared) (H : Hp) (C : Addr) (cl : List (Str × Addr)) (fp : List Addr), PE (X.blk s H scope (compEnvC scope cl C X.env) fp) elt (tTup (tCons (tVar j) (tCons (tDGet (tVar i) (tVar j)) tNil)))) (hs : ∀ y, foldedSetIterable (.Name x px) X.env y = pure y := by intro _; rfl) :
    XEx X E (.ListComp elt [⟨tg, .Name x px, [], 0⟩] scope pos) (dPairsE i j) := .of (by
      have := pe_lc (pos := pos) hc hN (pi_keys hv) ok hg (fun _ _ _ _ _ => pts_nil) he hs
      rw [ho] at this
      exact pe_lock this) sim_pairsE
end
theorem valsP_nodup {ks : List DK} {xs : List D} (n : ks.Nodup) (l : ks.length = xs.length) : valsP ks xs = prsD ks xs := by
  unfold valsP prsD
  have gen : ∀ {ks : List DK} {xs : List D}, ks.Nodup → ks.length = xs.length → (ks.map fun k => D.tup [kD k, (getX ks xs k).getD .non]) = (ks.zip xs).map fun z => D.tup [kD z.1, z.2] := by
    intro ks
    induction ks with
    | nil => intro xs _ _; rfl
    | cons q ks ih =>
      intro xs n l
      cases xs with
      | nil => cases l
      | cons x xs =>
        obtain ⟨n1, n2⟩ := List.nodup_cons.mp n
        have h0 : getX (q :: ks) (x :: xs) q = some x := by unfold getX; rw [if_pos rfl]
        rw [List.map_cons, h0, List.zip_cons_cons, List.map_cons, ← ih n2 (by simpa using l)]
        refine congrArg _ (List.map_congr_left fun k hk => ?_)
        have : getX (q :: ks) (x :: xs) k = getX ks xs k := by
          conv => lhs; unfold getX
          rw [if_neg fun z : q = k => n1 (z ▸ hk)]
        rw [this]
  exact gen n l

/-! ### a, d = e, {} -/
def dParD (i j : Nat) (da : DE) : DS := fun C ρ => da ρ C.xe fun x => C.nx ((ρ.set i (.dd x)).set j (.odk [] []))
theorem sim_unpD {K : PySem.W.Frag} {E : XK} {i j : Nat} {ta : TE} {da : DE} (h : SimE K E ta da) : SimS K E (tAsg (tTup (tCons ta (tCons tDNewK tNil))) (gTup K 2 (gCons (gName i) (gCons (gName j) gNil)))) (dParD i j da) := fun B G0 H0 G H σ ρ I Gs sg D C l q =>
  h B G0 H0 G H σ ρ I C.xe l.xe _ _ (fun v G1 H1 d t r z => fun p hp => ⟨small_line (n := 2) (by decide), fun T hT => by
      have I3 := ((I.step t).set (i := i) r).layD (i := j) hp
      have t3 := I3.st.laid (o := .tup [v, .ref p]) hT
      have I4 := I3.step t3
      exact ⟨_, _, rfl, SqT.of upd_same, rfl, _, _, rfl, _, _, rfl, rfl, l.nx _ _ _ _ (sg.trans t.gg) I4 z⟩⟩) q
theorem xs_unpD {X : Cx} {E : XK} {i j : Nat} {tg a : Expr} {da : DE} {pl pos : Pos} {k2 pt2} (hc : X.calm = true) (ha : XEx X E a da)
    (hg : PG X tg (gTup X.K 2 (gCons (gName i) (gCons (gName j) gNil)))) (hs : swapsWithSole [tg] (.Tuple [a, .Dict [] [] pl] k2 pt2) pos.line X.env = pure false := by rfl) (hw : swappedStores [tg] (.Tuple [a, .Dict [] [] pl] k2 pt2) X.env = pure none := by rfl)
    (h1 : (assignEach [tg] X.env).map (·.2) = [assign tg X.env] := by rfl) (h3 : starEach [a, .Dict [] [] pl] X.env = (false, eval a X.env) :: starEach [.Dict [] [] pl] X.env := by rfl) (h2 : starEach [.Dict [] [] pl] X.env = (false, eval (.Dict [] [] pl) X.env) :: starEach [] X.env := by rfl) :
    XS X E (.Assign [tg] (.Tuple [a, .Dict [] [] pl] k2 pt2) pos) (dParD i j da) := .of (ps_asg (pe_tup (pa_cons ha.pe (pa_cons pe_dnewK pa_nil h2) h3)) hg hs hw h1) (sim_unpD sE)
end DL

/-! error classes that take nothing: raise C() -/
namespace DL
open PySem PySem.Spec L2
open PyProof.Rows hiding St
section
variable {X : Cx} {p pos : Pos}
theorem pmk_oex0 {CX : CXT} {x : Str} {C fI : Addr} {k : Nat} {fd : FuncData} {ps : List Str} {sp : Sp} (T : OexC X.K C) (iC : PySem.W.findIn X.K (.ref C) "__init__" = some (some (.ref fI))) (tI : PySem.W.typeIn X.K (.ref fI) = some (.type "function"))
    (F1 : FnOk X.prog X.w X.K X.mg X.base CX k fI fd ps sp) (hr : Room (k + 1) X.A) (hb : Binds X.K fd ps []) (hx : Passes CX X (fun _ _ _ => False)) (hg : Gl X x) (hm : X.mg x = some (.ref C))
    (hdb : (x == ("__debug__" : Str)) = false := by decide) :
    PMk X (.Call (.Name x p) [] [] pos) (tMkO C sp [] tNil) := by
  intro pins s σ H Q I h
  obtain ⟨nm, q, N, bs, bm, sn, sub, ab, col, dd, k0, k1, k2, k3, k5, hC, hbm⟩ := T.cls
  refine wpAny_Call_Name_kw (ld_glob I hg hm ?_ hdb)
  refine PySem.W.callWith_K0 I.kIn T.kC ?_
  show wpAny _ _ (call (.ref C) []) _ _ _
  obtain ⟨hp, g, dr, tk, os⟩ := s
  have q1 := h.2
  have hsz : hp.objs.size ≤ hp.objs.size + 1 := Nat.le_succ _
  have hn : H (hp.objs.size + 1) = none := I.hok.fresh hsz
  have hq := q1 (hp.objs.size + 1) hn
  have kk : ∀ b o, hp.get? b = some o → ((hp.push (PySem.W.kdv_tup [])).push (PySem.HandSPX.excO C hp.objs.size)).get? b = some o := fun b o e => Heap.get?_push_of_some _ (Heap.get?_push_of_some _ e)
  have hget : ((hp.push (PySem.W.kdv_tup [])).push (PySem.HandSPX.excO C hp.objs.size)).get? (hp.objs.size + 1) = some (PySem.HandSPX.excO C hp.objs.size) := by heap_get
  have I2 : Inv X pins σ (upd H (hp.objs.size + 1) (exo (hp.objs.size + 1) C none)) ⟨(hp.push (PySem.W.kdv_tup [])).push (PySem.HandSPX.excO C hp.objs.size), g, dr, tk, os⟩ :=
    I.laid (t' := tk) (a := hp.objs.size + 1) (o := exo (hp.objs.size + 1) C none) (h' := (hp.push (PySem.W.kdv_tup [])).push (PySem.HandSPX.excO C hp.objs.size)) kk hsz (exo_ok hget)
  have r2 : Vals [V.ref (hp.objs.size + 1)] [Value.ref (hp.objs.size + 1)] := .cons rfl .nil
  have hl : [Value.ref (hp.objs.size + 1)].length = ps.length := by
    have e := r2.length
    have e2 := F1.len _ _ _ _ hq
    simpa using e2
  refine wpAny_call (PySem.HandSPX.call_own F.excBase_ValueError (fun Y => PySem.HandSPX.refsVE_contains Y bm hbm) (I.kIn _ _ hC) (PySem.W.looks_findIn I.kIn iC) (fun self => PySem.W.bind_fn I.kIn self tI) (Nat.zero_le _)
    (codeAny_mono (F1.run _ X.stack _ _ ⟨[Value.ref (hp.objs.size + 1)], []⟩ [Value.ref (hp.objs.size + 1)] _ _ (fun _ _ _ => False) (hr.make C [] []) (I2.env0.make C [] []) (hb _ [Value.ref (hp.objs.size + 1)] I2.kIn hl) r2 hq) fun r s' hq' => ?_))
  cases r with
  | error er => exact hx pins σ _ _ er s' I2 hq'
  | ok fl =>
    cases fl with
    | ret u =>
      obtain ⟨v, H2, os2, bare2, un2, hok2, rv, ev, d, fs, ea, ed, hd1, q2⟩ := hq'
      subst ev
      obtain ⟨h2, g2, d2, t2, os'⟩ := s'
      exact ⟨rv, mk_end (raises_own T.exC T.tyC) I hsz kk un2 hok2 os2 bare2 ea ed hd1 q2⟩
    | next => exact False.elim hq'
    | brk => exact False.elim hq'
    | cont => exact False.elim hq'
end
/-- self, no field but the text -/
def spTxt (K : PySem.W.Frag) (msg : Str) : Sp := fun vs H Q E => ∃ (a C : Addr), vs = [.ref a] ∧ OexC K C ∧ PySem.W.findIn K (.ref C) "text" = some none ∧ H a = some (exo a C none) ∧
  ∀ dx, H dx = none → dx ≠ a → ∀ H', H' a = some (exo a C (some dx)) → H' dx = some (exd dx [("text", .str msg)]) → (∀ b, b ≠ a → b ≠ dx → H' b = H b) → Q .non H'
theorem txt_len {K : PySem.W.Frag} {msg : Str} {vs : List V} {H : Hp} {Q : VK} {E : XK} (h : spTxt K msg vs H Q E) : vs.length = 1 := by
  obtain ⟨_, _, rfl, _⟩ := h; rfl
theorem txt_read {K : PySem.W.Frag} {N : List Str} {msg : Str} {vs : List V} {H : Hp} {Q : VK} {E E2 : XK} (h : spTxt K msg vs H Q E) :
    (tDrop (tCl (spOwn K) E2 (tCons (tVar 0) (tCons (tC (.str msg)) tNil)))) { nx := fun _ H' => Q .non H', rt := Q } (start N vs) H := by
  obtain ⟨a, C, rfl, oc, ft, ha, q⟩ := h
  refine ⟨_, rfl, a, C, _, rfl, oc, ft, ha, fun dx hd ne => ?_⟩
  refine q dx hd ne _ upd_same (by rw [upd_ne ne, upd_same]) fun b h1 h2 => ?_
  rw [upd_ne h1, upd_ne h2]
structure ErD0 (P : Program) (w : World) (K : PySem.W.Frag) (mg : Str → Option Value) (base : Heap) (x : Str) (C : Addr) (msg : Str) : Prop where
  T : OexC K C
  ft : PySem.W.findIn K (.ref C) "text" = some none
  hm : mg x = some (.ref C)
  ini : ∃ (fI : Addr) (fd : FuncData) (ps : List Str), PySem.W.findIn K (.ref C) "__init__" = some (some (.ref fI)) ∧ PySem.W.typeIn K (.ref fI) = some (.type "function") ∧ FnOk P w K mg base (L2.CX P w) 2 fI fd ps (spTxt K msg) ∧ Binds K fd ps []
/-- raise C() -/
def dRaise0 (C : Addr) (ml : List Nat) : DS := fun Ct _ => Ct.xe ⟨C, [("text", .str ml)]⟩
theorem xs_raise0 {X : Cx} {E : XK} {x msg : Str} {ml : List Nat} {C : Addr} {p pos pos' : Pos} (Z : ErD0 X.prog X.w X.K X.mg X.base x C msg) (hc : X.calm = true) (tk : Takes X fun c d _ H => E c d H) (hr : Room 3 X.A) (hg : Gl X x)
    (hml : msg.cps.toList = ml) (hx : Passes (L2.CX X.prog X.w) X fun _ _ _ => False) (hdb : (x == ("__debug__" : Str)) = false := by decide) :
    XS X E (.Raise (some (.Call (.Name x p) [] [] pos)) none pos') (dRaise0 C ml) := by
  obtain ⟨fI, fd, ps, i1, i2, F, hb⟩ := Z.ini
  refine .of (ps_raise hc tk (pmk_oex0 Z.T i1 i2 F hr hb hx hg Z.hm hdb)) fun B G0 H0 G H σ ρ I Gs sg D Ct l q => ?_
  refine ⟨show 0 ≤ 1000 by decide, fun a ha => ?_⟩
  refine ⟨a, C, rfl, Z.T, Z.ft, upd_same, fun dx hd ne H' g1 g2 g3 => ⟨rfl, dx, _, g1, g2, by rw [upd_ne ne] at hd; exact hd, ?_⟩⟩
  have hd1 : H dx = none := by rw [upd_ne ne] at hd; exact hd
  have ef : upd (del H' a) dx (.xd [("text", .str msg)]) = upd H dx (.xd [("text", .str msg)]) := by
    funext b
    by_cases b1 : b = dx
    · subst b1; rw [upd_same, upd_same]
    · rw [upd_ne b1, upd_ne b1]
      by_cases b2 : b = a
      · subst b2; rw [ha]; unfold del; simp
      · have : del H' a b = H' b := by unfold del; rw [if_neg b2]
        rw [this, g3 b b2 b1, upd_ne b2]
  rw [ef]
  have t2 : Stt B G H G (upd H dx (.xd [("text", .str msg)])) := I.st.laid hd1
  exact l.xe ⟨C, [("text", .str ml)]⟩ G _ (some dx) (I.st.trans t2) (.inr ⟨dx, _, rfl, upd_same, rfl, .cons (rep_text hml) .nil, I.st.before hd1⟩) q

/-- x[n], x a name that holds what is new -/
def dIxN (i n : Nat) : DE := fun ρ _ R => match ρ[i]? with
  | some (.nw (.lst ds)) => ∃ d, ds[n]? = some d ∧ R d
  | _ => False
theorem xz_ixN {X : Cx} {E : XK} {i n j : Nat} {x : Str} {p p1 pos : Pos} (h : PE X (.Name x p) (tVar i)) (hs : PlainIx (.Constant (.int n) j p1) := by exact fun _ _ => rfl) : XEZ X E (.Subscript (.Name x p) (.Constant (.int n) j p1) pos) (dIxN i n) := .of (pe_ix ix_list h pe_int hs) fun B G0 H0 G H σ ρ I xe lx Q R k q => by
  unfold dIxN at q
  split at q
  · rename_i ds e
    obtain ⟨d, hd, q⟩ := q
    obtain ⟨o, h1, h2⟩ := pget I.sl e
    cases h2 with
    | nw r dn =>
      cases r with
      | @lst a vs _ a1 b1 =>
        obtain ⟨u, g1, g2⟩ := b1.get hd
        refine ⟨_, h1, _, vs, _, u, rfl, rfl, SqL.of (I.st.gh _ _ a1), atI_nat g1, ?_⟩
        exact k u G H d I.st.here g2 ((dn.inner a1).at g1 hd) q
  · exact q.elim
end DL

/-! x in a list of any data; d[k], d a dict that is data -/
namespace DL
open PySem PySem.Spec L2
open PyProof.Rows hiding St
def oInD : O2 := fun x y R => match y with
  | .lst xs => eqOk x ∧ eqOk (.lst xs) ∧ R (.bl (xs.any fun z => PyData.eqv (toPy z) (toPy x)))
  | _ => False
theorem simr_inD {K : PySem.W.Frag} : SimR K (rInD K) oInD := fun B G H x y d e s rx ry Q R k q => by
  unfold oInD at q
  split at q
  · rename_i xs
    obtain ⟨q1, q2, q3⟩ := q
    refine ⟨toPy d, toPys xs, rx.dp s.gh q1.1, ry.dp s.gh q2.1, q1.2, q2.2, k _ G H _ s (.bl _) ?_⟩
    rw [toPys_map, List.any_map]
    exact q3
  · exact q.elim
section
variable {X : Cx} {E : XK} {a b : Expr} {da db : DE} {pos : Pos} {k : Nat}
theorem xtInD (rg : RmG k X.A) (ha : XEx X E a da) (hb : XEx X E b db) (hm : behindInMarks .In b = false := by rfl) : XT X E (.Compare a [.In] [b] pos) (dTest (dOp oInD da db)) := xt_cmp (op_inD (by have := rg.rm.un; omega)) simr_inD ha hb hm
/-- d[k] -/
def dIxD (da db : DE) : DE := fun ρ xe R => da ρ xe fun x => db ρ xe fun y => match x with
  | .dct ks xs => ∃ k d, keyD y = some k ∧ getX ks xs k = some d ∧ R d
  | _ => False
theorem xIxD (hu : X.A.units + 1 < cLine) (ha : XEx X E a da) (hb : XEx X E b db) (hs : NoSl b := by intro _ _; rfl) : XEx X E (.Subscript a b pos) (dIxD da db) := .of (pe_dget hu ha.pe hb.pe hs) fun B G0 H0 G H σ ρ I xe lx Q R kk q => by
  refine sE B G0 H0 G H σ ρ I xe lx _ _ (fun v G1 H1 d t1 r1 z1 => ?_) q
  refine sE B G0 H0 G1 H1 σ ρ (I.step t1) xe lx _ _ (fun u G2 H2 e t2 r2 z2 => ?_) z1
  split at z2
  · rename_i ks xs
    obtain ⟨k, d, h1, h2, z3⟩ := z2
    cases r1 with
    | @dct a od kvs _ _ a1 hk b1 n =>
      have a2 : H2 a = some (.frz od (.dK kvs)) := (((I.step t1).step t2).st.gh _ _ (t2.gg _ _ a1))
      obtain ⟨w, g1, g2⟩ := (getX_ok (k := k) hk (b1.mono t2.gg)).1 d h2
      refine ⟨a, w, rfl, ?_, kk w G2 H2 d (t1.trans t2) g2 z3⟩
      rw [rep_key r2 h1, ← g1]
      exact .inl ⟨_, _, .inr ⟨_, a2⟩, rfl, rfl⟩
    | dct0 a1 => cases h2
  · exact z2.elim
end
end DL

/-! a, b, c = x, y, z -/
namespace DL
open PySem PySem.Spec L2
open PyProof.Rows hiding St
def dPar3 (i j k : Nat) (da db dc : DE) : DS := fun C ρ => da ρ C.xe fun x => db ρ C.xe fun y => dc ρ C.xe fun z => C.nx (((ρ.set i (.dd x)).set j (.dd y)).set k (.dd z))
theorem xs_par3 {X : Cx} {E : XK} {i j k : Nat} {x y z : Str} {a b c : Expr} {da db dc : DE} {px py pz pt pos : Pos} {kt k2 pt2} (hc : X.calm = true) (hN : X.N.Nodup) (hi : X.N[i]? = some x) (hj : X.N[j]? = some y) (hk : X.N[k]? = some z) (hij : i ≠ j) (hik : i ≠ k) (hjk : j ≠ k)
    (hx : X.env.scope.names.lookup x = some .local) (hy : X.env.scope.names.lookup y = some .local) (hz : X.env.scope.names.lookup z = some .local) (ha : XEx X E a da) (hb : XEx X E b db) (hd : XEx X E c dc)
    (hw : swappedStores [.Tuple [.Name x px, .Name y py, .Name z pz] kt pt] (.Tuple [a, b, c] k2 pt2) X.env = pure (some [x, y, z]) := by rfl)
    (hs : swapsWithSole [.Tuple [.Name x px, .Name y py, .Name z pz] kt pt] (.Tuple [a, b, c] k2 pt2) pos.line X.env = pure false := by rfl)
    (h1 : starEach [a, b, c] X.env = (false, eval a X.env) :: starEach [b, c] X.env := by rfl) (h2 : starEach [b, c] X.env = (false, eval b X.env) :: starEach [c] X.env := by rfl) (h3 : starEach [c] X.env = (false, eval c X.env) :: starEach [] X.env := by rfl) :
    XS X E (.Assign [.Tuple [.Name x px, .Name y py, .Name z pz] kt pt] (.Tuple [a, b, c] k2 pt2) pos) (dPar3 i j k da db dc) := .of (ps_par3 hc hN hi hj hk hij hik hjk hx hy hz (pa_cons ha.pe (pa_cons hb.pe (pa_cons hd.pe pa_nil h3) h2) h1) hw hs) fun B G0 H0 G H σ ρ I Gs sg D C l q =>
  sE B G0 H0 G H σ ρ I C.xe l.xe _ _ (fun v G1 H1 d t r z1 =>
    sE B G0 H0 G1 H1 σ ρ (I.step t) C.xe l.xe _ _ (fun u G2 H2 f t2 r2 z2 =>
      sE B G0 H0 G2 H2 σ ρ ((I.step t).step t2) C.xe l.xe _ _ (fun w G3 H3 g t3 r3 z3 => ⟨v, u, w, rfl, l.nx _ _ _ _ (((sg.trans t.gg).trans t2.gg).trans t3.gg) ((((((I.step t).step t2).step t3).set ((r.mono t2.gg).mono t3.gg)).set (r2.mono t3.gg)).set r3) z3⟩) z2) z1) q
end DL

/-! try .. except T: (no name) -/
namespace DL
open PySem PySem.Spec L2
open PyProof.Rows hiding St
def dTry0 (cls : List Addr) (n : Nat) (db dh : DS) : DS := fun C ρ =>
  db { C with xe := fun er => er.cls ∈ cls ∧ er.fs ≠ [] ∧ dh { C with nx := fun _ => False, bk := fun _ => False, ct := fun _ => False, xe := fun _ => False } (uns n) } ρ
theorem xs_try0 {X : Cx} {E : XK} {x : Str} {c : Value} {m : Nat} {body suite : List Stmt} {b₀ : Stmt} {np pos pos' : Pos} {cls : List Addr} {db dh : DS}
    (hs : X.stack = X.env :: X.outer) (hf : X.env.frame = some X.env.locals) (hm : X.N.length = m) (hc : Names X x c) (tk : Takes X fun c d _ H => E c d H)
    (hcl : ∀ D ∈ cls, ErF X.K c D)
    (hb : ∀ (E' : XK) (pn : List (Addr × Obj)) (xe : Value → Shared → Prop), Takes (X.tr pn xe) (fun c d _ H => E' c d H) → PassesOwn (model X.prog X.w) X.A X.env xe → XSs (X.tr pn xe) E' body db)
    (hsu : ∀ (a : Addr) (oe : Obj) (D dx : Addr) (pn : List (Addr × Obj)), D ∈ cls → ErF X.K c D → Zc (.ref D) (some dx) oe → (∃ vs, oe.data = .fields vs) → XSs (X.suite a ((a, oe) :: pn)) (fun _ _ _ => False) (b₀ :: suite) dh) :
    XS X E (.Try body [.ExceptHandler (some (.Name x np)) none (b₀ :: suite) pos'] [] [] pos) (dTry0 cls m db dh) := by
  let ts : Addr → Value → Option Addr → TS := fun a cv d D σ H => ∃ D0 dx, cv = .ref D0 ∧ d = some dx ∧ D0 ∈ cls ∧ cS X.K (fun _ _ _ => False) dh D σ H
  let EW : WX → XK := fun W c d H => ∀ σ : L2.St, σ.length = X.N.length → W c d σ H
  refine .of (ps_try_only (tb := fun W => cS X.K (EW W) db) (ts := ts) (Wout := fun c d _ H => E c d H) hs hf hc tk (fun W pn xe tkW po => (hb (EW W) pn xe (takes_mono tkW fun c d σ H hl h => h σ hl) po).ps) (fun a oe cv d pn hz hd => ⟨fun pins s σ H D I q => ?_⟩)) ?_
  · obtain ⟨D0, dx, e1, e2, hm', q⟩ := q
    subst e1; subst e2
    exact (hsu a oe D0 dx pn hm' (hcl D0 hm') hz hd).ps.run pins s σ H D I q
  · intro B G0 H0 G H σ ρ I Gs sg D C l q
    refine ⟨B, G0, H0, G, Gs, ρ, { C with xe := fun er => er.cls ∈ cls ∧ er.fs ≠ [] ∧ dh { C with nx := fun _ => False, bk := fun _ => False, ct := fun _ => False, xe := fun _ => False } (uns m) }, I, sg, ⟨l.nx, l.bk, l.ct, l.rt, fun er G' H' d st fo z => ?_, l.rf⟩, q⟩
    obtain ⟨z1, z2, z3⟩ := z
    rcases fo with fo | ⟨dx, fs, e1, e2, e3, e4, e5⟩
    · exact absurd fo z2
    subst e1
    intro σ' hl
    refine ⟨true, (hcl _ z1).mt, fun _ a ha => ?_, fun h => by cases h⟩
    obtain ⟨st2, sm⟩ := st.addx e2 e5
    refine ⟨er.cls, dx, rfl, rfl, z1, B, G0, H0, _, _, uns m, { C with nx := fun _ => False, bk := fun _ => False, ct := fun _ => False, xe := fun _ => False }, ⟨st2, ?_, ?_⟩, Same.refl _, ⟨fun _ _ _ _ _ _ z => z.elim, fun _ _ _ _ _ _ z => z.elim, fun _ _ _ _ _ _ z => z.elim, l.rt, fun _ _ _ _ _ _ z => z.elim, l.rf⟩, z3⟩
    · have P := sl_any (K := X.K) (B := B) (H0 := H0) (G := upd G' dx (.xd fs)) (H := H') σ'
      rw [hl, hm] at P
      exact P
    · intro j k p x y f1
      have := List.eq_of_mem_replicate (List.mem_of_getElem? f1)
      cases this
end DL

/-! [e for .. in .. for .. in ..], its items new -/
namespace DL
open PySem PySem.Spec L2
open PyProof.Rows hiding St
def slNo : Sl → Bool
  | .own _ => false
  | .odk _ _ => false
  | _ => true
def noOw (ρ : List Sl) : Bool := ρ.all slNo
theorem SlOk.move {K : PySem.W.Frag} {B : Option Addr} {H0 G H G' H' : Hp} {o : Option V} {s : Sl} (h : SlOk K B H0 G H o s) (n : slNo s = true) (g : Same G G') : SlOk K B H0 G' H' o s := by
  cases h with
  | un => exact .un
  | dd r => exact .dd (r.mono g)
  | bg e => exact .bg e
  | own _ _ _ _ _ => cases n
  | ex h =>
    rcases h with h | ⟨dx, fs, e1, e2, e3, e4⟩
    · exact .ex (.inl h)
    · exact .ex (.inr ⟨dx, fs, e1, g _ _ e2, e3, e4.mono g⟩)
  | nw r d => exact .nw (r.mono g) (d.mono (fun _ h => h) g)
  | pin r => exact .pin (r.mono g)
  | odk _ _ _ _ _ _ => cases n
  | fz a b c d => exact .fz (g _ _ a) (b.mono g) c d
theorem sl_move {K : PySem.W.Frag} {B : Option Addr} {H0 G H G' H' : Hp} (g : Same G G') : ∀ {σ : L2.St} {ρ : List Sl}, Paired (SlOk K B H0 G H) σ ρ → noOw ρ = true → Paired (SlOk K B H0 G' H') σ ρ
  | _, _, .nil, _ => .nil
  | _, _, .cons h t, n => by
    simp only [noOw, List.all_cons, Bool.and_eq_true] at n
    exact .cons (h.move n.1 g) (sl_move g t n.2)
theorem En.move {K : PySem.W.Frag} {B : Option Addr} {G0 H0 G H G' H' : Hp} {σ : L2.St} {ρ : List Sl} (I : En K B G0 H0 G H σ ρ) (n : noOw ρ = true) (st : Stt B G0 H0 G' H') (g : Same G G') : En K B G0 H0 G' H' σ ρ :=
  ⟨st, sl_move g I.sl n, I.ap⟩
structure lc2Body (dg : DG) (dt : DT) (di1 : DI) (dg1 : DG) (dt1 : DT) (de : DE) (vs vs1 : List Nat) (ρ : List Sl) (R : D → Prop) (items : List D) : Prop where
  go : ∃ W : Nat → List D → Prop, W 0 [] ∧
  (∀ (i : Nat) d acc, items[i]? = some d → W i acc → dg d (dwipe ρ vs) fun ρ2 => dt ρ2 (fun _ => False) fun k => ifB k (noOw ρ2 = true ∧ di1 ρ2 (fun _ => False) fun items1 => ∃ W1 : Nat → List D → Prop, W1 0 acc ∧
     (∀ (j : Nat) d1 acc1, items1[j]? = some d1 → W1 j acc1 → dg1 d1 (dwipe ρ2 vs1) fun ρ3 => dt1 ρ3 (fun _ => False) fun k1 => ifB k1 (de ρ3 (fun _ => False) fun y => acc1.length < sizeLine ∧ W1 (j + 1) (acc1 ++ [y])) (W1 (j + 1) acc1)) ∧
     ∀ acc1, W1 items1.length acc1 → W (i + 1) acc1) (W (i + 1) acc)) ∧
  ∀ acc, W items.length acc → R (.lst acc)
def dLc2 (di : DI) (dg : DG) (dt : DT) (di1 : DI) (dg1 : DG) (dt1 : DT) (de : DE) (vs vs1 : List Nat) : DE := fun ρ xe R => di ρ xe (lc2Body dg dt di1 dg1 dt1 de vs vs1 ρ R)
theorem sim_lc2N {K : PySem.W.Frag} {E : XK} {wi wi1 : TI} {di di1 : DI} {g g1 : TG} {dg dg1 : DG} {vs vs1 : List Nat} {tt tt1 : TT} {dt dt1 : DT} {te : TE} {de : DE} (hi : SimI K E wi di) (hg : SimG K g dg vs) (ht : SimT K E0 tt dt) (hi1 : SimI K E0 wi1 di1) (hg1 : SimG K g1 dg1 vs1) (ht1 : SimT K E0 tt1 dt1) (he : SimEF K E0 te de) :
    SimEF K E (tLc2 wi g tt wi1 g1 tt1 te vs vs1) (dLc2 di dg dt di1 dg1 dt1 de vs vs1) :=
  fun B G0 H0 G H σ ρ I xe lx Q R k q => by
    refine hi B G0 H0 G H σ ρ I xe lx _ _ (fun J G1 H1 items t jok z => ?_) q
    obtain ⟨W, w0, hs, hd⟩ := z
    intro D hD
    have I1 := I.step t
    have tD : Stt B G1 H1 G1 (upd H1 D (.lst [])) := I1.st.laid hD
    have g1D : G1 D = none := I1.st.gfree hD
    have nbD : B ≠ some D := fun e => by
      obtain ⟨_, _, _, _, _, _, h, _⟩ := I1.st.bag D e
      rw [hD] at h; cases h
    have put : ∀ {G2 H2 : Hp} {ws : List V}, Stt B G1 H1 G2 H2 → G2 D = none → Stt B G1 H1 G2 (upd H2 D (.lst ws)) := fun {G2 H2 ws} s g => by
      refine ⟨s.gg, fun a u h => ?_, fun a u n h => ?_, s.fr, fun b e => ?_, fun b e => ?_⟩
      · rw [upd_ne (ne_of_none h g)]; exact s.gh a u h
      · rw [upd_ne (ne_of_none h hD)]; exact s.hh a u n h
      · obtain ⟨g0, n, sd, j, c, cells, k1, k2, r⟩ := s.bag b e
        exact ⟨g0, n, sd, j, c, cells, by rw [upd_ne (fun z => nbD (by rw [e, z]))]; exact k1, k2, r⟩
      · rw [← s.bc b e]; unfold bagC; rw [upd_ne (fun z => nbD (by rw [e, z]))]
    have keepD : ∀ {G2 H2 G3 H3 : Hp} {ws : List V}, Stt B G2 H2 G3 H3 → G2 D = none → H2 D = some (.lst ws) → G3 D = none ∧ H3 D = some (.lst ws) := fun {G2 H2 G3 H3 ws} s g h => by
      refine ⟨?_, s.hh _ _ (fun z => nbD z.symm) h⟩
      cases z : G3 D with
      | none => rfl
      | some u =>
        rcases s.fr D u z with q | q
        · rw [g] at q; cases q
        · rw [h] at q; cases q
    refine ⟨fun i m H' => m = items.length - i ∧ i ≤ items.length ∧ ∃ G' acc vacc, Stt B G1 H1 G' H' ∧ G' D = none ∧ H' D = some (.lst vacc) ∧ Reps K G' vacc acc ∧ DNs K H1 G' vacc acc ∧ W i acc,
      ⟨items.length, by simp, Nat.zero_le _, G1, [], [], tD, g1D, upd_same, .nil, .nil, w0⟩, ?_⟩
    rintro i m H' ⟨rfl, hle, G', acc, vacc, t', gD, hDv, ra, na, w⟩
    have jk := jok G' H' t'.gg t'.gh t'.bag i
    by_cases hlt : i < items.length
    · obtain ⟨go, yl⟩ := jk.1 items[i] (List.getElem?_eq_getElem hlt)
      refine .inr ⟨go, fun H2 => ∃ G2 acc2 vacc2, Stt B G1 H1 G2 H2 ∧ G2 D = none ∧ H2 D = some (.lst vacc2) ∧ Reps K G2 vacc2 acc2 ∧ DNs K H1 G2 vacc2 acc2 ∧ W (i + 1) acc2,
        fun H2 ⟨G2, acc2, vacc2, x1, x2, x3, x4, x5, x6⟩ => ⟨items.length - (i + 1), by omega, rfl, hlt, G2, acc2, vacc2, x1, x2, x3, x4, x5, x6⟩, fun x H2 y => ?_⟩
      obtain ⟨G2, t2, r2⟩ := yl x H2 y
      obtain ⟨g2D, h2D⟩ := keepD t2 gD hDv
      have Iw : En K B G0 H0 G2 H2 (L2.wipe σ vs) (dwipe ρ vs) := ((I1.step t').step t2).wipe vs
      refine hg B G0 H0 G2 H2 _ _ x _ Iw r2 _ _ (fun σ3 ρ3 I3 ew z => ?_) (hs i _ acc (List.getElem?_eq_getElem hlt) w)
      refine ⟨by rw [ew]; exact wipe_wipe, ?_⟩
      refine ht B G0 H0 G2 H2 σ3 ρ3 I3 _ noX _ _ (fun b G4 H4 t4 z4 => ?_) z
      obtain ⟨g4D, h4D⟩ := keepD t4 g2D h2D
      have s4 : Stt B G1 H1 G4 H4 := (t'.trans t2).trans t4
      have m4 : Same G' G4 := t2.gg.trans t4.gg
      cases b with
      | false => exact ⟨G4, acc, vacc, s4, g4D, h4D, ra.mono m4, na.mono (fun _ h => h) m4, z4⟩
      | true =>
        obtain ⟨nz, z4⟩ := z4
        have I4 := I3.step t4
        show wi1 σ3 H4 _
        refine hi1 B G0 H0 G4 H4 σ3 ρ3 I4 _ noX _ _ (fun J1 G5 H5 items1 t5 jok1 z5 => ?_) z4
        obtain ⟨W1, w10, hs1, hd1⟩ := z5
        obtain ⟨g5D, h5D⟩ := keepD t5 g4D h4D
        have s5 : Stt B G1 H1 G5 H5 := s4.trans t5
        have m5 : Same G' G5 := m4.trans t5.gg
        refine ⟨fun j k H6 => k = items1.length - j ∧ j ≤ items1.length ∧ ∃ G6 acc6 vacc6, Stt B G1 H1 G6 H6 ∧ Same G5 G6 ∧ G6 D = none ∧ H6 D = some (.lst vacc6) ∧ Reps K G6 vacc6 acc6 ∧ DNs K H1 G6 vacc6 acc6 ∧ W1 j acc6,
          ⟨items1.length, by simp, Nat.zero_le _, G5, acc, vacc, s5, Same.refl _, g5D, h5D, ra.mono m5, na.mono (fun _ h => h) m5, w10⟩, ?_⟩
        rintro j k6 H6 ⟨rfl, hle1, G6, acc6, vacc6, t6, m6, g6D, h6D, r6, n6, w6⟩
        have jk1 := jok1 G6 H6 m6 t6.gh t6.bag j
        by_cases hlt1 : j < items1.length
        · obtain ⟨go1, yl1⟩ := jk1.1 items1[j] (List.getElem?_eq_getElem hlt1)
          refine .inr ⟨go1, fun H7 => ∃ G7 acc7 vacc7, Stt B G1 H1 G7 H7 ∧ Same G5 G7 ∧ G7 D = none ∧ H7 D = some (.lst vacc7) ∧ Reps K G7 vacc7 acc7 ∧ DNs K H1 G7 vacc7 acc7 ∧ W1 (j + 1) acc7,
            fun H7 ⟨G7, acc7, vacc7, x1, x2, x3, x4, x5, x6, x7⟩ => ⟨items1.length - (j + 1), by omega, rfl, hlt1, G7, acc7, vacc7, x1, x2, x3, x4, x5, x6, x7⟩, fun x1 H7 y1 => ?_⟩
          obtain ⟨G7, t7, r7⟩ := yl1 x1 H7 y1
          obtain ⟨g7D, h7D⟩ := keepD t7 g6D h6D
          have s7 : Stt B G1 H1 G7 H7 := t6.trans t7
          have I7 : En K B G0 H0 G7 H7 (L2.wipe σ3 vs1) (dwipe ρ3 vs1) := (I4.move nz (I1.st.trans s7) ((t5.gg.trans m6).trans t7.gg)).wipe vs1
          refine hg1 B G0 H0 G7 H7 _ _ x1 _ I7 r7 _ _ (fun σ8 ρ8 I8 ew1 z8 => ?_) (hs1 j _ acc6 (List.getElem?_eq_getElem hlt1) w6)
          refine ⟨by rw [ew1]; exact wipe_wipe, ?_⟩
          refine ht1 B G0 H0 G7 H7 σ8 ρ8 I8 _ noX _ _ (fun b1 G9 H9 t9 z9 => ?_) z8
          obtain ⟨g9D, h9D⟩ := keepD t9 g7D h7D
          have s9 : Stt B G1 H1 G9 H9 := s7.trans t9
          have m9 : Same G6 G9 := t7.gg.trans t9.gg
          cases b1 with
          | false => exact ⟨G9, acc6, vacc6, s9, m6.trans m9, g9D, h9D, r6.mono m9, n6.mono (fun _ h => h) m9, z9⟩
          | true =>
            show te σ8 H9 _
            refine he B G0 H0 G9 H9 σ8 ρ8 (I8.step t9) _ noX _ _ (fun v Ga Ha d ta rva na' za => ?_) z9
            obtain ⟨gaD, haD⟩ := keepD ta g9D h9D
            have sa : Stt B G1 H1 Ga Ha := s9.trans ta
            have ma : Same G6 Ga := m9.trans ta.gg
            exact ⟨vacc6, haD, by rw [r6.length]; exact za.1, Ga, acc6 ++ [d], vacc6 ++ [v], put sa gaD, m6.trans ma, gaD, upd_same, (r6.mono ma).append (.cons rva .nil), (n6.mono (fun _ h => h) ma).new (na'.mono (fun _ h => s9.before h) (Same.refl _)), za.2⟩
        · have e : j = items1.length := by omega
          subst e
          exact .inl ⟨jk1.2 (Nat.le_refl _), G6, acc6, vacc6, t6, g6D, h6D, r6, n6, hd1 acc6 w6⟩
    · have e : i = items.length := by omega
      subst e
      refine .inl ⟨jk.2 (Nat.le_refl _), ?_⟩
      have sm : Same G' (upd G' D (.lst vacc)) := fun a u h => by rw [upd_ne (ne_of_none h gD)]; exact h
      refine k _ (upd G' D (.lst vacc)) H' (.lst acc) ?_ (.lst upd_same (ra.mono sm)) (.lst (t.before hD) upd_same (na.mono (fun _ h => t.before h) sm)) (hd acc w)
      refine t.trans ⟨t'.gg.trans sm, fun a u h => ?_, t'.hh, fun a u h => ?_, fun b e => ?_, t'.bc⟩
      · by_cases z : a = D
        · subst z; rw [upd_same] at h; cases h; exact hDv
        · rw [upd_ne z] at h; exact t'.gh a u h
      · by_cases z : a = D
        · subst z; exact .inr hD
        · rw [upd_ne z] at h; exact t'.fr a u h
      · obtain ⟨g0, n, sd, j, c, cells, k1, k2, r⟩ := t'.bag b e
        exact ⟨by rw [upd_ne (fun z => nbD (by rw [e, z]))]; exact g0, n, sd, j, c, cells, k1, sm _ _ k2, r⟩
theorem xs_setLc2N {X : Cx} {E : XK} {i : Nat} {y : Str} {py : Pos} {elt tg iter tg1 iter1 : Expr} {ifs ifs1 : List Expr} {scope : Scope} {own : List (Str × Nat)} {vs1 : List Nat} {pos spos : Pos} {wi wi1 : TI} {di di1 : DI} {g g1 : TG} {dg dg1 : DG} {dt dt1 : DT} {de : DE} (hc : X.calm = true) (hN : X.N.Nodup) (hy : X.N[i]? = some y) (hyl : X.env.scope.names.lookup y = some .local)
    (hsw : swapsWith (.ListComp elt [⟨tg, iter, ifs, 0⟩, ⟨tg1, iter1, ifs1, 0⟩] scope pos) (some (.Name y py)) spos.line X.env = pure true) (hi : XI X E tg iter wi di) (ok : BlkOk X.N X.env.scope scope own) (hv : ∀ i ∈ vs1, i ∈ own.map (·.2))
    (hg : ∀ (s : Shared) (H : Hp) (C : Addr) (cl : List (Str × Addr)) (fp : List Addr), PG (X.blk s H scope (compEnvC scope cl C X.env) fp) tg g) (sg : SimG X.K g dg (own.map (·.2)))
    (ht : ∀ (s : Shared) (H : Hp) (C : Addr) (cl : List (Str × Addr)) (fp : List Addr), XTs (X.blk s H scope (compEnvC scope cl C X.env) fp) E0 ifs dt)
    (hi1 : ∀ (s : Shared) (H : Hp) (C : Addr) (cl : List (Str × Addr)) (fp : List Addr), XI (X.blk s H scope (compEnvC scope cl C X.env) fp) E0 tg1 iter1 wi1 di1)
    (hg1 : ∀ (s : Shared) (H : Hp) (C : Addr) (cl : List (Str × Addr)) (fp : List Addr), PG (X.blk s H scope (compEnvC scope cl C X.env) fp) tg1 g1) (sg1 : SimG X.K g1 dg1 vs1)
    (ht1 : ∀ (s : Shared) (H : Hp) (C : Addr) (cl : List (Str × Addr)) (fp : List Addr), XTs (X.blk s H scope (compEnvC scope cl C X.env) fp) E0 ifs1 dt1)
    (he : ∀ (s : Shared) (H : Hp) (C : Addr) (cl : List (Str × Addr)) (fp : List Addr), XEF (X.blk s H scope (compEnvC scope cl C X.env) fp) E0 elt de) (hs : ∀ x, foldedSetIterable iter X.env x = pure x := by intro _; rfl) (hs1 : ∀ env x, foldedSetIterable iter1 env x = pure x := by intro _ _; rfl) (sI1 : SimI X.K E0 wi1 di1) :
    XS X E (.Assign [.Name y py] (.ListComp elt [⟨tg, iter, ifs, 0⟩, ⟨tg1, iter1, ifs1, 0⟩] scope pos) spos) (dAsgN i (dLc2 di dg dt di1 dg1 dt1 de (own.map (·.2)) vs1)) :=
  .of (ps_setLc2 hc hN hy hyl hsw hi.pi ok hv hg (fun s H C cl fp => (ht s H C cl fp).pts) (fun s H C cl fp => (hi1 s H C cl fp).pi) hg1 (fun s H C cl fp => (ht1 s H C cl fp).pts) (fun s H C cl fp => (he s H C cl fp).pe) hs hs1) fun B G0 H0 G H σ ρ I Gs sg' D C l q =>
    sim_lc2N hi.sim sg sT sI1 sg1 sT sEF B G0 H0 G H σ ρ I C.xe l.xe _ _ (fun v G' H' d t r n z => l.nx G' H' _ _ (sg'.trans t.gg) ((I.step t).setS (.nw r (n.mono (fun _ h => I.st.before h) (Same.refl _))) (fun _ z => by cases z)) z) q
end DL

/-! [e for a, b in f(..)], f's result new: its pieces too -/
namespace DL
open PySem PySem.Spec L2
open PyProof.Rows hiding St
def JOkN (K : PySem.W.Frag) (B : Option Addr) (J : It) (items : List D) (Hn G H : Hp) : Prop := ∀ G' H', Same G G' → Same G' H' → BagO B G' H' → ∀ i : Nat,
  (∀ d, items[i]? = some d → J.go i H' ∧ ∀ x H'', J.yld i H' x H'' → ∃ G'', Stt B G' H' G'' H'' ∧ Rep K G'' x d ∧ DN K Hn G'' x d) ∧ (items.length ≤ i → J.stop i H')
def SimIN (K : PySem.W.Frag) (E : XK) (wi : TI) (di : DI) : Prop := ∀ (B : Option Addr) (G0 H0 G H : Hp) (σ : L2.St) (ρ : List Sl), En K B G0 H0 G H σ ρ → ∀ xe : XE, LinkX K B G0 H0 E xe → ∀ (R : It → Hp → Prop) (RR : List D → Prop),
  (∀ J G' H' items, Stt B G H G' H' → JOkN K B J items H0 G' H' → RR items → R J H') → di ρ xe RR → wi σ H R
theorem jok_listN {K : PySem.W.Frag} {B : Option Addr} {Hn G H : Hp} {a : Addr} {vs : List V} {ds : List D} (h : G a = some (.lst vs)) (r : Reps K G vs ds) (n : DNs K Hn G vs ds) : JOkN K B (Itl K a) ds Hn G H := fun G' H' s1 s2 bg i => by
  have hl : SqL K H' a vs := SqL.of (s2 _ _ (s1 _ _ h))
  refine ⟨fun d e => ?_, fun l => ⟨vs, hl, by rw [r.length]; exact l⟩⟩
  obtain ⟨v, e1, e2⟩ := r.get e
  refine ⟨⟨vs, v, hl, e1⟩, fun x H'' y => ?_⟩
  obtain ⟨rfl, f⟩ := y
  have := f vs hl
  rw [e1] at this
  cases this
  exact ⟨G', Stt.refl s2 bg, e2.mono s1, (n.at e1 e).mono (fun _ h => h) s1⟩
structure XIN (X : Cx) (E : XK) (tg iter : Expr) (wi : TI) (di : DI) : Prop where
  pi : PI X tg iter wi
  sim : SimIN X.K E wi di
theorem xi_listN {X : Cx} {E : XK} {e tg : Expr} {de : DE} (h : XEZ X E e de) : XIN X E tg e (iList X.K (cEZ X.K E de)) (dItems de) := ⟨pi_list h.pe, fun B G0 H0 G H σ ρ I xe lx R RR k q => sEZ B G0 H0 G H σ ρ I xe lx _ _ (fun v G' H' d t r n z => by
  split at z
  · cases r with
    | lst a1 b1 => exact ⟨_, rfl, ⟨_, SqL.of (t.gh _ _ a1)⟩, k _ _ _ _ t (jok_listN a1 b1 (n.inner a1)) z⟩
  · exact z.elim) q⟩
def SimGN (K : PySem.W.Frag) (g : TG) (dg : DG) (vs : List Nat) : Prop := ∀ (B : Option Addr) (G0 H0 G H : Hp) (σ : L2.St) (ρ : List Sl) (v : V) (d : D), En K B G0 H0 G H σ ρ → Rep K G v d → DN K H0 G v d → ∀ (Q : L2.St → Hp → Prop) (R : List Sl → Prop),
  (∀ σ' ρ', En K B G0 H0 G H σ' ρ' → wipe σ' vs = wipe σ vs → R ρ' → Q σ' H) → dg d ρ R → g v σ H Q
def dgNameN (i : Nat) : DG := fun d ρ R => R (ρ.set i (.nw d))
def dgPairN (i j : Nat) : DG := fun d ρ R => match d with
  | .tup [x, y] => R ((ρ.set i (.nw x)).set j (.nw y))
  | _ => False
theorem simg_nameN {K : PySem.W.Frag} {i : Nat} {vs : List Nat} (h : i ∈ vs) : SimGN K (gName i) (dgNameN i) vs := fun B G0 H0 G H σ ρ v d I r n Q R k q => k _ _ (I.setS (.nw r n) (fun _ z => by cases z)) (wipe_set h) q
theorem simg_pairN {K : PySem.W.Frag} {i j : Nat} {vs : List Nat} (h : i ∈ vs) (h' : j ∈ vs) : SimGN K (gTup K 2 (gCons (gName i) (gCons (gName j) gNil))) (dgPairN i j) vs := fun B G0 H0 G H σ ρ v d I r n Q R k q => by
  unfold dgPairN at q
  split at q
  · cases r with
    | @tup _ ws _ a b =>
      rename_i dx dy _
      have nn : DNs K H0 G ws [dx, dy] := by
        cases n with
        | flat f => exact DNs.flat b.length (by simpa only [nol] using f)
        | tup x z => rw [a] at x; cases x; exact z
      cases b with
      | cons r1 b =>
        cases b with
        | cons r2 b =>
          cases b
          cases nn with
          | cons n1 nn =>
            cases nn with
            | cons n2 nn =>
              refine ⟨_, _, rfl, SqT.of (I.st.gh _ _ a), rfl, _, _, rfl, _, _, rfl, rfl, ?_⟩
              exact k _ _ ((I.setS (.nw r1 n1) (fun _ z => by cases z)).setS (.nw r2 n2) (fun _ z => by cases z)) (by rw [wipe_set h', wipe_set h]) q
  · exact q.elim
theorem sim_lcZ {K : PySem.W.Frag} {E : XK} {wi : TI} {di : DI} {g : TG} {dg : DG} {vs : List Nat} {tt : TT} {dt : DT} {te : TE} {de : DE} (hi : SimIN K E wi di) (hg : SimGN K g dg vs) (ht : SimT K E0 tt dt) (he : SimEZ K E0 te de) : SimEZ K E (tLc wi g tt te vs) (dLc di dg dt de vs) :=
  fun B G0 H0 G H σ ρ I xe lx Q R k q => by
    refine hi B G0 H0 G H σ ρ I xe lx _ _ (fun J G1 H1 items t jok z => ?_) q
    obtain ⟨zl, W, w0, hs, hd⟩ := z
    intro D hD
    have I1 := I.step t
    have tD : Stt B G1 H1 G1 (upd H1 D (.lst [])) := I1.st.laid hD
    have g1D : G1 D = none := I1.st.gfree hD
    have nbD : B ≠ some D := fun e => by
      obtain ⟨_, _, _, _, _, _, h, _⟩ := I1.st.bag D e
      rw [hD] at h; cases h
    refine ⟨fun i m H' => m = items.length - i ∧ i ≤ items.length ∧ ∃ G' acc vacc, Stt B G1 H1 G' H' ∧ G' D = none ∧ H' D = some (.lst vacc) ∧ Reps K G' vacc acc ∧ DNs K H0 G' vacc acc ∧ acc.length ≤ i ∧ W i acc,
      ⟨items.length, by simp, Nat.zero_le _, G1, [], [], tD, g1D, upd_same, .nil, .nil, Nat.le_refl _, w0⟩, ?_⟩
    rintro i m H' ⟨rfl, hle, G', acc, vacc, t', gD, hDv, ra, na, la, w⟩
    have jk := jok G' H' t'.gg t'.gh t'.bag i
    have put : ∀ {G2 H2 : Hp} {ws : List V}, Stt B G1 H1 G2 H2 → G2 D = none → Stt B G1 H1 G2 (upd H2 D (.lst ws)) := fun {G2 H2 ws} s g => by
      refine ⟨s.gg, fun a u h => ?_, fun a u n h => ?_, s.fr, fun b e => ?_, fun b e => ?_⟩
      · rw [upd_ne (ne_of_none h g)]; exact s.gh a u h
      · rw [upd_ne (ne_of_none h hD)]; exact s.hh a u n h
      · obtain ⟨g0, n, sd, j, c, cells, k1, k2, r⟩ := s.bag b e
        exact ⟨g0, n, sd, j, c, cells, by rw [upd_ne (fun z => nbD (by rw [e, z]))]; exact k1, k2, r⟩
      · rw [← s.bc b e]; unfold bagC; rw [upd_ne (fun z => nbD (by rw [e, z]))]
    have keepD : ∀ {G2 H2 G3 H3 : Hp} {ws : List V}, Stt B G2 H2 G3 H3 → G2 D = none → H2 D = some (.lst ws) → G3 D = none ∧ H3 D = some (.lst ws) := fun {G2 H2 G3 H3 ws} s g h => by
      refine ⟨?_, s.hh _ _ (fun z => nbD z.symm) h⟩
      cases z : G3 D with
      | none => rfl
      | some u =>
        rcases s.fr D u z with q | q
        · rw [g] at q; cases q
        · rw [h] at q; cases q
    by_cases hlt : i < items.length
    · obtain ⟨go, yl⟩ := jk.1 items[i] (List.getElem?_eq_getElem hlt)
      refine .inr ⟨go, fun H2 => ∃ G2 acc2 vacc2, Stt B G1 H1 G2 H2 ∧ G2 D = none ∧ H2 D = some (.lst vacc2) ∧ Reps K G2 vacc2 acc2 ∧ DNs K H0 G2 vacc2 acc2 ∧ acc2.length ≤ i + 1 ∧ W (i + 1) acc2,
        fun H2 ⟨G2, acc2, vacc2, x1, x2, x3, x4, x5, x6, x7⟩ => ⟨items.length - (i + 1), by omega, rfl, hlt, G2, acc2, vacc2, x1, x2, x3, x4, x5, x6, x7⟩, fun x H2 y => ?_⟩
      obtain ⟨G2, t2, r2, n2⟩ := yl x H2 y
      obtain ⟨g2D, h2D⟩ := keepD t2 gD hDv
      have Iw : En K B G0 H0 G2 H2 (L2.wipe σ vs) (dwipe ρ vs) := ((I1.step t').step t2).wipe vs
      refine hg B G0 H0 G2 H2 _ _ x _ Iw r2 n2 _ _ (fun σ3 ρ3 I3 ew z => ?_) (hs i _ acc (List.getElem?_eq_getElem hlt) la w)
      refine ⟨by rw [ew]; exact wipe_wipe, ?_⟩
      refine ht B G0 H0 G2 H2 σ3 ρ3 I3 _ noX _ _ (fun b G4 H4 t4 z4 => ?_) z
      obtain ⟨g4D, h4D⟩ := keepD t4 g2D h2D
      cases b with
      | true =>
        show te σ3 H4 _
        refine he B G0 H0 G4 H4 σ3 ρ3 (I3.step t4) _ noX _ _ (fun v G5 H5 d t5 r5 n5 z5 => ?_) z4
        obtain ⟨g5D, h5D⟩ := keepD t5 g4D h4D
        have s4 : Stt B G1 H1 G4 H4 := (t'.trans t2).trans t4
        have all : Stt B G1 H1 G5 H5 := s4.trans t5
        have gg5 : Same G' G5 := (t2.gg.trans t4.gg).trans t5.gg
        refine ⟨vacc, h5D, ?_, G5, acc ++ [d], vacc ++ [v], put all g5D, g5D, upd_same, (ra.mono gg5).append (.cons r5 .nil), (na.mono (fun _ h => h) gg5).new n5, by rw [List.length_append]; simp; omega, z5⟩
        rw [ra.length]; omega
      | false =>
        exact ⟨G4, acc, vacc, (t'.trans t2).trans t4, g4D, h4D, ra.mono (t2.gg.trans t4.gg), na.mono (fun _ h => h) (t2.gg.trans t4.gg), by omega, z4⟩
    · have e : i = items.length := by omega
      subst e
      refine .inl ⟨jk.2 (Nat.le_refl _), ?_⟩
      have sm : Same G' (upd G' D (.lst vacc)) := fun a u h => by rw [upd_ne (ne_of_none h gD)]; exact h
      refine k _ (upd G' D (.lst vacc)) H' (.lst acc) ?_ (.lst upd_same (ra.mono sm)) (.lst (I1.st.before hD) upd_same (na.mono (fun _ h => h) sm)) (hd acc la w)
      refine t.trans ⟨t'.gg.trans sm, fun a u h => ?_, t'.hh, fun a u h => ?_, fun b e => ?_, t'.bc⟩
      · by_cases z : a = D
        · subst z; rw [upd_same] at h; cases h; exact hDv
        · rw [upd_ne z] at h; exact t'.gh a u h
      · by_cases z : a = D
        · subst z; exact .inr hD
        · rw [upd_ne z] at h; exact t'.fr a u h
      · obtain ⟨g0, n, sd, j, c, cells, k1, k2, r⟩ := t'.bag b e
        exact ⟨by rw [upd_ne (fun z => nbD (by rw [e, z]))]; exact g0, n, sd, j, c, cells, k1, sm _ _ k2, r⟩
theorem xzLc {X : Cx} {E : XK} {elt tg iter : Expr} {ifs : List Expr} {scope : Scope} {own : List (Str × Nat)} {pos : Pos} {wi : TI} {di : DI} {g : TG} {dg : DG} {dt : DT} {de : DE} (hc : X.calm = true) (hN : X.N.Nodup) (hi : XIN X E tg iter wi di) (ok : BlkOk X.N X.env.scope scope own)
    (hg : ∀ (s : Shared) (H : Hp) (C : Addr) (cl : List (Str × Addr)) (fp : List Addr), PG (X.blk s H scope (compEnvC scope cl C X.env) fp) tg g) (sg : SimGN X.K g dg (own.map (·.2)))
    (ht : ∀ (s : Shared) (H : Hp) (C : Addr) (cl : List (Str × Addr)) (fp : List Addr), XTs (X.blk s H scope (compEnvC scope cl C X.env) fp) E0 ifs dt)
    (he : ∀ (s : Shared) (H : Hp) (C : Addr) (cl : List (Str × Addr)) (fp : List Addr), XEZ (X.blk s H scope (compEnvC scope cl C X.env) fp) E0 elt de) (hs : ∀ x, foldedSetIterable iter X.env x = pure x := by intro _; rfl) :
    XEZ X E (.ListComp elt [⟨tg, iter, ifs, 0⟩] scope pos) (dLc di dg dt de (own.map (·.2))) :=
  .of (pe_lc hc hN hi.pi ok hg (fun s H C cl fp => (ht s H C cl fp).pts) (fun s H C cl fp => (he s H C cl fp).pe) hs) (sim_lcZ hi.sim sg sT sEZ)
end DL

namespace DL
open PySem PySem.Spec L2
open PyProof.Rows hiding St
theorem sim_rng1 {K : PySem.W.Frag} {E : XK} {da : DA} : SimI K E (iRng1 (cA K E da)) (dRng1 da) := fun B G0 H0 G H σ ρ I xe lx R RR k q => sA B G0 H0 G H σ ρ I xe lx _ _ (fun vs G' H' ds t r z => by
    split at z
    · cases r with
      | cons r1 r =>
        cases r; cases r1
        exact ⟨_, rfl, z.1, z.2.1, k _ _ _ _ t jok_rng z.2.2⟩
    · exact z.elim) q
end DL

namespace DL
open PySem PySem.Spec L2
open PyProof.Rows hiding St
open PySem.W (minD maxD dataLt AlikeAll EachIs min_list_data max_list_data reads_keeps)

/-! ### min(list), max(list), any data that can be compared -/
def rBest (K : PySem.W.Frag) (f : PyData → List PyData → PyData) : List V → Hp → VK → Prop := fun vs H Q => ∃ (a : Addr) (p : V × D) (ps : List (V × D)), vs = [V.ref a] ∧ SqL K H a ((p :: ps).map (·.1)) ∧ (∀ q ∈ p :: ps, Dp K H q.1 (toPy q.2)) ∧ AlikeAll ((p :: ps).map encP) ∧ (∀ q ∈ p :: ps, (encP q).depth ≤ 50) ∧ ∀ q ∈ p :: ps, encP q = f (encP p) (ps.map encP) → Q q.1 H
theorem each_reads {h : Heap} : ∀ {us : List Value} {ps : List (V × D)}, EachIs (fun u p => ∃ as, Reads h u (encP p) as) us ps → ∃ as, ReadsAll h us (ps.map encP) as
  | _, _, .nil => ⟨_, .nil⟩
  | _, _, .cons ⟨_, h⟩ t => by
    obtain ⟨bs, hb⟩ := each_reads t
    exact ⟨_, .cons h hb⟩
theorem each_at {R : Value → V × D → Prop} : ∀ {us : List Value} {ps : List (V × D)} {i : Nat} {v : Value}, EachIs R us ps → us[i]? = some v → ∃ p, p ∈ ps ∧ R v p
  | _, _, _, _, .nil, h => by simp at h
  | _, _, 0, _, .cons a t, h => by
    simp only [List.getElem?_cons_zero, Option.some.injEq] at h
    subst h
    exact ⟨_, List.mem_cons_self, a⟩
  | _, _, i + 1, _, .cons a t, h => by
    rw [List.getElem?_cons_succ] at h
    obtain ⟨p, hp, r⟩ := each_at t h
    exact ⟨p, List.mem_cons_of_mem _ hp, r⟩
theorem each_and {R T : Value → V × D → Prop} : ∀ {us : List Value} {ps : List (V × D)}, EachIs R us ps → EachIs T us ps → EachIs (fun u p => R u p ∧ T u p) us ps
  | _, _, .nil, _ => .nil
  | _, _, .cons a t, .cons b u => .cons ⟨a, b⟩ (each_and t u)
theorem depthAll_le {n : Nat} : ∀ {xs : List PyData}, (∀ x ∈ xs, x.depth ≤ n) → PyData.depthAll xs ≤ n
  | [], _ => Nat.zero_le _
  | x :: xs, h => by
    show max x.depth (PyData.depthAll xs) ≤ n
    have := h x List.mem_cons_self
    have := depthAll_le (xs := xs) fun y hy => h y (List.mem_cons_of_mem _ hy)
    omega
section
variable {X : Cx} {k : Nat}
theorem cr_minD (hc : X.calm = true) (hu : X.A.units + 64 < cLine) : CallR X (.builtin "min") (rBest X.K minD) := by
  intro pins s σ H vs us Q I r h
  obtain ⟨a, p, ps, rfl, hs, hd, ha, h5, q⟩ := h
  obtain ⟨its, rv, pl, hz⟩ := I.list hs
  rw [Vals.ref1 r]
  have e : EachIs (fun u p => RelV p.1 u) its (p :: ps) := vals_each rv
  have e2 : EachIs (fun u p => RelV p.1 u ∧ ∃ as, Reads s.heap u (encP p) as) its (p :: ps) := each_all e fun u p m rx => ⟨rx, Dp.reads I _ _ _ (hd p m) rx⟩
  obtain ⟨as, hr⟩ := each_reads (each_all e2 fun u p m rx => rx.2)
  refine min_list_data (I.ok.hd hc) pl.isList (by simpa using hr) ha ?_ fun i v h' tk bs hv hm hk => ?_
  · have := depthAll_le (n := 50) (xs := (p :: ps).map encP) fun x hx => by
      obtain ⟨q, hq, rfl⟩ := List.mem_map.mp hx
      exact h5 q hq
    have e : PyData.depthAll (encP p :: ps.map encP) ≤ 50 := this
    omega
  · obtain ⟨q', hq', rq, as', rr⟩ := each_at e2 (by simpa using hv)
    have u := (reads_keeps hk rr).unique _ _ hm
    exact ⟨q'.1, H, I.kept (t' := tk) hk, rq, q q' hq' u.1⟩
theorem cr_maxD (hc : X.calm = true) (hu : X.A.units + 64 < cLine) : CallR X (.builtin "max") (rBest X.K maxD) := by
  intro pins s σ H vs us Q I r h
  obtain ⟨a, p, ps, rfl, hs, hd, ha, h5, q⟩ := h
  obtain ⟨its, rv, pl, hz⟩ := I.list hs
  rw [Vals.ref1 r]
  have e : EachIs (fun u p => RelV p.1 u) its (p :: ps) := vals_each rv
  have e2 : EachIs (fun u p => RelV p.1 u ∧ ∃ as, Reads s.heap u (encP p) as) its (p :: ps) := each_all e fun u p m rx => ⟨rx, Dp.reads I _ _ _ (hd p m) rx⟩
  obtain ⟨as, hr⟩ := each_reads (each_all e2 fun u p m rx => rx.2)
  refine max_list_data (I.ok.hd hc) pl.isList (by simpa using hr) ha ?_ fun i v h' tk bs hv hm hk => ?_
  · have := depthAll_le (n := 50) (xs := (p :: ps).map encP) fun x hx => by
      obtain ⟨q, hq, rfl⟩ := List.mem_map.mp hx
      exact h5 q hq
    have e : PyData.depthAll (encP p :: ps.map encP) ≤ 50 := this
    omega
  · obtain ⟨q', hq', rq, as', rr⟩ := each_at e2 (by simpa using hv)
    have u := (reads_keeps hk rr).unique _ _ hm
    exact ⟨q'.1, H, I.kept (t' := tk) hk, rq, q q' hq' u.1⟩
end
def cBest (f : PyData → List PyData → PyData) : OC := fun ds R => match ds with
  | [.lst (x :: xs)] => plains (x :: xs) = true ∧ AlikeAll ((x :: xs).map toPy) ∧ (∀ d ∈ x :: xs, (toPy d).depth ≤ 50) ∧ ∀ d ∈ x :: xs, toPy d = f (toPy x) (xs.map toPy) → R d
  | _ => False
theorem simc_best {K : PySem.W.Frag} {f : PyData → List PyData → PyData} : SimC K (rBest K f) (cBest f) := fun B G H vs ds s r Q R k q => by
  unfold cBest at q
  split at q
  · rename_i x xs
    cases r with
    | cons r1 r =>
      cases r
      cases r1 with
      | @lst a xv _ a1 b1 =>
        obtain ⟨o1, o2, o3, q⟩ := q
        cases b1 with
        | @cons v vs' _ _ rx rxs =>
          obtain ⟨z1, z2, z3⟩ := reps_zip rxs
          have me : (vs'.zip xs).map encP = xs.map toPy := by
            conv => rhs; rw [← z2]
            rw [List.map_map]; rfl
          have all : ∀ p ∈ (v, x) :: vs'.zip xs, Rep K G p.1 p.2 ∧ p.2 ∈ x :: xs := fun p hp => by
            rcases List.mem_cons.mp hp with e | m
            · subst e; exact ⟨rx, List.mem_cons_self⟩
            · exact ⟨z3 p m, List.mem_cons_of_mem _ (by rw [← z2]; exact List.mem_map.mpr ⟨p, m, rfl⟩)⟩
          refine ⟨a, (v, x), vs'.zip xs, rfl, ?_, fun p hp => (all p hp).1.dp s.gh (plains_mem o1 _ (all p hp).2), ?_, fun p hp => o3 _ (all p hp).2, fun p hp e => ?_⟩
          · show SqL K H a (v :: (vs'.zip xs).map (·.1))
            rw [z1]; exact SqL.of (s.gh _ _ a1)
          · show AlikeAll (toPy x :: (vs'.zip xs).map encP)
            rw [me]; exact o2
          · rw [me] at e
            exact k _ G H _ s (all p hp).1 (q _ (all p hp).2 e)
  · exact q.elim
theorem xMinD {X : Cx} {E : XK} {e : Expr} {de : DE} {p pos : Pos} {k : Nat} (rg : RmG k X.A) (hc : X.calm = true) (hg : Gl X "min") (hm : X.mg "min" = none) (ha : XEx X E e de) (he : starEach [e] X.env = (false, eval e X.env) :: starEach [] X.env := by rfl) : XEx X E (.Call (.Name "min" p) [e] [] pos) (dCB (cBest minD) (dCons de dNil)) := xCB (cr_minD hc rg.rm.units) simc_best hg hm (by decide +kernel) (xa_cons ha xa_nil he) (he := he)
theorem xMaxD {X : Cx} {E : XK} {e : Expr} {de : DE} {p pos : Pos} {k : Nat} (rg : RmG k X.A) (hc : X.calm = true) (hg : Gl X "max") (hm : X.mg "max" = none) (ha : XEx X E e de) (he : starEach [e] X.env = (false, eval e X.env) :: starEach [] X.env := by rfl) : XEx X E (.Call (.Name "max" p) [e] [] pos) (dCB (cBest maxD) (dCons de dNil)) := xCB (cr_maxD hc rg.rm.units) simc_best hg hm (by decide +kernel) (xa_cons ha xa_nil he) (he := he)

/-! ### xs.index(text) -/
def dIdxS (dx dy : DE) : DE := fun ρ xe R => dx ρ xe fun x => match x with
  | .lst xs => dy ρ xe fun y => match y with
    | .str s => ∃ ps i, strsD xs = some ps ∧ ps[i]? = some s ∧ (∀ m t, m < i → ps[m]? = some t → t ≠ s) ∧ R (.int ((i : Nat) : Int))
    | _ => False
  | _ => False
theorem eqV_strs (s t : List Nat) : eqV (.str ⟨t.toArray⟩) (.str ⟨s.toArray⟩) = decide (t = s) := by
  show ((⟨t.toArray⟩ : Str) == ⟨s.toArray⟩) = _
  rw [Bool.beq_eq_decide_eq]
  exact decide_eq_decide.mpr ⟨fun z => by
    have h2 := congrArg (fun s : Str => s.cps.toList) z
    simpa using h2, fun z => by rw [z]⟩
theorem xIdxS {X : Cx} {E : XK} {o e : Expr} {dx dy : DE} {apos pos : Pos} (ho : XEx X E o dx) (he : XEx X E e dy) 
    (hs : starEach [e] X.env = (false, eval e X.env) :: starEach [] X.env := by rfl)
    (hbase : attributeBase o "index" X.env (eval o X.env) = eval o X.env := by rfl)
    (h1 : ((((backTo pos (starEach [e] X.env)).all fun x => !x.fst) && (backToKw pos (keywordEach [] X.env)).all fun x => x.fst.isSome) && decide (([e].length + ([] : List Nat).length + if ([] : List Nat).isEmpty = true then 0 else 1) < 30)) = true := by rfl)
    (hline : (apos.endLine == pos.line) = true := by rfl)
    (h2 : ((backTo pos (starEach [] X.env)).any fun x => x.fst) = false := by rfl) :
    XEx X E (.Call (.Attribute o "index" apos) [e] [] pos) (dIdxS dx dy) :=
  .of (pe_bm PySem.F.plainAttrs_list PySem.F.slot_list_index PySem.F.type_list_index mt_index ho.pe (pa_cons he.pe pa_nil hs) hbase h1 hline hs h2) fun B G0 H0 G H σ ρ I xe lx Q R k q => by
    refine sE B G0 H0 G H σ ρ I xe lx _ _ (fun v G' H' d t r z => ?_) q
    split at z
    · cases r with
      | @lst a vs _ a1 b1 =>
        refine ⟨.inl ⟨rfl, _, SqL.of (t.gh _ _ a1)⟩, sE B G0 H0 G' H' σ ρ (I.step t) xe lx _ _ (fun u G2 H2 d2 t2 r2 z2 => ?_) z⟩
        split at z2
        · obtain ⟨ps, i, h1, h2, h3, h4⟩ := z2
          cases r2
          have ev := strs_rep b1 h1
          have a2 : H2 a = some (.lst vs) := ((I.step t).step t2).st.gh _ _ (t2.gg _ _ a1)
          refine ⟨a, vs, _, i, _, rfl, rfl, SqL.of a2, rfl, by rw [ev]; exact flat_strs ps, by rw [ev, List.map_map, List.getElem?_map, h2]; rfl, by rw [Function.comp, eqV_strs]; exact decide_eq_true rfl, fun m z' hm hz => ?_, k _ G2 H2 _ (t.trans t2) (.int _) h4⟩
          rw [ev, List.map_map, List.getElem?_map] at hz
          cases hp : ps[m]? with
          | none => rw [hp] at hz; cases hz
          | some t' =>
            rw [hp] at hz
            obtain rfl := Option.some.inj hz
            show eqV (.str ⟨t'.toArray⟩) (.str ⟨_⟩) = false
            rw [eqV_strs]; exact decide_eq_false (h3 m t' hm hp)
        · exact z2.elim
    · exact z.elim
end DL

/-! x not in a list of any data; a new list gets an item made of names -/
namespace DL
open PySem PySem.Spec L2
open PyProof.Rows hiding St
def oNiD : O2 := fun x y R => match y with
  | .lst xs => eqOk x ∧ eqOk (.lst xs) ∧ R (.bl (!xs.any fun z => PyData.eqv (toPy z) (toPy x)))
  | _ => False
theorem simr_niD {K : PySem.W.Frag} : SimR K (rNotInD K) oNiD := fun B G H x y d e s rx ry Q R k q => by
  unfold oNiD at q
  split at q
  · rename_i xs
    obtain ⟨q1, q2, q3⟩ := q
    refine ⟨toPy d, toPys xs, rx.dp s.gh q1.1, ry.dp s.gh q2.1, q1.2, q2.2, k _ G H _ s (.bl _) ?_⟩
    rw [toPys_map, List.any_map]
    exact q3
  · exact q.elim
theorem xtNiD {X : Cx} {E : XK} {a b : Expr} {da db : DE} {pos : Pos} {k : Nat} (rg : RmG k X.A) (ha : XEx X E a da) (hb : XEx X E b db) (hm : behindInMarks .NotIn b = false := by rfl) : XT X E (.Compare a [.NotIn] [b] pos) (dTest (dOp oNiD da db)) := xt_cmp (op_notInD (by have := rg.rm.un; omega)) simr_niD ha hb hm
def nAppE (de : DE) (m2 : D → Nat → Prop) : List Sl → D → Prop := fun ρ d => (∃ ds, d = .lst ds ∧ ds.length < sizeLine) ∧ m2 d 1 ∧ de ρ (fun _ => False) fun _ => True
section
variable {X : Cx} {i : Nat} {W : List Nat}
/-- x.append(e), e made of what is there -/
theorem xd_appE {e : Expr} {de : DE} {E : XK} {g : List Stmt → List Stmt} {m2 : D → Nat → Prop} {c2 : Nat} {it : Str} {pi_ apos cpos pos : Pos} (hv : PE X (.Name it pi_) (tVar i)) (ha : XEx X E e de) (h2 : XDc X i W g m2 c2)
    (hbase : attributeBase (.Name it pi_) "append" X.env (eval (.Name it pi_) X.env) = eval (.Name it pi_) X.env := by rfl)
    (hfew : ((backTo cpos (starEach [e] X.env)).all (fun x => !x.1) && (backToKw cpos (keywordEach [] X.env)).all (fun x => x.1.isSome)
      && decide (([e] : List Expr).length + ([] : List Keyword).length + (if ([] : List Keyword).isEmpty then 0 else 1) < 30)) = true := by rfl)
    (hline : (apos.endLine == cpos.line) = true := by rfl) (hst : starEach [e] X.env = (false, eval e X.env) :: starEach [] X.env := by rfl) (hplain : (backTo cpos (starEach [] X.env)).any (·.1) = false := by rfl)
    (hs : swapsWith (.Call (.Attribute (.Name it pi_) "append" apos) [e] [] cpos) none pos.line X.env = pure false := by rfl) :
    XD X i W (fun r => .Expr (.Call (.Attribute (.Name it pi_) "append" apos) [e] [] cpos) pos :: g r) (nAppE de m2) := ⟨fun rest tr hr => by
  obtain ⟨t2, p2, s2⟩ := h2.go rest tr hr
  refine ⟨_, pss_cons (ps_expr (pe_bm PySem.F.plainAttrs_list PySem.F.slot_list_append PySem.F.type_list_append mt_append hv (pa_cons ha.pe pa_nil hst) hbase hfew hline hst hplain) hs) p2, fun B G0 H0 G' H' Hs σ' ρ' v d D I e dn nd k => ?_⟩
  obtain ⟨o, g1, g2⟩ := pget I.sl e
  cases g2 with
  | pin r =>
    obtain ⟨⟨ds, rfl, hl⟩, nd2, nd3⟩ := nd
    have r0 := r
    cases r with
    | @lst a vs _ a1 b1 =>
      refine ⟨.ref a, g1, .inl ⟨rfl, _, SqL.of (I.st.gh _ _ a1)⟩, sE B G0 H0 G' H' σ' ρ' I _ noX _ _ (fun y G2 H2 dd t r2 z => ?_) nd3⟩
      have I2 := I.step t
      have a2 : G2 a = some (.lst vs) := t.gg _ _ a1
      have dn2 : DN X.K Hs G2 (.ref a) (.lst ds) := dn.mono (fun _ h => h) t.gg
      refine ⟨a, vs, y, rfl, rfl, I2.st.gh _ _ a2, by rw [b1.length]; exact hl, ?_⟩
      have dk : DKp Hs G2 H2 1 (upd H2 a (.lst (vs ++ [y]))) := (DKp.start I2.st.gh).put (dn2.hd rfl) a2 (by rw [List.length_append]; simp) (by omega)
      exact s2 Hs G2 H2 _ (.ref a) (.lst ds) σ' D 1 I2.st.gh (r0.mono t.gg) dn2 nd2 g1 dk (fun σ3 H3 ew dk => k G2 H2 H3 σ3 t.gg I2 ew dk.1)⟩
end
/-- for a, b, c in .. -/
def dgTrip (i j k : Nat) : DG := fun d ρ R => match d with
  | .tup [x, y, z] => R (((ρ.set i (.dd x)).set j (.dd y)).set k (.dd z))
  | _ => False
theorem simg_trip {K : PySem.W.Frag} {i j k : Nat} {vs : List Nat} (h : i ∈ vs) (h' : j ∈ vs) (h'' : k ∈ vs) : SimG K (gTup K 3 (gCons (gName i) (gCons (gName j) (gCons (gName k) gNil)))) (dgTrip i j k) vs := fun B G0 H0 G H σ ρ v d I r Q R kk q => by
  unfold dgTrip at q
  split at q
  · cases r with
    | tup a b =>
      cases b with
      | cons r1 b =>
        cases b with
        | cons r2 b =>
          cases b with
          | cons r3 b =>
            cases b
            refine ⟨_, _, rfl, SqT.of (I.st.gh _ _ a), rfl, _, _, rfl, _, _, rfl, _, _, rfl, rfl, ?_⟩
            exact kk _ _ (((I.set r1).set r2).set r3) (by rw [wipe_set h'', wipe_set h', wipe_set h]) q
  · exact q.elim
end DL

/-! x not in range(n); sorted(set(numbers)), more of them -/
namespace DL
open PySem PySem.Spec L2
open PyProof.Rows hiding St
theorem cr_range1 {X : Cx} : CallR X (.type "range") (fun vs H Q => ∃ n : Int, vs = [.int n] ∧ ∀ p : Addr, H p = none → Q (.ref p) (upd H p (.rng 0 n))) := by
  intro pins s σ H vs us Q I r h
  obtain ⟨n, rfl, q⟩ := h
  cases r with
  | cons r1 rr =>
    cases rr
    obtain ⟨t, rfl⟩ := r1
    refine call_range_1 ?_
    exact ⟨.ref s.heap.objs.size, upd H s.heap.objs.size (.rng 0 n), I.laid (t' := s.toks + 1 + 1) (fun _ _ e => Heap.get?_push_of_some _ e) (Nat.le_refl _) ⟨_, _, _, IsRange.new ..⟩, rfl, q _ I.fresh⟩
theorem op_notIn_rng {X : Cx} : OpR X (compareOp .NotIn) fun x y H Q => ∃ (i : Int) (a : Addr) (lo hi : Int), x = .int i ∧ y = .ref a ∧ H a = some (.rng lo hi) ∧ Q (.bl (!decide (lo ≤ i ∧ i < hi))) H := by
  intro pins s σ H x y v u Q I rx ry ⟨i, a, lo, hi, hx, hy, ha, q⟩
  have h := op_in_rng pins s σ H x y v u (fun x' H' => ∃ b, x' = .bl b ∧ Q (.bl !b) H') I rx ry ⟨i, a, lo, hi, hx, hy, ha, _, rfl, q⟩
  intro Γ p hΓ
  have h2 := h Γ p hΓ
  change Sem.wp _ Γ ((contains u v).bind fun r => Sem.pure (Value.bool r)) _ _ p s at h2
  rw [Sem.wp_bind] at h2
  show Sem.wp _ Γ ((contains u v).bind fun r => Sem.pure (Value.bool !r)) _ _ p s
  rw [Sem.wp_bind]
  refine Sem.wp_mono _ _ _ (fun r p' s' hr => ?_) (fun _ _ _ h => h) _ _ h2
  obtain ⟨x', H', I', rv, b, rfl, q'⟩ := hr
  have : Value.bool r = Value.bool b := rv
  cases this
  exact ⟨.bl (!r), H', I', rfl, q'⟩
def dNiR (da db : DE) : DT := fun ρ xe R => da ρ xe fun x => match x with
  | .int i => db ρ xe fun y => match y with
    | .int n => R (!decide (0 ≤ i ∧ i < n))
    | _ => False
  | _ => False
section
variable {X : Cx} {E : XK} {a b : Expr} {da db : DE} {pr p' pos : Pos}
theorem xtNiR (hg : Gl X "range") (hm : X.mg "range" = none) (ha : XEx X E a da) (hb : XEx X E b db)
    (hs : starEach [b] X.env = (false, eval b X.env) :: starEach [] X.env := by rfl)
    (hk : behindInMarks .NotIn (.Call (.Name "range" pr) [b] [] p') = false := by rfl) :
    XT X E (.Compare a [.NotIn] [.Call (.Name "range" pr) [b] [] p'] pos) (dNiR da db) := .of (pt_cmpR op_notIn_rng ha.pe (pe_callTy cr_range1 hg hm (by decide +kernel) (pa_cons hb.pe pa_nil hs) (he := hs)) hk) fun B G0 H0 G H σ ρ I xe lx Q R k q => by
  refine sE B G0 H0 G H σ ρ I xe lx _ _ (fun v G1 H1 d t1 r1 z1 => ?_) q
  split at z1
  · rename_i i
    refine sE B G0 H0 G1 H1 σ ρ (I.step t1) xe lx _ _ (fun u G2 H2 e t2 r2 z2 => ?_) z1
    split at z2
    · rename_i n
      cases r1; cases r2
      refine ⟨_, rfl, fun p hp => ?_⟩
      have t3 := (Stt.refl ((I.step t1).step t2).st.gh ((I.step t1).step t2).st.bag).new (o := .rng 0 n) hp
      refine ⟨i, p, 0, n, rfl, rfl, upd_same, ?_⟩
      exact ⟨_, rfl, k _ _ _ ((t1.trans t2).trans t3) z2⟩
    · exact z2.elim
  · exact z1.elim
end
end DL

/-! for k in a dict that is data; x is not True -/
namespace DL
open PySem PySem.Spec L2
open PyProof.Rows hiding St
def dKeysI (de : DE) : DI := fun ρ xe R => de ρ xe fun d => match d with
  | .dct ks _ => ks ≠ [] ∧ R (ks.map kD)
  | _ => False
section
variable {X : Cx} {E : XK} {tg e a b : Expr} {de da db : DE} {pos : Pos}
theorem sim_keys {K : PySem.W.Frag} {E : XK} {te : TE} {de : DE} (h : SimE K E te de) : SimI K E (iKeys te) (dKeysI de) := fun B G0 H0 G H σ ρ I xe lx R RR k q => h B G0 H0 G H σ ρ I xe lx _ _ (fun v G' H' d t r z => by
  split at z
  · rename_i ks xs
    cases r with
    | @dct a od kvs _ _ a1 hk b1 n =>
      refine ⟨a, od, rfl, .inl ⟨kvs, t.gh _ _ a1, k (Itk a od kvs) G' H' _ t ?_ z.2⟩⟩
      intro G2 H2 sg sh bg i
      have a2 : H2 a = some (.frz od (.dK kvs)) := sh _ _ (sg _ _ a1)
      have hl : kvs.length = ks.length := by
        have := congrArg List.length hk
        simpa using this
      refine ⟨fun d hd => ?_, fun hh => ⟨a2, by rw [List.length_map] at hh; omega⟩⟩
      rw [List.getElem?_map] at hd
      cases eq : ks[i]? with
      | none => rw [eq] at hd; cases hd
      | some q0 =>
        rw [eq] at hd
        obtain rfl := Option.some.inj hd
        have il := (List.getElem?_eq_some_iff.mp eq).1
        refine ⟨⟨a2, by omega⟩, fun x H3 hy => ?_⟩
        obtain ⟨rfl, k', v', e1, rfl⟩ := hy
        have e2 : (kvs.map (·.1))[i]? = (ks.map DK.key)[i]? := by rw [hk]
        rw [List.getElem?_map, List.getElem?_map, e1, eq] at e2
        have e3 : k' = DK.key q0 := Option.some.inj e2
        subst e3
        exact ⟨G2, Stt.refl sh bg, kD_key q0⟩
    | dct0 => exact absurd rfl z.1
  · exact z.elim) q
theorem xi_keys (h : XEx X E e de) : XI X E tg e (iKeys (cE X.K E de)) (dKeysI de) := ⟨pi_keys h.pe, sim_keys sE⟩
theorem op_isNotB : OpR X (compareOp .IsNot) fun x y H Q => ∃ a b : Bool, x = .bl a ∧ y = .bl b ∧ Q (.bl !(a == b)) H := by
  intro pins s σ H x y v u Q I rx ry ⟨a, b, hx, hy, q⟩
  subst hx; subst hy
  obtain rfl : v = Value.bool a := rx
  obtain rfl : u = Value.bool b := ry
  show wpAny _ _ (isSame (.bool a) (.bool b) >>= fun r => pure (Value.bool !r)) _ _ _
  refine wpAny_bind ?_
  show wpAny _ _ (pure (Value.bool a == Value.bool b)) _ _ _
  refine wpAny_pure (wpAny_pure ?_)
  have e : (Value.bool a == Value.bool b) = (a == b) := by cases a <;> cases b <;> rfl
  rw [e]
  exact ⟨.bl !(a == b), H, I, rfl, q⟩
def oNiB : O2 := fun x y R => match x, y with
  | .bl a, .bl b => R (.bl (!(a == b)))
  | _, _ => False
theorem simr_niB {K : PySem.W.Frag} : SimR K (fun x y H Q => ∃ a b : Bool, x = .bl a ∧ y = .bl b ∧ Q (.bl !(a == b)) H) oNiB := fun B G H x y d e s rx ry Q R k q => by
  unfold oNiB at q
  split at q
  · cases rx; cases ry
    exact ⟨_, _, rfl, rfl, k _ G H _ s (.bl _) q⟩
  · exact q.elim
theorem xtNiB (ha : XEx X E a da) (hb : XEx X E b db) (hm : behindInMarks .IsNot b = false := by rfl) : XT X E (.Compare a [.IsNot] [b] pos) (dTest (dOp oNiB da db)) := xt_cmp op_isNotB simr_niB ha hb hm
end
end DL

/-! x = dict(pairs): an own dict, its keys different -/
namespace DL
open PySem PySem.Spec L2
open PyProof.Rows hiding St
theorem merge_new : ∀ {kvs acc : List (Key × V)}, ((acc ++ kvs).map (·.1)).Nodup → mergeK acc kvs = acc ++ kvs
  | [], acc, _ => by rw [List.append_nil]; rfl
  | kv :: r, acc, h => by
    have e : putK acc kv.1 kv.2 = acc ++ [kv] := by
      unfold putK
      have : (acc.any fun q => decide (q.1 = kv.1)) = false := by
        rw [List.any_eq_false]
        intro q hq z
        have z := of_decide_eq_true z
        rw [List.map_append, List.nodup_append] at h
        exact h.2.2 q.1 (List.mem_map.mpr ⟨q, hq, rfl⟩) kv.1 (List.mem_map.mpr ⟨kv, List.mem_cons_self, rfl⟩) z
      rw [this]; rfl
    show mergeK (putK acc kv.1 kv.2) r = _
    rw [e, merge_new (by rw [List.append_assoc]; exact h), List.append_assoc]; rfl
theorem reps_pairs {K : PySem.W.Frag} {G : Hp} : ∀ {qs : List (DK × D)} {vs : List V}, Reps K G vs (qs.map fun q => .tup [kD q.1, q.2]) →
    ∃ (ps : List Addr) (kvs : List (Key × V)), vs = ps.map V.ref ∧ kvs.map (·.1) = (qs.map (·.1)).map DK.key ∧ Reps K G (kvs.map (·.2)) (qs.map (·.2)) ∧ Paired (fun p kv => G p = some (.tup [kV kv.1, kv.2])) ps kvs
  | [], vs, h => by cases h; exact ⟨[], [], rfl, rfl, .nil, .nil⟩
  | q :: r, vs, h => by
    cases h with
    | cons r1 r2 =>
      obtain ⟨ps, kvs, e1, e2, e3, e4⟩ := reps_pairs r2
      generalize hz : D.tup [kD q.1, q.2] = z at r1
      cases r1 with
      | tup a b =>
        cases hz
        cases b with
        | cons b1 b =>
          cases b with
          | cons b2 b =>
            cases b
            subst e1
            obtain ⟨k, x⟩ := q
            cases k with
            | inl i =>
              generalize hk : kD (Sum.inl i) = z at b1
              cases b1 <;> cases hk
              exact ⟨_ :: ps, (DK.key (.inl i), _) :: kvs, rfl, by rw [List.map_cons, e2]; rfl, .cons b2 e3, .cons a e4⟩
            | inr s =>
              generalize hk : kD (Sum.inr s) = z at b1
              cases b1 <;> cases hk
              exact ⟨_ :: ps, (DK.key (.inr s), _) :: kvs, rfl, by rw [List.map_cons, e2]; rfl, .cons b2 e3, .cons a e4⟩
      | _ => cases hz
section
variable {K : PySem.W.Frag} {B : Option Addr} {G0 H0 G H : Hp} {σ : L2.St} {ρ : List Sl}
theorem En.layDK {i : Nat} {p : Addr} {kvs : List (Key × V)} {ks : List DK} {xs : List D} (I : En K B G0 H0 G H σ ρ) (hp : H p = none) (hk : kvs.map (·.1) = ks.map DK.key) (hr : Reps K G (kvs.map (·.2)) xs) : En K B G0 H0 G (upd H p (.dK kvs)) (σ.set i (some (.ref p))) (ρ.set i (.odk ks xs)) := by
  have nb : B ≠ some p := fun e => by
    obtain ⟨_, _, _, _, _, _, h, _⟩ := I.st.bag p e
    rw [hp] at h; cases h
  have h0 : H0 p = none := by
    cases z : H0 p with
    | none => rfl
    | some u => rw [I.st.hh p u (fun z => nb z.symm) z] at hp; cases hp
  have t : Stt B G H G (upd H p (.dK kvs)) := by
    refine ⟨Same.refl _, fun a u h => ?_, fun a u n h => ?_, fun a u h => .inl h, fun b z => ?_, fun b z => ?_⟩
    · rw [upd_ne (ne_of_none (I.st.gh a u h) hp)]; exact I.st.gh a u h
    · rw [upd_ne (ne_of_none h hp)]; exact h
    · obtain ⟨g0, n, sd, j, c, cells, k1, k2, q⟩ := I.st.bag b z
      exact ⟨g0, n, sd, j, c, cells, by rw [upd_ne (fun z' => nb (by rw [z, z']))]; exact k1, k2, q⟩
    · unfold bagC; rw [upd_ne (fun z' => nb (by rw [z, z']))]
  have I' := I.step t
  refine ⟨I'.st, pset (.odk (kvs := kvs) upd_same hk hr (I.st.gfree hp) h0 nb) i I'.sl, fun j k q x y e1 e2 e3 e4 => ?_⟩
  have nj : j ≠ i := fun z => by
    subst z
    by_cases l : j < ρ.length
    · rw [List.getElem?_set_self l] at e1; cases e1
    · rw [List.getElem?_eq_none (by simpa using l)] at e1; cases e1
  have nk : k ≠ i := fun z => by
    subst z
    by_cases l : k < ρ.length
    · rw [List.getElem?_set_self l] at e2; cases e2
    · rw [List.getElem?_eq_none (by simpa using l)] at e2; cases e2
  rw [List.getElem?_set_ne nj.symm] at e1 e3
  rw [List.getElem?_set_ne nk.symm] at e2 e4
  exact I.ap j k q x y e1 e2 e3 e4
end
/-- x = dict(pairs) -/
def dNewDP (i : Nat) (de : DE) : DS := fun C ρ => de ρ C.xe fun d => match d with
  | .lst ds => ∃ qs : List (DK × D), ds = (qs.map fun q => .tup [kD q.1, q.2]) ∧ (qs.map (·.1)).Nodup ∧ C.nx (ρ.set i (.odk (qs.map (·.1)) (qs.map (·.2))))
  | _ => False
section
variable {X : Cx} {E : XK} {e : Expr} {de : DE} {pos : Pos} {i : Nat} {x : Str}
theorem xs_newDP {p pc pos' : Pos} (hc : X.calm = true) (hg : Gl X "dict") (hm : X.mg "dict" = none) (ha : XEx X E e de) (hN : X.N.Nodup) (hi : X.N[i]? = some x) (hx : Loc X.env.scope x) (he : starEach [e] X.env = (false, eval e X.env) :: starEach [] X.env := by rfl)
    (hs : swapsWith (.Call (.Name "dict" p) [e] [] pc) (some (.Name x pos')) pos.line X.env = pure false := by rfl) (hf : X.fn x = true ∨ X.env.scope.names.lookup x = some .local := by first | exact .inl rfl | exact .inr rfl | assumption) :
    XS X E (.Assign [.Name x pos'] (.Call (.Name "dict" p) [e] [] pc) pos) (dNewDP i de) :=
  .of (ps_set hN hi hx (pe_callTy (call_dictP hc) hg hm (by decide +kernel) (pa_cons ha.pe pa_nil he) (he := he)) hs hf) fun B G0 H0 G H σ ρ I Gs sg D C l q => by
    refine sE B G0 H0 G H σ ρ I C.xe l.xe _ _ (fun v G' H' d t r z => ?_) q
    split at z
    · rename_i ds
      obtain ⟨qs, e1, e2, e3⟩ := z
      subst e1
      cases r with
      | lst a1 b1 =>
        obtain ⟨ps, kvs, f1, f2, f3, f4⟩ := reps_pairs b1
        subst f1
        have hn : (kvs.map (·.1)).Nodup := by
          rw [f2]
          exact List.pairwise_map.mpr (e2.imp fun {a b} ne z => ne (key_inj z))
        refine ⟨_, ps, kvs, rfl, SqL.of (t.gh _ _ a1), ?_, fun p hp => ?_⟩
        · have : ∀ {ps : List Addr} {kvs : List (Key × V)}, Paired (fun p kv => G' p = some (.tup [kV kv.1, kv.2])) ps kvs → Paired (fun p kv => SqT X.K H' p [kV kv.1, kv.2]) ps kvs := fun h => by
            induction h with
            | nil => exact .nil
            | cons a _ ih => exact .cons (SqT.of (t.gh _ _ a)) ih
          exact this f4
        · rw [merge_new (acc := []) (by simpa using hn)]
          exact l.nx _ _ _ _ (sg.trans t.gg) ((I.step t).layDK hp f2 f3) e3
    · exact z.elim
end
end DL

/-! sets of texts, their order kept: set(text), set(tuple of texts); sorted, len -/
namespace L2
open PySem PySem.Spec PySem.Calls PyProof.Rows
def keyS (e : Int × Value) : Str := match e.2 with
  | .str x _ => x
  | _ => Str.empty
def GoodS (w : World) (e : Int × Value) : Prop := ∃ x tk, e.2 = .str x tk ∧ e.1 = hashStr w x
def SetS (w : World) (h : Heap) (a : Addr) (S : Str → Bool) (n : Nat) : Prop := ∃ o es ep t, h.get? a = some o ∧ o.ExactSet ∧ o.data = Data.set es ep t ∧ (∀ e ∈ es.toList, GoodS w e) ∧ (es.toList.map keyS).Nodup ∧ (∀ k, S k = true ↔ k ∈ es.toList.map keyS) ∧ es.size < scanBound ∧ t.fits es.size = true ∧ es.size = n ∧ Ris t.place.toList ∧ (w.params.followText "set-order" = true ∨ t.led = true)
section
variable {P : Program} {w : World} {A : Around} {E : Value → Shared → Prop} {s : Shared} {a : Addr}
theorem goodS_elems {l : List (Int × Value)} (h : ∀ e ∈ l, GoodS w e) : ElemsOf (strKind P w) l := fun e he => by
  obtain ⟨x, tk, e2, e1⟩ := h e he
  exact ⟨⟨x, by rw [e2]; exact strKind_is P w x tk, e1⟩, by rw [e2]; rfl⟩
theorem goodS_is {l : List (Int × Value)} (h : ∀ e ∈ l, GoodS w e) (k : Str) : ∀ e ∈ l, ((strKind P w).is k e.2 = true ↔ keyS e = k) := fun e he => by
  obtain ⟨x, tk, e2, e1⟩ := h e he
  have i := strKind_is P w x tk
  unfold keyS
  rw [e2]
  exact ⟨fun z => (strKind P w).inj _ _ _ i z, fun z => by subst z; exact i⟩
theorem setS_add_tail {g : Bool → Sem Unit} (hg : ∀ (b : Bool) (s₁ : Shared) (Q' : Unit → Shared → Prop), Q' () s₁ → wpAny (model P w) A (g b) Q' E s₁)
    {o : Obj} {es : Array (Int × Value)} {ep : Nat} {t : SetTable} (ho : s.heap.get? a = some o) (hx : o.ExactSet) (hd : o.data = Data.set es ep t)
    {es1 : Array (Int × Value)} {t2 : SetTable} {S' : Str → Bool} (h1 : ∀ e ∈ es1.toList, GoodS w e) (h2 : (es1.toList.map keyS).Nodup) (h3 : ∀ k, S' k = true ↔ k ∈ es1.toList.map keyS) (hb : es1.size < scanBound) (hf : t2.fits es1.size = true) (hr : Ris t2.place.toList) (hl : w.params.followText "set-order" = true ∨ t2.led = true)
    {wasDummy : Bool} {R : Option Bool → Shared → Prop} (k : ∀ h' : Heap, Heap.SameBut a s.heap h' → SetS w h' a S' es1.size → R (some true) { heap := h', gens := s.gens, drawn := s.drawn, toks := s.toks, os := s.os }) :
    wpAny (model P w) A (do
      storeSet a es1 t2
      if (!wasDummy && t2.tooFull) = true then do
        g (relayAll t2 es1 (SetTable.grown es1.size)).snd.snd
        storeSet a (relayAll t2 es1 (SetTable.grown es1.size)).fst (relayAll t2 es1 (SetTable.grown es1.size)).snd.fst
        pure (some true)
      else pure (some true)) R E s := by
  refine wpAny_bind (wpAny_storeSet_of ho hd ?_ (fits_of_scanBound hb))
  have a1 := store_at (es' := es1) (t' := t2) ho hd
  by_cases hc : (!wasDummy && t2.tooFull) = true
  · rw [if_pos hc]
    have pm := relayAll_perm t2 es1 (SetTable.grown es1.size)
    have ps : (relayAll t2 es1 (SetTable.grown es1.size)).fst.size = es1.size := by
      have := pm.length_eq
      rwa [Array.length_toList, Array.length_toList] at this
    refine wpAny_bind (hg _ _ _ ?_)
    refine wpAny_bind (wpAny_storeSet_of a1 rfl ?_ (fits_of_scanBound (by rw [ps]; exact hb)))
    refine wpAny_pure ?_
    have a2 := store_at (es' := (relayAll t2 es1 (SetTable.grown es1.size)).fst) (t' := (relayAll t2 es1 (SetTable.grown es1.size)).snd.fst) a1 rfl
    have pk := pm.map keyS
    refine k _ ((Heap.SameBut.update _ _ _).trans (Heap.SameBut.update _ _ _)) ⟨_, _, _, _, a2, ⟨hx.1, hx.2.1, hx.2.2⟩, rfl, fun e he => h1 e (pm.mem_iff.mp he), pk.nodup_iff.mpr h2, fun k => (h3 k).trans pk.mem_iff.symm, by rw [ps]; exact hb, relayAll_fits _ _ _, ps, relayAll_ris _ _ _, ?_⟩
    exact hl.imp id fun z => by rw [relayAll_led]; exact z
  · rw [if_neg hc]
    refine wpAny_pure ?_
    exact k _ (Heap.SameBut.update _ _ _) ⟨_, _, _, _, a1, ⟨hx.1, hx.2.1, hx.2.2⟩, rfl, h1, h2, h3, hb, hf, rfl, hr, hl⟩
theorem setS_add_hashed {S : Str → Bool} {n : Nat} {x : Str} {tk : Tok} {Q : Bool → Shared → Prop} (hS : SetS w s.heap a S n) (hn : n + 1 < scanBound)
    (h : ∀ h' : Heap, Heap.SameBut a s.heap h' → SetS w h' a (fun j => S j || decide (j = x)) (if S x = true then n else n + 1) → Q (!S x) { heap := h', gens := s.gens, drawn := s.drawn, toks := s.toks, os := s.os }) :
    wpAny (model P w) A (setAddHashed a (.str x tk) (hashStr w x)) Q E s := by
  obtain ⟨o, es, ep, t, ho, hx, hd, hg, hnd, hk, hsz, hf, hn', hr, hl⟩ := hS
  have el := goodS_elems (P := P) hg
  have ix := strKind_is P w x tk
  unfold setAddHashed
  refine wpAny_holding ?_
  rw [setAddHashedIn.eq_def]
  refine wpAny_bind (wpAny_setState_of ho hd hf ?_)
  show wpAny _ _ (if byScan (.str x tk) es = true then _ else _) _ _ _
  rw [if_pos (byScan_of (knd := strKind P w) rfl hsz el)]
  refine wpAny_bind ?_
  unfold setAddByScan
  refine wpAny_bind (wpAny_rule ?_)
  refine wpAny_bind (wpAny_setScan_of (knd := strKind P w) ix ho hd hf el ?_)
  cases hi : es.toList.findIdx? (fun e => (strKind P w).is x e.2) with
  | some j =>
    have hm : S x = true := by
      obtain ⟨hj, hp, _⟩ := List.findIdx?_eq_some_iff_getElem.mp hi
      exact (hk x).mpr (List.mem_map.mpr ⟨_, List.getElem_mem hj, (goodS_is (P := P) hg x _ (List.getElem_mem hj)).mp hp⟩)
    rw [hm] at h
    refine wpAny_pure ?_
    refine wpAny_pure ?_
    exact h _ (Heap.SameBut.refl _ _) ⟨o, es, ep, t, ho, hx, hd, hg, hnd, fun k => by
      rw [Bool.or_eq_true, decide_eq_true_eq]
      exact ⟨fun z => z.elim (hk k).mp fun z => by rw [z]; exact (hk x).mp hm, fun z => .inl ((hk k).mpr z)⟩, hsz, hf, hn', hr, hl⟩
  | none =>
    have hm : x ∉ es.toList.map keyS := fun z => by
      obtain ⟨e, he, ek⟩ := List.mem_map.mp z
      have := List.findIdx?_eq_none_iff.mp hi e he
      rw [(goodS_is (P := P) hg x e he).mpr ek] at this
      cases this
    have hSx : S x = false := by
      cases hz : S x with
      | false => rfl
      | true => exact absurd ((hk x).mp hz) hm
    rw [hSx] at h
    have pm := layNew_perm t es (hashStr w x) (.str x tk)
    have psz : (layNew t es (hashStr w x) (.str x tk)).fst.size = es.size + 1 := by
      have := pm.length_eq
      rw [Array.length_toList, Array.length_toList, Array.size_push] at this
      exact this
    have pk := pm.map keyS
    have ep' : (es.push (hashStr w x, Value.str x tk)).toList.map keyS = es.toList.map keyS ++ [x] := by
      rw [Array.toList_push, List.map_append]; rfl
    rw [ep'] at pk
    have lf := layNew_fits t es (hashStr w x) (.str x tk)
    have lr := layNew_ris t es (hashStr w x) (.str x tk) hr
    have ll := layNew_led t es (hashStr w x) (.str x tk)
    generalize layNew t es (hashStr w x) (.str x tk) = L at pm psz pk lf lr ll ⊢
    obtain ⟨es1, t1, wd, gave⟩ := L
    have gd : ∀ e ∈ es1.toList, GoodS w e := fun e he => by
      have := pm.mem_iff.mp he
      rw [Array.toList_push] at this
      rcases List.mem_append.mp this with z | z
      · exact hg e z
      · rw [List.mem_singleton.mp z]; exact ⟨x, tk, rfl, rfl⟩
    have nd1 : (es1.toList.map keyS).Nodup := pk.nodup_iff.mpr (by
      rw [List.nodup_append]
      exact ⟨hnd, List.pairwise_singleton _ _, fun a ha b hb z => hm (by rw [List.mem_singleton.mp hb] at z; exact z ▸ ha)⟩)
    have hk1 : ∀ k, (S k || decide (k = x)) = true ↔ k ∈ es1.toList.map keyS := fun k => by
      rw [Bool.or_eq_true, decide_eq_true_eq, pk.mem_iff, List.mem_append, List.mem_singleton, hk k]
    have sb : es1.size < scanBound := by show es1.size < _; rw [show es1.size = es.size + 1 from psz]; omega
    have fin : ∀ (g : Bool → Sem Unit) (t2 : SetTable), (∀ (b : Bool) (s₁ : Shared) (E : Value → Shared → Prop) (Q' : Unit → Shared → Prop), Q' () s₁ → wpAny (model P w) A (g b) Q' E s₁) → t2.fits es1.size = true → Ris t2.place.toList → t2.led = t.led →
        wpAny (model P w) A (do
          storeSet a es1 t2
          if (!wd && t2.tooFull) = true then do
            g (relayAll t2 es1 (SetTable.grown es1.size)).snd.snd
            storeSet a (relayAll t2 es1 (SetTable.grown es1.size)).fst (relayAll t2 es1 (SetTable.grown es1.size)).snd.fst
            pure (some true)
          else pure (some true)) (fun r s' => wpAny (model P w) A (match r with | some added => pure added | none => setAddHashedIn a (Value.str x tk) (hashStr w x) 99999) Q E s') E s := fun g t2 g1 g2 g3 g4 =>
      setS_add_tail (S' := fun k => S k || decide (k = x)) (fun b s1 Q' hq => g1 b s1 E Q' hq) ho hx hd gd nd1 hk1 sb g2 g3 (hl.imp id fun z => by rw [g4]; exact z) fun h' sm hs => wpAny_pure (h h' sm (by
        have : es1.size = n + 1 := by rw [← hn']; exact psz
        rw [← this]; exact hs))
    refine wpAny_bind ?_
    cases gave
    all_goals first | refine wpAny_pure ?_ | refine wpAny_rule ?_
    all_goals dsimp only
    all_goals by_cases hp : t1.plain = true
    all_goals first | rw [if_pos hp] | rw [if_neg hp]
    all_goals refine wpAny_bind ?_
    all_goals first | rw [hashByValue_scannable 8 rfl] | skip
    all_goals refine wpAny_pure ?_
    all_goals first | refine fin _ t1 (fun b s1 E' Q' hq => ?_) lf lr ll | refine fin _ { t1 with plain := false } (fun b s1 E' Q' hq => ?_) lf lr ll
    all_goals cases b
    all_goals first | exact wpAny_pure hq | exact wpAny_rule hq
theorem SetS.at {h h' : Heap} {S : Str → Bool} {n : Nat} (H : SetS w h a S n) (k : ∀ o, h.get? a = some o → h'.get? a = some o) : SetS w h' a S n := by
  obtain ⟨o, es, ep, t, ho, r⟩ := H
  exact ⟨o, es, ep, t, k o ho, r⟩
theorem SetS.congr {h : Heap} {S T : Str → Bool} {n : Nat} (H : SetS w h a S n) (e : ∀ k, T k = S k) : SetS w h a T n := by
  have : T = S := funext e
  rw [this]; exact H
theorem setS_new_at {h : Heap} (e : h.get? a = some (newSet w)) : SetS w h a (fun _ => false) 0 :=
  ⟨_, #[], 0, _, e, ⟨rfl, rfl, rfl⟩, rfl, fun _ h => (by simp at h), List.nodup_nil, fun k => by simp, by decide, rfl, rfl, List.Pairwise.nil, by
    cases w.params.followText "set-order" with
    | true => exact .inl rfl
    | false => exact .inr rfl⟩
theorem set_update_texts {R : Result → Shared → Prop} {I : Addr} {fp wr : List Addr} {G : Array GenState → Array GenState → Prop} {n : Nat} {Pv : Nat → Value → Prop} {St : Nat → Shared → Prop}
    (W : WalksS P w A.in1 I fp wr G n Pv St) (S : Addr) (hS : S ∉ fp) (xs : List Str) (hn : n = xs.length) (hb : xs.length + 1 < scanBound) (hv : ∀ i v, Pv i v → ∃ x t, xs[i]? = some x ∧ v = Value.str x t) :
    ∀ (k i : Nat) (s : Shared), n - i = k → i ≤ n → St i s → (∃ c, c ≤ i ∧ SetS w s.heap S (fun j => decide (j ∈ xs.take i)) c) →
      (∀ (s' : Shared) (c : Nat), Moved (S :: wr) G s s' → c ≤ n → SetS w s'.heap S (fun j => decide (j ∈ xs)) c → R (Except.ok (Flow.ret Value.none)) s') →
      codeAny (model P w) A (Code.builtin "set.update.loop" { pos := [Value.ref S, Value.ref I] }) R s := by
  have sw : S ∉ wr := fun z => hS (W.sub S z)
  intro k
  induction k with
  | zero =>
    intro i s e1 e2 hs ⟨c, hc, hset⟩ hR
    obtain rfl : i = n := by omega
    refine codeAny_builtin PyProof.Rows.F.entry_set_update_loop ?_
    rw [Around.under_plainId PyProof.Rows.F.plain_set_update_loop]
    refine wpAny_bind (W.done s _ _ hs fun s' m => ?_)
    refine wpAny_pure ?_
    refine hR s' c (m.mono fun b hb => List.mem_cons_of_mem _ hb) hc ?_
    refine (hset.at fun o ho => m.heap S o sw ho).congr fun j => ?_
    rw [hn, List.take_length]
  | succ k ih =>
    intro i s e1 e2 hs ⟨c, hc, hset⟩ hR
    refine codeAny_builtin PyProof.Rows.F.entry_set_update_loop ?_
    rw [Around.under_plainId PyProof.Rows.F.plain_set_update_loop]
    refine wpAny_bind (W.item i s _ _ (by omega) hs fun v s' pv hs' m => ?_)
    obtain ⟨x, t, ex, rfl⟩ := hv i v pv
    refine wpAny_bind (wpAny_holding (wpAny_holding (wpAny_bind (wpAny_pyHash_str ?_))))
    refine setS_add_hashed (hset.at fun o ho => m.heap S o sw ho) (by omega) fun h' sm hs2 => ?_
    refine wpAny_pure ⟨plainId_quiet PyProof.Rows.F.plain_set_update_loop _, ?_⟩
    have mh : ∀ (b : Addr) (o : Obj), b ≠ S → s'.heap.get? b = some o → h'.get? b = some o := fun b o nb hb => by rw [sm.2 b nb]; exact hb
    have tk : xs.take (i + 1) = xs.take i ++ [x] := by rw [List.take_add_one, ex]; rfl
    refine ih (i + 1) _ (by omega) (by omega) (W.frame _ s' h' (s'.toks + 1) hs' (by omega) fun b hb o ho => mh b o (fun z => hS (z ▸ hb)) ho) ⟨_, ?_, hs2.congr fun j => ?_⟩ fun s2 c2 m2 hc2 hs3 => ?_
    · split <;> omega
    · rw [tk]
      simp [List.mem_append]
    · refine hR s2 c2 ?_ hc2 hs3
      have m1 : Moved (S :: wr) G s { heap := h', gens := s'.gens, drawn := s'.drawn, toks := s'.toks + 1, os := s'.os } := (m.mono fun b hb => List.mem_cons_of_mem _ hb).then_heap (by omega) fun b o nb hb => mh b o (fun z => nb (by rw [z]; exact List.mem_cons_self)) hb
      exact m1.trans W.gtrans m2
end
end L2

namespace L2
open PySem PySem.Spec PySem.Calls PyProof.Rows
open PySem.W (dataLe AllAlike Sortable EachIs)
theorem Inv.grow {X : Cx} {pins : List (Addr × Obj)} {σ : List (Option V)} {H : Hp} {s s' : Shared} {a : Addr} {o : HO} (I : L2.Inv X pins σ H s) (hk : ∀ (b : Addr) (u : Obj), s.heap.get? b = some u → s'.heap.get? b = some u) (hg : s'.gens = s.gens) (hos : s'.os = s.os) (ha : s.heap.objs.size ≤ a) (ok : ObjOk X.prog X.w (upd H a o) s'.heap a o) : L2.Inv X pins σ (upd H a o) s' := by
  have J := I.laid (t' := s'.toks) hk ha ok
  obtain ⟨h', g', d', t', o'⟩ := s'
  have hg : g' = s.gens := hg
  have hos : o' = s.os := hos
  subst hg; subst hos
  exact ⟨J.ok, J.os, J.bare, J.base, J.loc, J.cell, J.free, J.freeC, J.pin, J.hok, J.len⟩
section
variable {P : Program} {w : World} {A : Around} {E : Value → Shared → Prop} {s : Shared} {a : Addr}
def txtOf (v : Value) : Str := match v with
  | .str x _ => x
  | _ => Str.empty
theorem each_txt : ∀ {vs : List Value}, (∀ v ∈ vs, ∃ x t, v = Value.str x t) → EachIs (fun v x => ∃ t, v = Value.str x t) vs (vs.map txtOf)
  | [], _ => .nil
  | v :: vs, h => by
    obtain ⟨x, t, rfl⟩ := h v List.mem_cons_self
    exact .cons ⟨t, rfl⟩ (each_txt fun v hv => h v (List.mem_cons_of_mem _ hv))
theorem each_imp {α β : Type} {R T : α → β → Prop} (h : ∀ a b, R a b → T a b) : ∀ {as : List α} {bs : List β}, EachIs R as bs → EachIs T as bs
  | _, _, .nil => .nil
  | _, _, .cons a b => .cons (h _ _ a) (each_imp h b)
theorem sorted_texts {S : Str → Bool} {n : Nat} {Q : Value → Shared → Prop} (hS : SetS w s.heap a S n) (hh : A.handled = none) (hu : A.units + 64 < cLine)
    (h : ∀ (s' : Shared) (p : Nat) (out : List Value) (c : Nat) (xs : List Str), (∀ (b : Addr) (o : Obj), s.heap.get? b = some o → s'.heap.get? b = some o) → s'.gens = s.gens → s'.os = s.os → s.heap.objs.size ≤ p →
      s'.heap.get? p = some (seqObj "list" out.toArray c) → EachIs (fun v x => ∃ t, v = Value.str x t) out (xs.mergeSort (dataLe false PyData.str)) → xs.Nodup → (∀ k, k ∈ xs ↔ S k = true) → xs.length = n → Q (Value.ref p) s') :
    wpAny (model P w) A (call (Value.builtin "sorted") [Value.ref a]) Q E s := by
  obtain ⟨o, es, ep, t, ho, hx, hd, hg, hnd, hk, hsz, hf, hn', hr, hl⟩ := hS
  refine Calls.call_function_entry kind_sorted plain_sorted entry_sorted (args_sorted1 _) ?_
  unfold Builtin.sorted
  refine wpAny_bind (wpAny_pure ?_)
  refine wpAny_bind (collect_set (by simp [hh]) ⟨o, ho, hx.1, hd⟩ hf hsz hr hl fun s1 out k1 k2 k3 k4 pm => ?_)
  have ol : out.length = es.size := by rw [pm.length_eq, List.length_map, Array.length_toList]
  have al : ∀ v ∈ out, ∃ x t, v = Value.str x t := fun v hv => by
    obtain ⟨e, he, rfl⟩ := List.mem_map.mp (pm.mem_iff.mp hv)
    obtain ⟨x, t, e2, _⟩ := hg e he
    exact ⟨x, t, e2⟩
  refine wpAny_bind (wpAny_newList ?_ (by rw [ol]; exact fits_of_scanBound hsz))
  have h0 : (s1.heap.push { cls := Value.type "list", data := Data.seq out.toArray }).get? s1.heap.objs.size = some (seqObj "list" out.toArray 0) := Heap.get?_push_size _ rfl
  refine wpAny_bind (wpAny_holding (W.list_sort_data (β := Str) (enc := PyData.str) (R := fun v x => ∃ t, v = Value.str x t) h0 (each_txt al) (each_imp (fun v x ⟨t, e⟩ => ⟨[], by subst e; exact ⟨.str x t, by simp⟩⟩) (each_txt al)) ?_ ?_ ?_ ?_ fun res rl re => ?_))
  · intro d hd d' hd'
    obtain ⟨x, _, rfl⟩ := List.mem_map.mp hd
    obtain ⟨y, _, rfl⟩ := List.mem_map.mp hd'
    rfl
  · refine .inr fun d hd => ?_
    obtain ⟨x, _, rfl⟩ := List.mem_map.mp hd
    exact ⟨(by intro z; cases z), (by intro xs z; cases z)⟩
  · rw [List.length_map, ol]; exact fits_of_scanBound hsz
  · intro b _
    have e1 : A.in1.units ≤ A.units + 8 := by simp [Around.in1]
    have e2 : (PyData.str b).depth = 0 := by simp [PyData.depth]
    rw [e2]; omega
  · refine wpAny_pure ⟨_, rfl, ?_⟩
    obtain ⟨c, e9⟩ := sortedHeap_at (out := res.toArray) h0
    have km : out.map txtOf = (out.map txtOf) := rfl
    have pk : (out.map txtOf).Perm (es.toList.map keyS) := by
      have := pm.map txtOf
      rw [List.map_map] at this
      exact this
    refine h _ _ res c (out.map txtOf) (fun b o hb => ?_) k3 k4 k2 e9 re (pk.nodup_iff.mpr hnd) (fun k => (pk.mem_iff).trans (hk k).symm) (by rw [List.length_map, ol, hn'])
    have hb1 := k1 b o hb
    have lb := Heap.lt_size hb1
    show (sortedHeap _ _ _ _).get? b = _
    rw [sortedHeap_old (Nat.ne_of_lt lb) (by rw [size_push']; exact Nat.lt_succ_of_lt lb)]
    exact Heap.get?_push_of_some _ hb1
end
def SetSO (w : World) (a : Addr) (S : Str → Bool) (n : Nat) : HO := .ext fun h => SetS w h a S n
theorem setSO_get {X : Cx} {pins : List (Addr × Obj)} {σ : St} {H : Hp} {s : Shared} {a : Addr} {S : Str → Bool} {n : Nat} (I : L2.Inv X pins σ H s) (e : H a = some (SetSO X.w a S n)) : SetS X.w s.heap a S n := (I.hok a _ e).1
theorem setSO_new {P : Program} {w : World} {H : Hp} {h : Heap} {a : Addr} {S : Str → Bool} {n : Nat} (e : SetS w h a S n) : ObjOk P w H h a (SetSO w a S n) :=
  ⟨e, by obtain ⟨o, _, _, _, ho, _⟩ := e; exact ⟨o, ho⟩, fun _ _ a b => a.at b⟩
def rSortTx (w : World) : List V → Hp → VK → Prop := fun vs H Q => ∃ (a : Addr) (S : Str → Bool) (n : Nat), vs = [V.ref a] ∧ H a = some (SetSO w a S n) ∧
  ∀ (xs : List Str) (p : Addr), xs.Nodup → (∀ k, k ∈ xs ↔ S k = true) → H p = none → Q (.ref p) (upd H p (.lst ((xs.mergeSort (dataLe false PyData.str)).map V.str)))
theorem each_strs : ∀ {us : List Value} {xs : List Str}, EachIs (fun v x => ∃ t, v = Value.str x t) us xs → Vals (xs.map V.str) us
  | _, _, .nil => .nil
  | _, _, .cons h t => .cons h (each_strs t)
theorem cr_sortTx {X : Cx} (hc : X.calm = true) (hu : X.A.units + 64 < cLine) : CallR X (.builtin "sorted") (rSortTx X.w) := by
  intro pins s σ H vs us Q I r h
  obtain ⟨a, S, n, rfl, ha, q⟩ := h
  have hS := setSO_get I ha
  have hn : n < scanBound := by
    obtain ⟨_, es, _, _, _, _, _, _, _, _, hz, _, e, _⟩ := hS
    omega
  rw [Vals.ref1 r]
  refine sorted_texts hS (I.ok.hd hc) hu fun s' p out c xs k1 k2 k3 k4 k5 k6 k7 k8 k9 => ?_
  have hv := each_strs k6
  have hlen : ((xs.mergeSort (dataLe false PyData.str)).map V.str).length ≤ sizeLine := by
    rw [List.length_map, List.length_mergeSort, k9]; exact fits_of_scanBound hn
  exact ⟨.ref p, upd H p (.lst ((xs.mergeSort (dataLe false PyData.str)).map V.str)), I.grow k1 k2 k3 k4 ⟨hlen, out, c, hv, k5⟩, rfl, q xs p k7 k8 (I.hok.fresh k4)⟩
end L2

/-! len(set of texts) -/
namespace L2
open PySem PySem.Spec PySem.Calls PyProof.Rows
def rLenS (w : World) : List V → Hp → VK → Prop := fun vs H Q => ∃ (a : Addr) (S : Str → Bool) (n : Nat), vs = [V.ref a] ∧ H a = some (SetSO w a S n) ∧
  ∀ ks : List Str, ks.Nodup → (∀ k, k ∈ ks ↔ S k = true) → Q (.int (ks.length : Int)) H
theorem call_lenS {X : Cx} : CallR X (.builtin "len") (rLenS X.w) := by
  intro pins s σ H vs us Q I r h
  obtain ⟨a, S, n, rfl, ha, q⟩ := h
  obtain ⟨o, es, ep, t, ho, hx, hd, hg, hnd, hk, hsz, hf, hn', hr, hl⟩ := setSO_get I ha
  rw [Vals.ref1 r]
  have hb : es.size < 4096 := hsz
  refine PySem.call_len_set ho hx hd hf (by omega) ?_
  have := q (es.toList.map keyS) hnd (fun k => (hk k).symm)
  rw [List.length_map, Array.length_toList] at this
  exact ⟨.int (es.size : Int), H, I.tok _, ⟨_, rfl⟩, this⟩
end L2

namespace L2
open PySem PySem.Spec PySem.Calls PyProof.Rows
section
variable {P : Program} {w : World} {A : Around} {E : Value → Shared → Prop} {s : Shared}
theorem set_of_texts_tuple {l : Addr} {items : Array Value} (ns : List Str) {Q : Value → Shared → Prop} (hh : A.handled = none) (hl : s.heap.IsTuple l items) (hisz : items.size = ns.length) (hit : ∀ (i : Nat) (v : Value), items[i]? = some v → ∃ x t, ns[i]? = some x ∧ v = Value.str x t) (hb : ns.length + 1 < scanBound)
    (h : ∀ (h' : Heap) (tk c : Nat), SetS w h' s.heap.objs.size (fun j => decide (j ∈ ns)) c → c ≤ ns.length → (∀ b o, s.heap.get? b = some o → h'.get? b = some o) → Q (.ref s.heap.objs.size) { s with heap := h', toks := tk }) :
    wpAny (model P w) A (call (.type "set") [.ref l]) Q E s := by
  obtain ⟨c, tl, hmro⟩ := F.called_set.mro
  have hmade := F.called_set.made
  have hsub := F.called_set.sub
  refine wpAny_call (codeAny_of_tree ?_)
  show wpAny _ _ (callAny (.type "set") _) _ _ _
  refine wpAny_pure ⟨Code.quiet_builtin _ (by decide +kernel), codeAny_builtin F.entry_type_call ?_⟩
  rw [Around.under_plain (weight_type_call_type "set" [.ref l] []) rfl]
  have h1 := F.called_set.notType
  have h2 := F.called_set.canCreate
  have hct := F.typeCall_set_1 (.ref l)
  repeat (any_goals (first | assumption | wp_step))
  refine codeAny_mono (code_set_led1 (.ref l) (E := E) (Q₁ := fun obj s₁ => obj = .ref s.heap.objs.size ∧ s₁ = { s with heap := s.heap.push (newSet w) }) ⟨rfl, rfl⟩) fun r s₁ hr => ?_
  match r, hr with
  | .error e, hr => exact hr
  | .ok (.ret obj), hr =>
    obtain ⟨rfl, rfl⟩ := hr
    have hS : (s.heap.push (newSet w)).get? s.heap.objs.size = some (newSet w) := Heap.get?_push_size _ rfl
    have hT : Shared.TypeIs { s with heap := s.heap.push (newSet w) } (.ref s.heap.objs.size) "set" := ⟨_, hS, rfl⟩
    have hli := F.called_set.init.lookup
    have hbi := F.called_set.init.bind (.ref s.heap.objs.size)
    repeat (any_goals (first | assumption | wp_step))
    refine codeAny_mono (codeAny_call_builtin (R := wants (fun r s₂ => r = .none ∧ ∃ h' tk c, s₂ = { s with heap := h', toks := tk } ∧ SetS w h' s.heap.objs.size (fun j => decide (j ∈ ns)) c ∧ c ≤ ns.length ∧
        (∀ b o, s.heap.get? b = some o → h'.get? b = some o)) E) F.called_set.init.plain F.entry_set_init (check_set_init_1 hT ?_)) fun r₂ s₂ hr₂ => ?_
    · obtain ⟨⟨ocls, odict, odata, oslots⟩, hol, hcl, nl, hdl⟩ := hl
      simp only at hcl hdl
      subst hcl; subst hdl
      have hlS : l < s.heap.objs.size := Heap.lt_size hol
      have hol' := Heap.get?_push_of_some (newSet w) hol
      have hl1 : (s.heap.push (newSet w)).IsTuple l items := ⟨_, hol', rfl, nl, rfl⟩
      have hsls := F.sub_tuple_set
      have hslf := F.sub_tuple_frozenset
      have hne : (Value.type "tuple" == Value.type "dict") = false := by decide
      unfold Builtin.«set.__init__» noKeywords Builtin.Frozenset.updateFrom
      generalize hPI : pyIter = PI
      wp_walk
      subst hPI
      refine wpAny_pyIter_tuple hl1 ?_
      refine wpAny_bind (wpAny_runValue ?_)
      have hh3 : A.in1.in1.in1.handled = none := by simp [hh]
      have hneI : l ≠ (s.heap.push (newSet w)).objs.size := by
        rw [Heap.size_push]; exact Nat.ne_of_lt (Nat.lt_succ_of_lt hlS)
      have hSf : s.heap.objs.size ∉ [(s.heap.push (newSet w)).objs.size, l] := by
        rw [Heap.size_push]
        simp only [List.mem_cons, List.mem_singleton, List.not_mem_nil, or_false, not_or]
        exact ⟨Nat.ne_of_lt (Nat.lt_succ_self _), Nat.ne_of_gt hlS⟩
      refine set_update_texts ((Walks.tuple hh3 _ l hneI items).toS) s.heap.objs.size hSf ns hisz hb hit (items.size - 0) 0 _ (by omega) (Nat.zero_le _)
        ⟨⟨_, Heap.get?_push_size _ rfl, rfl, rfl⟩, (hl1.push _)⟩ ⟨0, Nat.le_refl 0, (setS_new_at (Heap.get?_push_of_some _ hS)).congr fun j => by simp⟩ fun s' c' hm hc' hS' => ?_
      · obtain ⟨h', g2, d', tk', os'⟩ := s'
        have eg : g2 = s.gens := hm.gens
        have ed : d' = s.drawn := hm.drawn
        have eo : os' = s.os := hm.os
        subst eg; subst ed; subst eo
        show wpAny _ _ _ _ _ _
        refine wpAny_pure ?_
        show wpAny _ _ (ret Value.none) _ _ _
        rw [hisz] at hc'
        refine wpAny_pure ⟨rfl, h', tk', c', rfl, hS', hc', fun b o e => hm.heap b o ?_ (Heap.get?_push_of_some _ (Heap.get?_push_of_some _ e))⟩
        have hb0 : b < s.heap.objs.size := Heap.lt_size e
        rw [Heap.size_push]
        simp only [List.mem_cons, List.mem_singleton, List.not_mem_nil, or_false, not_or]
        exact ⟨Nat.ne_of_lt hb0, Nat.ne_of_lt (Nat.lt_succ_of_lt hb0)⟩
    · match r₂, hr₂ with
      | .error e, hr₂ => exact hr₂
      | .ok (.ret r), hr₂ =>
        obtain ⟨rfl, h', tk, c', rfl, hS', hc', hk'⟩ := hr₂
        repeat (any_goals (first | assumption | wp_step))
        exact h _ _ _ hS' hc' hk'
end
theorem vals_atP : ∀ {xs : List Str} {us : List Value}, Vals (xs.map V.str) us → ∀ (i : Nat) (v : Value), us[i]? = some v → ∃ x t, xs[i]? = some x ∧ v = Value.str x t
  | [], _, h, i, v, e => by cases h; cases e
  | x :: xs, _, h, i, v, e => by
    cases h with
    | cons a b =>
      cases i with
      | zero =>
        obtain ⟨t, rfl⟩ := a
        exact ⟨x, t, rfl, (Option.some.inj e).symm⟩
      | succ i => exact vals_atP b i v e
def rSetP (K : PySem.W.Frag) (w : World) : List V → Hp → VK → Prop := fun vs H Q => ∃ (a : Addr) (xs : List Str), vs = [V.ref a] ∧ SqT K H a (xs.map V.str) ∧ xs.length + 1 < scanBound ∧
  ∀ (p : Addr) (c : Nat), H p = none → Q (.ref p) (upd H p (SetSO w p (fun j => decide (j ∈ xs)) c))
theorem cr_setP {X : Cx} (hc : X.calm = true) : CallR X (.type "set") (rSetP X.K X.w) := by
  intro pins s σ H vs us Q I r h
  obtain ⟨a, xs, rfl, hs, hb, q⟩ := h
  obtain ⟨its, rv, pl, hz⟩ := I.tuple hs
  rw [Vals.ref1 r]
  have hl := rv.length
  rw [List.length_map] at hl
  refine set_of_texts_tuple xs (I.ok.hd hc) pl (by simp; omega) (fun i v hv => vals_atP rv i v (by simpa using hv)) hb fun h' tk c hS hc' hk => ?_
  exact ⟨.ref s.heap.objs.size, upd H s.heap.objs.size (SetSO X.w s.heap.objs.size (fun j => decide (j ∈ xs)) c), I.laid hk (Nat.le_refl _) (setSO_new hS), rfl, q _ c I.fresh⟩
end L2

/-! len(set(tuple of texts)) -/
namespace DL
open PySem PySem.Spec L2
open PyProof.Rows hiding St
def dLenSetP (de : DE) : DE := fun ρ xe R => de ρ xe fun d => match d with
  | .tup ds => ∃ ps, strsD ds = some ps ∧ ps.length + 1 < 4096 ∧ ∀ ks : List (List Nat), ks.Nodup → (∀ k, k ∈ ks ↔ k ∈ ps) → R (.int ((ks.length : Nat) : Int))
  | _ => False
section
variable {X : Cx} {E : XK} {e : Expr} {de : DE} {p p' pos pos' : Pos}
theorem xLenSetP (hc : X.calm = true) (hg : Gl X "len") (hm : X.mg "len" = none) (hg' : Gl X "set") (hm' : X.mg "set" = none) (ha : XEx X E e de)
    (he : starEach [e] X.env = (false, eval e X.env) :: starEach [] X.env := by rfl)
    (he' : starEach [Expr.Call (.Name "set" p') [e] [] pos'] X.env = (false, eval (Expr.Call (.Name "set" p') [e] [] pos') X.env) :: starEach [] X.env := by rfl) :
    XEx X E (.Call (.Name "len" p) [.Call (.Name "set" p') [e] [] pos'] [] pos) (dLenSetP de) :=
  .of (pe_callB call_lenS hg hm (by decide +kernel) (pa_cons (pe_callTy (cr_setP hc) hg' hm' (by decide +kernel) (pa_cons ha.pe pa_nil he) (he := he)) pa_nil he') (he := he')) fun B G0 H0 G H σ ρ I xe lx Q R kk q =>
  sE B G0 H0 G H σ ρ I xe lx _ _ (fun v G' H' d t r z => by
    split at z
    · obtain ⟨ps, h1, h2, z⟩ := z
      cases r with
      | @tup a xv _ a1 b1 =>
        have ev := strs_rep b1 h1
        refine ⟨a, ps.map fun q => (⟨q.toArray⟩ : Str), rfl, by rw [← ev]; exact SqT.of (t.gh _ _ a1), by rw [List.length_map]; exact h2, fun q c hq => ?_⟩
        have t0 : Stt B G' H' G' H' := Stt.refl t.gh t.bag
        have t1 := t0.new (o := SetSO X.w q (fun j => decide (j ∈ ps.map fun q => (⟨q.toArray⟩ : Str))) c) hq
        refine ⟨q, _, c, rfl, upd_same, fun ks nd hm2 => ?_⟩
        have := z (ks.map fun k => k.cps.toList) (List.pairwise_map.mpr (nd.imp fun {a b} ne e => ne (by
          obtain ⟨a⟩ := a; obtain ⟨b⟩ := b
          have e : a.toList = b.toList := e
          congr 1
          exact Array.toList_inj.mp e))) fun k => by
            rw [List.mem_map]
            constructor
            · rintro ⟨s, hs, rfl⟩
              obtain ⟨q, hq, e⟩ := List.mem_map.mp (of_decide_eq_true ((hm2 s).mp hs))
              rw [← e]; simpa using hq
            · intro h
              exact ⟨⟨k.toArray⟩, (hm2 _).mpr (decide_eq_true (List.mem_map.mpr ⟨k, h, rfl⟩)), by simp⟩
        rw [List.length_map] at this
        exact kk _ _ _ _ (t.trans t1) (.int _) this
    · exact z.elim) q
end
end DL

namespace L2
open PySem PySem.Spec PySem.Calls PyProof.Rows
section
variable {P : Program} {w : World} {A : Around} {E : Value → Shared → Prop} {s : Shared}
def lts (x : Str) : List Str := x.cps.toList.map fun c => ⟨#[c]⟩
theorem set_of_text {x : Str} {tx : Tok} {Q : Value → Shared → Prop} (hh : A.handled = none) (hb : x.cps.size + 1 < scanBound)
    (h : ∀ (h' : Heap) (tk c : Nat), SetS w h' s.heap.objs.size (fun j => decide (j ∈ lts x)) c → c ≤ x.cps.size → (∀ b o, s.heap.get? b = some o → h'.get? b = some o) → Q (.ref s.heap.objs.size) { s with heap := h', toks := tk }) :
    wpAny (model P w) A (call (.type "set") [.str x tx]) Q E s := by
  obtain ⟨c, tl, hmro⟩ := F.called_set.mro
  have hmade := F.called_set.made
  have hsub := F.called_set.sub
  refine wpAny_call (codeAny_of_tree ?_)
  show wpAny _ _ (callAny (.type "set") _) _ _ _
  refine wpAny_pure ⟨Code.quiet_builtin _ (by decide +kernel), codeAny_builtin F.entry_type_call ?_⟩
  rw [Around.under_plain (weight_type_call_type "set" [.str x tx] []) rfl]
  have h1 := F.called_set.notType
  have h2 := F.called_set.canCreate
  have hct := F.typeCall_set_1 (.str x tx)
  repeat (any_goals (first | assumption | wp_step))
  refine codeAny_mono (code_set_led1 (.str x tx) (E := E) (Q₁ := fun obj s₁ => obj = .ref s.heap.objs.size ∧ s₁ = { s with heap := s.heap.push (newSet w) }) ⟨rfl, rfl⟩) fun r s₁ hr => ?_
  match r, hr with
  | .error e, hr => exact hr
  | .ok (.ret obj), hr =>
    obtain ⟨rfl, rfl⟩ := hr
    have hS : (s.heap.push (newSet w)).get? s.heap.objs.size = some (newSet w) := Heap.get?_push_size _ rfl
    have hT : Shared.TypeIs { s with heap := s.heap.push (newSet w) } (.ref s.heap.objs.size) "set" := ⟨_, hS, rfl⟩
    have hli := F.called_set.init.lookup
    have hbi := F.called_set.init.bind (.ref s.heap.objs.size)
    repeat (any_goals (first | assumption | wp_step))
    refine codeAny_mono (codeAny_call_builtin (R := wants (fun r s₂ => r = .none ∧ ∃ h' tk c, s₂ = { s with heap := h', toks := tk } ∧ SetS w h' s.heap.objs.size (fun j => decide (j ∈ lts x)) c ∧ c ≤ x.cps.size ∧
        (∀ b o, s.heap.get? b = some o → h'.get? b = some o)) E) F.called_set.init.plain F.entry_set_init (check_set_init_1 hT ?_)) fun r₂ s₂ hr₂ => ?_
    · have hsls := F.sub_str_set
      have hslf := F.sub_str_frozenset
      have hne : (Value.type "str" == Value.type "dict") = false := by decide
      unfold Builtin.«set.__init__» noKeywords Builtin.Frozenset.updateFrom
      generalize hPI : pyIter = PI
      wp_walk
      subst hPI
      refine wpAny_pyIter_str fun oi St hW h0 => ?_
      refine wpAny_bind (wpAny_runValue ?_)
      have hh3 : A.in1.in1.in1.handled = none := by simp [hh]
      have hSf : s.heap.objs.size ∉ [(s.heap.push (newSet w)).objs.size] := by
        rw [Heap.size_push]
        simp only [List.mem_cons, List.not_mem_nil, or_false]
        exact Nat.ne_of_lt (Nat.lt_succ_self _)
      have lz : x.cps.size = (lts x).length := by unfold lts; rw [List.length_map, Array.length_toList]
      refine set_update_texts ((hW _ hh3).toS) s.heap.objs.size hSf (lts x) lz (by rw [← lz]; exact hb) (fun i v hv => ?_) (x.cps.size - 0) 0 _ (by omega) (Nat.zero_le _)
        h0 ⟨0, Nat.le_refl 0, (setS_new_at (Heap.get?_push_of_some _ hS)).congr fun j => by simp⟩ fun s' c' hm hc' hS' => ?_
      · obtain ⟨c, u, e1, e2⟩ := hv
        exact ⟨_, u, by unfold lts; rw [List.getElem?_map, Array.getElem?_toList, e1]; rfl, e2⟩
      · obtain ⟨h', g2, d', tk', os'⟩ := s'
        have eg : g2 = s.gens := hm.gens
        have ed : d' = s.drawn := hm.drawn
        have eo : os' = s.os := hm.os
        subst eg; subst ed; subst eo
        show wpAny _ _ _ _ _ _
        refine wpAny_pure ?_
        show wpAny _ _ (ret Value.none) _ _ _
        refine wpAny_pure ⟨rfl, h', tk', c', rfl, hS', hc', fun b o e => hm.heap b o ?_ (Heap.get?_push_of_some _ (Heap.get?_push_of_some _ e))⟩
        have hb0 : b < s.heap.objs.size := Heap.lt_size e
        rw [Heap.size_push]
        simp only [List.mem_cons, List.mem_singleton, List.not_mem_nil, or_false, not_or]
        exact ⟨Nat.ne_of_lt hb0, Nat.ne_of_lt (Nat.lt_succ_of_lt hb0)⟩
    · match r₂, hr₂ with
      | .error e, hr₂ => exact hr₂
      | .ok (.ret r), hr₂ =>
        obtain ⟨rfl, h', tk, c', rfl, hS', hc', hk'⟩ := hr₂
        repeat (any_goals (first | assumption | wp_step))
        exact h _ _ _ hS' hc' hk'
end
def rSetT (w : World) : List V → Hp → VK → Prop := fun vs H Q => ∃ x : Str, vs = [V.str x] ∧ x.cps.size + 1 < scanBound ∧
  ∀ (p : Addr) (c : Nat), H p = none → Q (.ref p) (upd H p (SetSO w p (fun j => decide (j ∈ lts x)) c))
theorem cr_setT {X : Cx} (hc : X.calm = true) : CallR X (.type "set") (rSetT X.w) := by
  intro pins s σ H vs us Q I r h
  obtain ⟨x, rfl, hb, q⟩ := h
  obtain ⟨u, rfl, ⟨t, rfl⟩⟩ := vals1 r
  refine set_of_text (I.ok.hd hc) hb fun h' tk c hS hc' hk => ?_
  exact ⟨.ref s.heap.objs.size, upd H s.heap.objs.size (SetSO X.w s.heap.objs.size (fun j => decide (j ∈ lts x)) c), I.laid hk (Nat.le_refl _) (setSO_new hS), rfl, q _ c I.fresh⟩
end L2
namespace DL
open PySem PySem.Spec L2
open PyProof.Rows hiding St
/-- sorted(set(e)), e a text -/
def dSortSetT (de : DE) : DE := fun ρ xe R => de ρ xe fun d => match d with
  | .str w => w.length + 1 < 4096 ∧ ∀ ms : List Nat, ms.Pairwise (· < ·) → (∀ c, c ∈ ms ↔ c ∈ w) → R (.lst (ms.map fun c => .str [c]))
  | _ => False
end DL

namespace DL
open PySem PySem.Spec L2
open PyProof.Rows hiding St
abbrev leT (a b : Str) : Bool := PySem.W.dataLe false PyData.str a b
theorem leT_eq (x y : Str) : leT x y = !decide (y.cps.toList < x.cps.toList) := by
  show PySem.W.dataLe false PyData.str x y = _
  rw [PySem.W.dataLe_eq]
  show (!PySem.W.dataLt (PyData.str y) (PyData.str x)) = _
  rw [PySem.W.dataLt_str]
theorem leT_iff (x y : Str) : leT x y = true ↔ x.cps.toList ≤ y.cps.toList := by
  rw [leT_eq, Bool.not_eq_true', decide_eq_false_iff_not]
  exact List.not_lt
theorem leT_trans (a b c : Str) (h1 : leT a b = true) (h2 : leT b c = true) : leT a c = true := by
  rw [leT_iff] at *
  exact List.le_trans h1 h2
theorem leT_total (a b : Str) : (leT a b || leT b a) = true := by
  rw [Bool.or_eq_true, leT_iff, leT_iff]
  exact List.le_total _ _
def chOf (x : Str) : Nat := x.cps.toList.headD 0
theorem lts_mem {w : List Nat} {x : Str} (h : x ∈ lts ⟨w.toArray⟩) : x = ⟨#[chOf x]⟩ ∧ chOf x ∈ w := by
  obtain ⟨c, hc, rfl⟩ := List.mem_map.mp h
  have e : chOf ⟨#[c]⟩ = c := rfl
  rw [e]
  exact ⟨rfl, by simpa using hc⟩
theorem mem_lts {w : List Nat} {c : Nat} (h : c ∈ w) : (⟨#[c]⟩ : Str) ∈ lts ⟨w.toArray⟩ := List.mem_map.mpr ⟨c, by simpa using h, rfl⟩
theorem signs_sorted {w : List Nat} {xs : List Str} (nd : xs.Nodup) (hm : ∀ k, k ∈ xs ↔ decide (k ∈ lts ⟨w.toArray⟩) = true) : ∃ ms : List Nat, ms.Pairwise (· < ·) ∧ (∀ c, c ∈ ms ↔ c ∈ w) ∧ xs.mergeSort leT = ms.map fun c => (⟨#[c]⟩ : Str) := by
  have pm := List.mergeSort_perm xs leT
  have pw := List.pairwise_mergeSort leT_trans leT_total xs
  have nd2 : (xs.mergeSort leT).Nodup := pm.nodup_iff.mpr nd
  have one : ∀ x ∈ xs.mergeSort leT, x = ⟨#[chOf x]⟩ ∧ chOf x ∈ w := fun x hx => lts_mem (of_decide_eq_true ((hm x).mp (pm.mem_iff.mp hx)))
  refine ⟨(xs.mergeSort leT).map chOf, ?_, fun c => ?_, ?_⟩
  · refine List.pairwise_map.mpr ?_
    have both := List.Pairwise.and pw nd2
    have key : ∀ l : List Str, (∀ x ∈ l, x = ⟨#[chOf x]⟩) → l.Pairwise (fun a b => leT a b = true ∧ a ≠ b) → l.Pairwise fun a b => chOf a < chOf b := by
      intro l
      induction l with
      | nil => intro _ _; exact .nil
      | cons a r ih =>
        intro h1 h2
        obtain ⟨h3, h4⟩ := List.pairwise_cons.mp h2
        refine .cons (fun b hb => ?_) (ih (fun x hx => h1 x (List.mem_cons_of_mem _ hx)) h4)
        obtain ⟨le, ne⟩ := h3 b hb
        have ea := h1 a List.mem_cons_self
        have eb := h1 b (List.mem_cons_of_mem _ hb)
        rw [leT_eq, Bool.not_eq_true', decide_eq_false_iff_not, ea, eb] at le
        have le : ¬ [chOf b] < [chOf a] := le
        have n1 : ¬ chOf b < chOf a := fun z => le (List.cons_lt_cons_iff.mpr (.inl z))
        have n2 : chOf a ≠ chOf b := fun z => ne (by rw [ea, eb, z])
        omega
    exact key _ (fun x hx => (one x hx).1) both
  · rw [List.mem_map]
    constructor
    · rintro ⟨x, hx, rfl⟩; exact (one x hx).2
    · intro h
      exact ⟨⟨#[c]⟩, pm.mem_iff.mpr ((hm _).mpr (decide_eq_true (mem_lts h))), rfl⟩
  · rw [List.map_map]
    have : ∀ l : List Str, (∀ x ∈ l, x = ⟨#[chOf x]⟩) → l = l.map ((fun c => (⟨#[c]⟩ : Str)) ∘ chOf) := by
      intro l
      induction l with
      | nil => intro _; rfl
      | cons a r ih =>
        intro h
        rw [List.map_cons, ← ih fun x hx => h x (List.mem_cons_of_mem _ hx)]
        congr 1
        exact h a List.mem_cons_self
    exact this _ fun x hx => (one x hx).1
theorem signs_reps {K : PySem.W.Frag} {G : Hp} : ∀ ms : List Nat, Reps K G ((ms.map fun c => (⟨#[c]⟩ : Str)).map V.str) (ms.map fun c => D.str [c])
  | [] => .nil
  | c :: r => .cons (.str [c]) (signs_reps r)
section
variable {X : Cx} {E : XK} {e : Expr} {de : DE} {p p' pos pos' : Pos} {k : Nat}
theorem xSortSetT (rg : RmG k X.A) (hc : X.calm = true) (hg : Gl X "sorted") (hm : X.mg "sorted" = none) (hg' : Gl X "set") (hm' : X.mg "set" = none) (ha : XEx X E e de)
    (he : starEach [e] X.env = (false, eval e X.env) :: starEach [] X.env := by rfl)
    (he' : starEach [Expr.Call (.Name "set" p') [e] [] pos'] X.env = (false, eval (Expr.Call (.Name "set" p') [e] [] pos') X.env) :: starEach [] X.env := by rfl) :
    XEx X E (.Call (.Name "sorted" p) [.Call (.Name "set" p') [e] [] pos'] [] pos) (dSortSetT de) :=
  .of (pe_callB (cr_sortTx hc (by have := rg.rm.un; omega)) hg hm (by decide +kernel) (pa_cons (pe_callTy (cr_setT hc) hg' hm' (by decide +kernel) (pa_cons ha.pe pa_nil he) (he := he)) pa_nil he') (he := he')) fun B G0 H0 G H σ ρ I xe lx Q R kk q =>
  sE B G0 H0 G H σ ρ I xe lx _ _ (fun v G' H' d t r z => by
    split at z
    · rename_i w
      obtain ⟨hw, z⟩ := z
      cases r
      refine ⟨⟨w.toArray⟩, rfl, by show w.toArray.size + 1 < 4096; simpa using hw, fun q c hq => ?_⟩
      have t0 : Stt B G' H' G' H' := Stt.refl t.gh t.bag
      have t1 := t0.new (o := SetSO X.w q (fun j => decide (j ∈ lts ⟨w.toArray⟩)) c) hq
      refine ⟨q, _, c, rfl, upd_same, fun xs q2 nd hm2 hq2 => ?_⟩
      obtain ⟨ms, m1, m2, m3⟩ := signs_sorted nd hm2
      show Q _ (upd _ q2 (.lst ((xs.mergeSort leT).map V.str)))
      rw [m3]
      exact (Stt.refl t1.gh t1.bag).lst (signs_reps ms) (fun v G3 H3 f t3 r3 q3 => kk v G3 H3 f ((t.trans t1).trans t3) r3 q3) (z ms m1 m2) q2 hq2
    · exact z.elim) q
end
end DL

/-! text.count(letter), text.endswith(text) -/
namespace DL
open PySem PySem.Spec L2
open PyProof.Rows hiding St
def dCntS (dx dy : DE) : DE := fun ρ xe R => dx ρ xe fun x => match x with
  | .str a => dy ρ xe fun y => match y with
    | .str [c] => R (.int ((a.count c : Nat) : Int))
    | _ => False
  | _ => False
def endsB (a b : List Nat) : Bool := decide (b.length ≤ a.length) && decide (a.drop (a.length - b.length) = b)
def dEndT (dx dy : DE) : DE := fun ρ xe R => dx ρ xe fun x => match x with
  | .str a => dy ρ xe fun y => match y with
    | .str b => R (.bl (endsB a b))
    | _ => False
  | _ => False
theorem cnt_count (c : Nat) : ∀ l : List Nat, PyProof.Rows.cnt c l = ((l.count c : Nat) : Int)
  | [] => rfl
  | a :: r => by
    have ih := cnt_count c r
    have st : PyProof.Rows.cnt c (a :: r) = (if Spec.same (PyData.str { cps := #[a] }) (PyData.str { cps := #[c] }) = true then 1 else 0) + PyProof.Rows.cnt c r := rfl
    have sm : Spec.same (PyData.str { cps := #[a] }) (PyData.str { cps := #[c] }) = decide (a = c) := by
      simp only [Spec.same]
      rw [Bool.beq_eq_decide_eq]
      exact decide_eq_decide.mpr ⟨fun z => by have := congrArg (fun s : Str => s.cps.toList) z; simpa using this, fun z => by rw [z]⟩
    rw [st, sm, ih, List.count_cons]
    by_cases h : a = c
    · subst h; simp; omega
    · simp [h]
theorem ends_eq (a b : List Nat) : Txt.endswith ⟨a.toArray⟩ ⟨b.toArray⟩ = endsB a b := by
  unfold Txt.endswith endsB
  rw [StrLaws.subAt_eq]
  have la : (⟨a.toArray⟩ : Str).length = a.length := by show a.toArray.size = _; simp
  have lb : (⟨b.toArray⟩ : Str).length = b.length := by show b.toArray.size = _; simp
  rw [la, lb, Nat.zero_add]
  by_cases h : b.length ≤ a.length
  · rw [decide_eq_true h, Bool.true_and, Bool.true_and]
    show (List.take b.length (List.drop (a.length - b.length) a) == b) = _
    rw [List.take_of_length_le (by rw [List.length_drop]; omega)]
    by_cases e : List.drop (a.length - b.length) a = b
    · rw [decide_eq_true e]; simp [e]
    · rw [decide_eq_false e]; simpa using e
  · rw [decide_eq_false h, Bool.false_and, Bool.false_and]
section
variable {X : Cx} {E : XK} {o e : Expr} {dx dy : DE} {apos pos : Pos}
theorem xCntS (ho : XEx X E o dx) (he : XEx X E e dy) 
    (hs : starEach [e] X.env = (false, eval e X.env) :: starEach [] X.env := by rfl)
    (hbase : attributeBase o "count" X.env (eval o X.env) = eval o X.env := by rfl)
    (h1 : ((((backTo pos (starEach [e] X.env)).all fun x => !x.fst) && (backToKw pos (keywordEach [] X.env)).all fun x => x.fst.isSome) && decide (([e].length + ([] : List Nat).length + if ([] : List Nat).isEmpty = true then 0 else 1) < 30)) = true := by rfl)
    (hline : (apos.endLine == pos.line) = true := by rfl)
    (h2 : ((backTo pos (starEach [] X.env)).any fun x => x.fst) = false := by rfl) :
    XEx X E (.Call (.Attribute o "count" apos) [e] [] pos) (dCntS dx dy) :=
  .of (pe_bm PySem.F.plainAttrs_str PySem.F.slot_str_count PySem.F.type_str_count mt_count ho.pe (pa_cons he.pe pa_nil hs) hbase h1 hline hs h2) fun B G0 H0 G H σ ρ I xe lx Q R k q => by
    refine sE B G0 H0 G H σ ρ I xe lx _ _ (fun v G' H' d t r z => ?_) q
    split at z
    · rename_i a
      cases r
      refine ⟨by simp [tyV], sE B G0 H0 G' H' σ ρ (I.step t) xe lx _ _ (fun u G2 H2 d2 t2 r2 z2 => ?_) z⟩
      split at z2
      · rename_i c
        cases r2
        refine ⟨_, _, rfl, rfl, ?_⟩
        have e : Txt.count ⟨a.toArray⟩ ⟨[c].toArray⟩ = ((a.count c : Nat) : Int) := by
          rw [show (⟨[c].toArray⟩ : Str) = ⟨#[c]⟩ from rfl, PyProof.Rows.count_cnt]
          exact cnt_count c a
        rw [e]
        exact k _ G2 H2 _ (t.trans t2) (.int _) z2
      · exact z2.elim
    · exact z.elim
theorem xEndT (ho : XEx X E o dx) (he : XEx X E e dy) 
    (hs : starEach [e] X.env = (false, eval e X.env) :: starEach [] X.env := by rfl)
    (hbase : attributeBase o "endswith" X.env (eval o X.env) = eval o X.env := by rfl)
    (h1 : ((((backTo pos (starEach [e] X.env)).all fun x => !x.fst) && (backToKw pos (keywordEach [] X.env)).all fun x => x.fst.isSome) && decide (([e].length + ([] : List Nat).length + if ([] : List Nat).isEmpty = true then 0 else 1) < 30)) = true := by rfl)
    (hline : (apos.endLine == pos.line) = true := by rfl)
    (h2 : ((backTo pos (starEach [] X.env)).any fun x => x.fst) = false := by rfl) :
    XEx X E (.Call (.Attribute o "endswith" apos) [e] [] pos) (dEndT dx dy) :=
  .of (pe_bm PySem.F.plainAttrs_str PySem.F.slot_str_endswith PySem.F.type_str_endswith mt_endswith ho.pe (pa_cons he.pe pa_nil hs) hbase h1 hline hs h2) fun B G0 H0 G H σ ρ I xe lx Q R k q => by
    refine sE B G0 H0 G H σ ρ I xe lx _ _ (fun v G' H' d t r z => ?_) q
    split at z
    · rename_i a
      cases r
      refine ⟨by simp [tyV], sE B G0 H0 G' H' σ ρ (I.step t) xe lx _ _ (fun u G2 H2 d2 t2 r2 z2 => ?_) z⟩
      split at z2
      · rename_i b
        cases r2
        refine ⟨_, _, rfl, rfl, ?_⟩
        rw [ends_eq]
        exact k _ G2 H2 _ (t.trans t2) (.bl _) z2
      · exact z2.elim
    · exact z.elim
end
end DL

/-! zip(x, y) of lists, tuples and texts in any mix -/
namespace ZP
open PySem PySem.Spec PyProof.Rows L2
/-- what is walked -/
inductive Src where
  | lL (a : Addr) | tT (a : Addr) | sS (x : Str)
def Src.at (K : PySem.W.Frag) (i : Nat) (H : Hp) (x : V) : Src → Prop
  | .lL a => ∃ xs, SqL K H a xs ∧ xs[i]? = some x
  | .tT a => ∃ xs, SqT K H a xs ∧ xs[i]? = some x
  | .sS y => ∃ c, y.cps[i]? = some c ∧ x = .str ⟨#[c]⟩
def Src.yl (K : PySem.W.Frag) (i : Nat) (H : Hp) (x : V) : Src → Prop
  | .lL a => ∀ xs, SqL K H a xs → xs[i]? = some x
  | .tT a => ∀ xs, SqT K H a xs → xs[i]? = some x
  | .sS y => ∃ c, y.cps[i]? = some c ∧ x = .str ⟨#[c]⟩
theorem Src.yl_of {X : Cx} {pins : List (Addr × Obj)} {σ : L2.St} {H : Hp} {s : Shared} {i : Nat} {x : V} (I : Inv X pins σ H s) : ∀ {r : Src}, r.at X.K i H x → r.yl X.K i H x
  | .lL a, ⟨xs, h, e⟩ => fun ys hy => by rw [I.list_inj hy h]; exact e
  | .tT a, ⟨xs, h, e⟩ => fun ys hy => by rw [I.tuple_inj hy h]; exact e
  | .sS y, h => h
def Src.out (K : PySem.W.Frag) (i : Nat) (H : Hp) : Src → Prop
  | .lL a => ∃ xs, SqL K H a xs ∧ xs.length ≤ i
  | .tT a => ∃ xs, SqT K H a xs ∧ xs.length ≤ i
  | .sS y => y.cps.size ≤ i
def Src.is (K : PySem.W.Frag) (H : Hp) (v : V) : Src → Prop
  | .lL a => v = .ref a ∧ ∃ xs, SqL K H a xs
  | .tT a => v = .ref a ∧ ∃ xs, SqT K H a xs
  | .sS y => v = .str y
def Src.below (n : Addr) : Src → Prop
  | .lL a => a < n
  | .tT a => a < n
  | .sS _ => True
def Src.fp (it : Addr) : Src → List Addr
  | .lL a => [it, a]
  | .tT a => [it, a]
  | .sS _ => [it]
def Src.itr (it : Addr) (i : Nat) (h : Heap) : Src → Prop
  | .lL a => h.IsListIter it a i
  | .tT a => h.IsTupleIter it a i
  | .sS y => ∃ t, h.IsStrIter it (strIterType y) y t i
theorem Src.itr_fields {it : Addr} {i : Nat} {h : Heap} : ∀ {r : Src}, r.itr it i h → ∃ o vs, h.get? it = some o ∧ o.data = .fields vs
  | .lL _, ⟨o, e, _, d⟩ => ⟨o, _, e, d⟩
  | .tT _, ⟨o, e, _, d⟩ => ⟨o, _, e, d⟩
  | .sS _, ⟨_, o, e, _, d⟩ => ⟨o, _, e, d⟩
theorem Src.itr_at {it : Addr} {i : Nat} {h h' : Heap} (k : ∀ o, h.get? it = some o → h'.get? it = some o) : ∀ {r : Src}, r.itr it i h → r.itr it i h'
  | .lL _, x => Heap.IsListIter.at x k
  | .tT _, x => Heap.IsTupleIter.at x k
  | .sS _, ⟨t, o, e, d⟩ => ⟨t, o, k o e, d⟩
/-- at an item -/
theorem Src.item {X : Cx} {pins : List (Addr × Obj)} {σ : L2.St} {H : Hp} {s : Shared} {it : Addr} {i : Nat} {x : V} (I : Inv X pins σ H s) (hh : X.A.handled = none) {n0 : Addr} (hn : n0 ≤ it) :
    ∀ {r : Src}, r.below n0 → r.itr it i s.heap → r.at X.K i H x → ∃ n P St, Draws X.prog X.w X.A.in1 it (r.fp it) n P St ∧ St i s.heap ∧ i < n ∧ (∀ y, P i y → RelV x y) ∧ ∀ h', St (i + 1) h' → r.itr it (i + 1) h'
  | .lL a, b, st, ⟨xs, hq, hx⟩ => by
    obtain ⟨its, rv, p, _⟩ := I.list hq
    obtain ⟨u, hu, ru⟩ := rv.get hx
    have hne : a ≠ it := Nat.ne_of_lt (Nat.lt_of_lt_of_le b hn)
    refine ⟨_, _, _, Draws.list (A := X.A.in1) (prog := X.prog) (w := X.w) hh it a hne its.toArray, ⟨st, p.isList⟩, ?_, fun y e => ?_, fun h' z => z.1⟩
    · have := (List.getElem?_eq_some_iff.mp hu).1
      simpa using this
    · have e' : its[i]? = some y := by simpa using e
      rw [hu] at e'; cases e'; exact ru
  | .tT a, b, st, ⟨xs, hq, hx⟩ => by
    obtain ⟨its, rv, p, _⟩ := I.tuple hq
    obtain ⟨u, hu, ru⟩ := rv.get hx
    have hne : a ≠ it := Nat.ne_of_lt (Nat.lt_of_lt_of_le b hn)
    refine ⟨_, _, _, Draws.tuple (A := X.A.in1) (prog := X.prog) (w := X.w) hh it a hne its.toArray, ⟨st, p⟩, ?_, fun y e => ?_, fun h' z => z.1⟩
    · have := (List.getElem?_eq_some_iff.mp hu).1
      simpa using this
    · have e' : its[i]? = some y := by simpa using e
      rw [hu] at e'; cases e'; exact ru
  | .sS y, b, ⟨t, st⟩, ⟨c, hc, hx⟩ => by
    subst hx
    refine ⟨_, _, _, Draws.text (A := X.A.in1) (prog := X.prog) (w := X.w) hh it y t, st, ?_, fun u e => ?_, fun h' z => ⟨t, z⟩⟩
    · exact (Array.getElem?_eq_some_iff.mp hc).1
    · obtain ⟨c', w, e1, rfl⟩ := e
      rw [hc] at e1; cases e1
      exact ⟨w, rfl⟩
/-- where it ends -/
theorem Src.fin {X : Cx} {pins : List (Addr × Obj)} {σ : L2.St} {H : Hp} {s : Shared} {it : Addr} {i : Nat} (I : Inv X pins σ H s) (hh : X.A.handled = none) {n0 : Addr} (hn : n0 ≤ it) :
    ∀ {r : Src}, r.below n0 → r.itr it i s.heap → r.out X.K i H → ∃ P St, Draws X.prog X.w X.A.in1 it (r.fp it) i P St ∧ St i s.heap
  | .lL a, b, st, ⟨xs, hq, l⟩ => by
    obtain ⟨its, rv, p, _⟩ := I.list hq
    have hl := rv.length
    have hz : its.toArray[i]? = none := by simp; omega
    refine ⟨fun _ _ => False, fun j h => j = i ∧ h.IsListIter it a j ∧ h.IsList a its.toArray, ⟨fun _ _ st => let ⟨o, ho, _⟩ := st.2.1; ⟨o, ho⟩, fun _ _ _ st hk => ⟨st.1, st.2.1.at fun o e => hk it (by simp [Src.fp]) o e, st.2.2.at fun o e => hk a (by simp [Src.fp]) o e⟩, fun j s Q E hi st hQ => absurd st.1 (Nat.ne_of_lt hi), fun s Q E st hE => wpAny_nextOf_list_end hh st.2.1 st.2.2 hz hE⟩, rfl, st, p.isList⟩
  | .tT a, b, st, ⟨xs, hq, l⟩ => by
    obtain ⟨its, rv, p, _⟩ := I.tuple hq
    have hl := rv.length
    have hz : its.toArray[i]? = none := by simp; omega
    refine ⟨fun _ _ => False, fun j h => j = i ∧ h.IsTupleIter it a j ∧ h.IsTuple a its.toArray, ⟨fun _ _ st => let ⟨o, ho, _⟩ := st.2.1; ⟨o, ho⟩, fun _ _ _ st hk => ⟨st.1, st.2.1.at fun o e => hk it (by simp [Src.fp]) o e, st.2.2.at fun o e => hk a (by simp [Src.fp]) o e⟩, fun j s Q E hi st hQ => absurd st.1 (Nat.ne_of_lt hi), fun s Q E st hE => wpAny_nextOf_tuple_end hh st.2.1 st.2.2 hz hE⟩, rfl, st, p⟩
  | .sS y, b, ⟨t, st⟩, l => by
    have l' : y.cps.size ≤ i := l
    have hz : y.cps[i]? = none := by simp; omega
    cases ha : y.cps.all (· < 128)
    · have e : strIterType y = "str_iterator" := by simp [strIterType, ha]
      rw [e] at st
      exact ⟨fun _ _ => False, fun j h => j = i ∧ h.IsStrIter it "str_iterator" y t j, ⟨fun _ _ st => let ⟨o, ho, _⟩ := st.2; ⟨o, ho⟩, fun _ _ _ st hk => let ⟨e0, o, ho, r⟩ := st; ⟨e0, o, hk it (by simp [Src.fp]) o ho, r⟩, fun j s Q E hi st hQ => absurd st.1 (Nat.ne_of_lt hi), fun s Q E st hE => wpAny_nextOf_wide_end hh st.2 hz hE⟩, rfl, st⟩
    · have e : strIterType y = "str_ascii_iterator" := by simp [strIterType, ha]
      rw [e] at st
      exact ⟨fun _ _ => False, fun j h => j = i ∧ h.IsStrIter it "str_ascii_iterator" y t j, ⟨fun _ _ st => let ⟨o, ho, _⟩ := st.2; ⟨o, ho⟩, fun _ _ _ st hk => let ⟨e0, o, ho, r⟩ := st; ⟨e0, o, hk it (by simp [Src.fp]) o ho, r⟩, fun j s Q E hi st hQ => absurd st.1 (Nat.ne_of_lt hi), fun s Q E st hE => wpAny_nextOf_ascii_end hh st.2 hz hE⟩, rfl, st⟩
/-- at an item, or where it ends -/
theorem Src.both {X : Cx} {pins : List (Addr × Obj)} {σ : L2.St} {H : Hp} {s : Shared} {it : Addr} {i : Nat} (I : Inv X pins σ H s) (hh : X.A.handled = none) {n0 : Addr} (hn : n0 ≤ it)
    {r : Src} (b : r.below n0) (st : r.itr it i s.heap) (e : (∃ x, r.at X.K i H x) ∨ r.out X.K i H) : ∃ n P St, Draws X.prog X.w X.A.in1 it (r.fp it) n P St ∧ St i s.heap ∧ i ≤ n ∧ (r.out X.K i H → i = n) := by
  by_cases o : r.out X.K i H
  · obtain ⟨P, St, D, h⟩ := Src.fin I hh hn b st o
    exact ⟨i, P, St, D, h, Nat.le_refl _, fun _ => rfl⟩
  · rcases e with ⟨x, e⟩ | e
    · obtain ⟨n, P, St, D, h, l, _⟩ := Src.item I hh hn b st e
      exact ⟨n, P, St, D, h, Nat.le_of_lt l, fun q => absurd q o⟩
    · exact absurd e o
theorem Src.fp_mem {r : Src} {it : Addr} : it ∈ r.fp it := by cases r <;> simp [Src.fp]
theorem Src.fp_not {r : Src} {it c n0 : Nat} (b : r.below n0) (hc : n0 ≤ c) (hne : c ≠ it) : c ∉ r.fp it := by
  cases r with
  | lL a =>
    have b' : a < n0 := b
    intro h
    have h' : c = it ∨ c = a := by simpa [Src.fp] using h
    rcases h' with e | e
    · exact hne e
    · exact absurd (Nat.lt_of_lt_of_le b' hc) (by rw [e]; exact Nat.lt_irrefl _)
  | tT a =>
    have b' : a < n0 := b
    intro h
    have h' : c = it ∨ c = a := by simpa [Src.fp] using h
    rcases h' with e | e
    · exact hne e
    · exact absurd (Nat.lt_of_lt_of_le b' hc) (by rw [e]; exact Nat.lt_irrefl _)
  | sS x =>
    intro h
    have h' : c = it := by simpa [Src.fp] using h
    exact hne h'
theorem sep {r q : Src} {n : Nat} (hr : r.below n) (hq : q.below n) : ZipSep2 (n + 4) (n + 2) (n + 3) n (n + 1) (r.fp n) (q.fp (n + 1)) where
  TIz := by show (n + 2 : Nat) ≠ n + 4; omega
  TOz := by show (n + 3 : Nat) ≠ n + 4; omega
  TITO := by show (n + 2 : Nat) ≠ n + 3; omega
  TIi1 := by show (n + 2 : Nat) ≠ n; omega
  mem1 := Src.fp_mem
  zf1 := Src.fp_not hr (show (n : Nat) ≤ n + 4 by omega) (show (n + 4 : Nat) ≠ n by omega)
  Tf1 := Src.fp_not hr (show (n : Nat) ≤ n + 3 by omega) (show (n + 3 : Nat) ≠ n by omega)
  TIi2 := by show (n + 2 : Nat) ≠ n + 1; omega
  mem2 := Src.fp_mem
  zf2 := Src.fp_not hq (show (n : Nat) ≤ n + 4 by omega) (show (n + 4 : Nat) ≠ n + 1 by omega)
  Tf2 := Src.fp_not hq (show (n : Nat) ≤ n + 3 by omega) (show (n + 3 : Nat) ≠ n + 1 by omega)
  sep1_2 := Src.fp_not hq (Nat.le_refl n) (show (n : Nat) ≠ n + 1 by omega)
  sep2_1 := Src.fp_not hr (show (n : Nat) ≤ n + 1 by omega) (show (n + 1 : Nat) ≠ n by omega)
/-- the items in new pairs -/
def Itz2 (K : PySem.W.Frag) (r q : Src) : It :=
  ⟨fun i H => ∃ x y, r.at K i H x ∧ q.at K i H y,
    fun i H v H' => ∃ T x y, v = .ref T ∧ H T = none ∧ H' = upd H T (.tup [x, y]) ∧ r.yl K i H x ∧ q.yl K i H y,
    fun i H => ((∃ x, r.at K i H x) ∨ r.out K i H) ∧ ((∃ x, q.at K i H x) ∨ q.out K i H) ∧ (r.out K i H ∨ q.out K i H)⟩
theorem turn_zip2 {P : Program} {w : World} {K : PySem.W.Frag} {elts : List Expr} {kk : Nat} {tpos : Pos} {r q : Src} {n : Nat} (hr : r.below n) (hq : q.below n) :
    Turn P w K (.Tuple elts kk tpos) (Itz2 K r q) [n + 4, n + 2, n + 3, n, n + 1] (n + 4) (fun i h => IsZip h (n + 4) (n + 2) (n + 3) .none ∧ IsPair h (n + 2) (.ref n) (.ref (n + 1)) ∧ (∃ x y, IsPair h (n + 3) x y) ∧ r.itr n i h ∧ q.itr (n + 1) i h) where
  mem := by simp
  obj := fun i h st c hc => by
    obtain ⟨hz, hTI, ⟨x, y, hTO⟩, s1, s2⟩ := st
    obtain ⟨o1, v1, e1, d1⟩ := Src.itr_fields (r := r) s1
    obtain ⟨o2, v2, e2, d2⟩ := Src.itr_fields (r := q) s2
    have e' : c = n + 4 ∨ c = n + 2 ∨ c = n + 3 ∨ c = n ∨ c = n + 1 := by simpa using hc
    rcases e' with q | q | q | q | q
    · rw [q]; exact ⟨_, hz, fun v q => nomatch q⟩
    · rw [q]; exact ⟨_, hTI, fun v q => nomatch q⟩
    · rw [q]; exact ⟨_, hTO, fun v q => nomatch q⟩
    · rw [q]; exact ⟨o1, e1, fun v q => by rw [d1] at q; cases q⟩
    · rw [q]; exact ⟨o2, e2, fun v q => by rw [d2] at q; cases q⟩
  keep := fun i h h' st k => by
    obtain ⟨hz, hTI, ⟨x, y, hTO⟩, h1, h2⟩ := st
    exact ⟨k (n + 4) (by simp) _ hz, k (n + 2) (by simp) _ hTI, ⟨x, y, k (n + 3) (by simp) _ hTO⟩, Src.itr_at (r := r) (fun o e => k n (by simp) o e) h1, Src.itr_at (r := q) (fun o e => k (n + 1) (by simp) o e) h2⟩
  item := by
    intro X hP hw hK hc i pins s σ H E I hf st hg
    subst hP hw hK
    obtain ⟨hz, hTI, ⟨x0, y0, hTO⟩, h1, h2⟩ := st
    obtain ⟨x, y, hx, hy⟩ := hg
    obtain ⟨n1, P1, St1, D1, st1, lt1, rel1, nx1⟩ := Src.item I (I.ok.hd hc) (Nat.le_refl n) hr h1 hx
    obtain ⟨n2, P2, St2, D2, st2, lt2, rel2, nx2⟩ := Src.item I (I.ok.hd hc) (show n ≤ n + 1 by omega) hq h2 hy
    have hzl : n + 4 < s.heap.objs.size := Heap.lt_size hz
    refine wpAny_pyNext_zipD2_item (sep hr hq) D1 D2 hz hTI hTO st1 st2 lt1 lt2 fun u u2 h' tk p1 p2 z' TO' h1' h2' hT hsz hk => ?_
    refine ⟨_, rfl, wpAny_letOwnedTupleGo_zip (s := { s with heap := h', toks := tk }) z' fun h'' z'' sb => ?_⟩
    have hT2 : h''.get? s.heap.objs.size = some { cls := .type "tuple", data := .seq #[u, u2] } := (sb.2 _ (Nat.ne_of_gt hzl)).trans hT
    have new : ObjOk X.prog X.w (upd H s.heap.objs.size (.tup [x, y])) h'' s.heap.objs.size (.tup [x, y]) :=
      ⟨by show 2 ≤ sizeLine; decide, [u, u2], .cons (rel1 _ p1) (.cons (rel2 _ p2) .nil), ⟨_, hT2, rfl, _, rfl⟩⟩
    have I1 : Inv X pins σ (upd H s.heap.objs.size (.tup [x, y])) { s with heap := h'', toks := tk } :=
      I.turnedNew (t' := tk) (ch := [n + 4, n + 2, n + 3, n, n + 1]) (fun c o hb q => (sb.2 c (fun q' => hb (by simp [q']))).trans (hk c o (fun q' => hb (by simp [q'])) (fun q' => hb (by simp [q'])) (fun q' => hb (by simp [q'])) (fun q' => hb (by simp [q'])) q)) hf (Nat.le_refl _) new
    refine ⟨.ref s.heap.objs.size, _, I1, rfl, ⟨_, x, y, rfl, I.hok.fresh (Nat.le_refl _), rfl, Src.yl_of I hx, Src.yl_of I hy⟩, ⟨z'', ?_, ⟨u, u2, ?_⟩, ?_, ?_⟩, fun c hcm => ?_⟩
    · exact (sb.2 _ (show (n + 2 : Nat) ≠ n + 4 by omega)).trans (hk _ _ (show (n + 2 : Nat) ≠ n + 4 by omega) (show (n + 2 : Nat) ≠ n + 3 by omega) (show (n + 2 : Nat) ≠ n by omega) (show (n + 2 : Nat) ≠ n + 1 by omega) hTI)
    · exact (sb.2 _ (show (n + 3 : Nat) ≠ n + 4 by omega)).trans TO'
    · exact Src.itr_at (r := r) (fun o q => (sb.2 _ (show (n : Nat) ≠ n + 4 by omega)).trans q) (nx1 _ h1')
    · exact Src.itr_at (r := q) (fun o q => (sb.2 _ (show (n + 1 : Nat) ≠ n + 4 by omega)).trans q) (nx2 _ h2')
    · have hlt : c < s.heap.objs.size := by
        have e' : c = n + 4 ∨ c = n + 2 ∨ c = n + 3 ∨ c = n ∨ c = n + 1 := by simpa using hcm
        have hzl' : (n : Nat) + 4 < s.heap.objs.size := hzl
        rcases e' with q | q | q | q | q <;> (rw [q]; show (_ : Nat) < _; omega)
      rw [upd_ne (Nat.ne_of_lt hlt)]
      exact (hf c hcm).1
  done := by
    intro X hP hw hK hc i pins s σ H E I hf st hg
    subst hP hw hK
    obtain ⟨hz, hTI, ⟨x0, y0, hTO⟩, h1, h2⟩ := st
    obtain ⟨hx, hy, hend⟩ := hg
    have key : ∀ {n1 n2 : Nat} {P1 P2 : Nat → Value → Prop} {St1 St2 : Nat → Heap → Prop}, Draws X.prog X.w X.A.in1 n (r.fp n) n1 P1 St1 → Draws X.prog X.w X.A.in1 (n + 1) (q.fp (n + 1)) n2 P2 St2 → St1 i s.heap → St2 i s.heap → i ≤ n1 → i ≤ n2 → (i = n1 ∨ i = n2) →
        wpAny (model X.prog X.w) X.A (pyNext (.ref (n + 4))) (fun r s1 => r = none ∧ Inv X pins σ H s1) E s := fun D1 D2 st1 st2 l1 l2 e =>
      wpAny_pyNext_zipD2_end (sep hr hq) D1 D2 hz hTI hTO st1 st2 l1 l2 e fun h' tk hk => ⟨rfl, I.turnedL (t' := tk) (ch := [n + 4, n + 2, n + 3, n, n + 1]) (fun c o hb q =>
        hk c o (fun q' => hb (by simp [q'])) (fun q' => hb (by simp [q'])) (fun q' => hb (by simp [q'])) (fun q' => hb (by simp [q'])) q) hf⟩
    obtain ⟨n1, P1, St1, D1, st1, l1, o1⟩ := Src.both I (I.ok.hd hc) (Nat.le_refl n) hr h1 hx
    obtain ⟨n2, P2, St2, D2, st2, l2, o2⟩ := Src.both I (I.ok.hd hc) (show n ≤ n + 1 by omega) hq h2 hy
    exact key D1 D2 st1 st2 l1 l2 (hend.imp o1 o2)
  self := fun A i s Q E st h => wpAny_pyIter_zip st.1 h
def Src.obj (t : Tok) : Src → Obj
  | .lL a => { cls := .type "list_iterator", data := .fields #[.ref a, .int 0 0] }
  | .tT a => { cls := .type "tuple_iterator", data := .fields #[.ref a, .int 0 0] }
  | .sS y => { cls := .type (strIterType y), data := .fields #[.str y t, .int 0 0] }
theorem Src.begin {X : Cx} {pins : List (Addr × Obj)} {σ : L2.St} {H : Hp} {s : Shared} {v : V} {u : Value} (I : Inv X pins σ H s) (rv : RelV v u) : ∀ {r : Src}, r.is X.K H v → r.below s.heap.objs.size ∧ ∃ o HH, Begins u o HH ∧ HH s.heap ∧ ∀ (it : Addr) (h : Heap), h.get? it = some o → r.itr it 0 h
  | .lL a, ⟨e, xs, hq⟩ => by
    subst e
    obtain rfl : u = Value.ref a := rv
    obtain ⟨its, rv, p, _⟩ := I.list hq
    exact ⟨p.lt, _, _, begins_list a its.toArray, p.isList, fun it h e => ⟨_, e, rfl, rfl⟩⟩
  | .tT a, ⟨e, xs, hq⟩ => by
    subst e
    obtain rfl : u = Value.ref a := rv
    obtain ⟨its, rv, p, _⟩ := I.tuple hq
    obtain ⟨o, ho, _⟩ := id p
    exact ⟨Heap.lt_size ho, _, _, begins_tuple a its.toArray, p, fun it h e => ⟨_, e, rfl, rfl⟩⟩
  | .sS y, e => by
    have e' : v = .str y := e
    subst e'
    obtain ⟨t, rfl⟩ := rv
    exact ⟨trivial, _, _, begins_text y t, trivial, fun it h e => ⟨t, _, e, rfl, rfl⟩⟩
def iZip2 (K : PySem.W.Frag) (ta : TA) : TI := fun σ H R => ta σ H fun vs H1 => ∃ v w r q, vs = [v, w] ∧ Src.is K H1 v r ∧ Src.is K H1 w q ∧ R (Itz2 K r q) H1
theorem pi_zip2 {X : Cx} {e e2 : Expr} {ta : TA} {p pos tpos : Pos} {elts : List Expr} {kk : Nat} (hg : Gl X "zip") (hm : X.mg "zip" = none) (ha : PA X [e, e2] ta)
    (hs : starEach [e, e2] X.env = (false, eval e X.env) :: starEach [e2] X.env := by rfl) (hpl : (backTo pos (starEach [e2] X.env)).any (·.1) = false := by rfl) :
    PI X (.Tuple elts kk tpos) (.Call (.Name "zip" p) [e, e2] [] pos) (iZip2 X.K ta) := by
  refine ⟨fun pins s σ H R I h => ?_⟩
  refine Call_ (ld_blt I hg hm PyProof.Rows.boot_zip (PyProof.Rows.callWith_type1 (thn (ha.run pos pins s σ H _ I h) fun us s1 ⟨vs, H1, I1, r1, q1⟩ => ?_) hs hpl))
  obtain ⟨v, w, r, q, ex, hv, hw, k⟩ := q1
  subst ex
  cases r1 with
  | cons ra rr =>
    cases rr with
    | cons rb rr =>
      cases rr
      obtain ⟨b1, o1, H1', B1, e1, i1⟩ := Src.begin I1 ra hv
      obtain ⟨b2, o2, H2', B2, e2, i2⟩ := Src.begin I1 rb hw
      refine zip_begins2 B1 B2 e1 e2 fun h' hz hTI hTO h1 h2 hsz hk => wpAny_pyIter_zip hz ?_
      have I2 : Inv X pins σ H1 { s1 with heap := h' } := I1.kept (t' := s1.toks) hk
      refine ⟨s1.heap.objs.size + 4, [s1.heap.objs.size + 4, s1.heap.objs.size + 2, s1.heap.objs.size + 3, s1.heap.objs.size, s1.heap.objs.size + 1], _, _, H1, rfl, I2, turn_zip2 b1 b2, ⟨hz, hTI, ⟨_, _, hTO⟩, i1 _ _ h1, i2 _ _ h2⟩, fun c hcm => ?_, k⟩
      have e' : c = s1.heap.objs.size + 4 ∨ c = s1.heap.objs.size + 2 ∨ c = s1.heap.objs.size + 3 ∨ c = s1.heap.objs.size ∨ c = s1.heap.objs.size + 1 := by simpa using hcm
      have hle : s1.heap.objs.size ≤ c := by
        rcases e' with z | z | z | z | z
        · rw [z]; exact Nat.le_add_right _ _
        · rw [z]; exact Nat.le_add_right _ _
        · rw [z]; exact Nat.le_add_right _ _
        · rw [z]; exact Nat.le_refl _
        · rw [z]; exact Nat.le_add_right _ _
      exact I1.fpOk hle (I1.hok.fresh hle)
end ZP
namespace DL
open PySem PySem.Spec L2 ZP
open PyProof.Rows hiding St
/-- the items of a list, a tuple, a text -/
def walkD : D → Option (List D)
  | .lst xs => some xs
  | .tup xs => some xs
  | .str s => some (s.map fun c => D.str [c])
  | _ => none
def pairD (xs ys : List D) : List D := List.zipWith (fun x y => D.tup [x, y]) xs ys
def dZip (da : DA) : DI := fun ρ xe R => da ρ xe fun ds => match ds with
  | [a, b] => ∃ xs ys, walkD a = some xs ∧ walkD b = some ys ∧ R (pairD xs ys)
  | _ => False
theorem src_of {K : PySem.W.Frag} {B : Option Addr} {G : Hp} {v : V} {d : D} {xs : List D} (r : Rep K G v d) (e : walkD d = some xs) : ∃ q : Src,
    (∀ H, Same G H → q.is K H v) ∧ ∀ G' H', Same G G' → Same G' H' → ∀ i : Nat, (∀ x, xs[i]? = some x → (∃ v, q.at K i H' v) ∧ ∀ v, q.yl K i H' v → Rep K G' v x) ∧ (xs.length ≤ i → q.out K i H') := by
  cases r with
  | lst a b =>
    cases e
    refine ⟨.lL _, fun H s => ⟨rfl, _, SqL.of (s _ _ a)⟩, fun G' H' s1 s2 i => ?_⟩
    have hl := SqL.of (K := K) (s2 _ _ (s1 _ _ a))
    refine ⟨fun x e => ?_, fun l => ⟨_, hl, by rw [b.length]; exact l⟩⟩
    obtain ⟨u, e1, e2⟩ := b.get e
    refine ⟨⟨u, _, hl, e1⟩, fun w h => ?_⟩
    have := h _ hl
    rw [e1] at this; cases this
    exact e2.mono s1
  | tup a b =>
    cases e
    refine ⟨.tT _, fun H s => ⟨rfl, _, SqT.of (s _ _ a)⟩, fun G' H' s1 s2 i => ?_⟩
    have hl := SqT.of (K := K) (s2 _ _ (s1 _ _ a))
    refine ⟨fun x e => ?_, fun l => ⟨_, hl, by rw [b.length]; exact l⟩⟩
    obtain ⟨u, e1, e2⟩ := b.get e
    refine ⟨⟨u, _, hl, e1⟩, fun w h => ?_⟩
    have := h _ hl
    rw [e1] at this; cases this
    exact e2.mono s1
  | str s =>
    cases e
    refine ⟨.sS _, fun H _ => rfl, fun G' H' s1 s2 i => ⟨fun x e => ?_, fun l => ?_⟩⟩
    · rw [List.getElem?_map] at e
      cases z : s[i]? with
      | none => rw [z] at e; cases e
      | some c =>
        rw [z] at e; cases e
        have z' : s.toArray[i]? = some c := by simpa using z
        refine ⟨⟨_, c, z', rfl⟩, fun w h => ?_⟩
        obtain ⟨c', h1, rfl⟩ := h
        rw [z'] at h1; cases h1
        exact .str [c]
    · show s.toArray.size ≤ i
      simpa using l
  | non => cases e
  | bl => cases e
  | int => cases e
  | ins => cases e
  | dct => cases e
  | dct0 => cases e
theorem pairD_length {xs ys : List D} : (pairD xs ys).length = min xs.length ys.length := by unfold pairD; simp
theorem pairD_get {xs ys : List D} {i : Nat} {d : D} (h : (pairD xs ys)[i]? = some d) : ∃ x y, xs[i]? = some x ∧ ys[i]? = some y ∧ d = .tup [x, y] := by
  unfold pairD at h
  rw [List.getElem?_zipWith] at h
  cases h1 : xs[i]? with
  | none => rw [h1] at h; cases h
  | some x =>
    cases h2 : ys[i]? with
    | none => rw [h1, h2] at h; cases h
    | some y => rw [h1, h2] at h; exact ⟨x, y, rfl, rfl, (Option.some.inj h).symm⟩
section
variable {X : Cx} {E : XK} {e e2 : Expr} {da : DA} {p pos : Pos}
theorem xi_zip {elts : List Expr} {kk : Nat} {tpos : Pos} (hg : Gl X "zip") (hm : X.mg "zip" = none) (h : XA X E [e, e2] da)
    (hs : starEach [e, e2] X.env = (false, eval e X.env) :: starEach [e2] X.env := by rfl) (hpl : (backTo pos (starEach [e2] X.env)).any (·.1) = false := by rfl) :
    XI X E (.Tuple elts kk tpos) (.Call (.Name "zip" p) [e, e2] [] pos) (iZip2 X.K (cA X.K E da)) (dZip da) :=
  ⟨pi_zip2 hg hm h.pa hs hpl, fun B G0 H0 G H σ ρ I xe lx R RR k q => sA B G0 H0 G H σ ρ I xe lx _ _ (fun vs G' H' ds t r z => by
    unfold dZip at *
    split at z
    · obtain ⟨xs, ys, e1, e2, z⟩ := z
      cases r with
      | cons r1 r =>
        cases r with
        | cons r2 r =>
          cases r
          obtain ⟨q1, a1, b1⟩ := src_of (B := B) r1 e1
          obtain ⟨q2, a2, b2⟩ := src_of (B := B) r2 e2
          refine ⟨_, _, q1, q2, rfl, a1 _ t.gh, a2 _ t.gh, k _ _ _ _ t (fun G2 H2 s1 s2 bg i => ?_) z⟩
          obtain ⟨c1, f1⟩ := b1 G2 H2 s1 s2 i
          obtain ⟨c2, f2⟩ := b2 G2 H2 s1 s2 i
          have is : ∀ {zs : List D} {q : Src}, (∀ x, zs[i]? = some x → (∃ v, q.at X.K i H2 v) ∧ ∀ v, q.yl X.K i H2 v → Rep X.K G2 v x) → (zs.length ≤ i → q.out X.K i H2) → (∃ x, q.at X.K i H2 x) ∨ q.out X.K i H2 := fun {zs q} c f => by
            by_cases l : i < zs.length
            · exact .inl (c _ (List.getElem?_eq_getElem l)).1
            · exact .inr (f (by omega))
          refine ⟨fun d hd => ?_, fun l => ⟨is c1 f1, is c2 f2, ?_⟩⟩
          · obtain ⟨x, y, h1, h2, rfl⟩ := pairD_get hd
            obtain ⟨⟨v, hv⟩, m1⟩ := c1 x h1
            obtain ⟨⟨w, hw⟩, m2⟩ := c2 y h2
            refine ⟨⟨v, w, hv, hw⟩, fun u H'' yy => ?_⟩
            obtain ⟨T, u1, u2, rfl, hT, rfl, y1, y2⟩ := yy
            have st : Stt B G2 H2 G2 H2 := Stt.refl s2 bg
            exact ⟨_, st.new hT, .tup upd_same (.cons ((m1 _ y1).mono (st.new hT).gg) (.cons ((m2 _ y2).mono (st.new hT).gg) .nil))⟩
          · rw [pairD_length] at l
            by_cases l1 : xs.length ≤ i
            · exact .inl (f1 l1)
            · exact .inr (f2 (by omega))
    · exact z.elim) q⟩
end
end DL

/-! tuple + tuple -/
namespace DL
open PySem PySem.Spec L2
open PyProof.Rows hiding St
def oCatT : O2 := fun x y R => match x, y with
  | .tup s, .tup t => s.length + t.length ≤ sizeLine ∧ R (.tup (s ++ t))
  | _, _ => False
theorem simr_catT {K : PySem.W.Frag} : SimR K (rCatA K) oCatT := fun B G H x y d e s rx ry Q R k q => by
  unfold oCatT at q
  split at q
  · cases rx with
    | tup a1 b1 => cases ry with
      | tup a2 b2 =>
        refine ⟨_, _, _, _, rfl, rfl, SqT.of (s.gh _ _ a1), SqT.of (s.gh _ _ a2), by rw [b1.length, b2.length]; exact q.1, fun z => ?_, fun _ z => ?_, fun _ _ => s.tup (b1.append b2) k q.2⟩
        · subst z; cases b1
          exact k _ G H _ s (.tup a2 b2) q.2
        · subst z; cases b2
          have q2 := q.2
          rw [List.append_nil] at q2
          exact k _ G H _ s (.tup a1 b1) q2
  · exact q.elim
section
variable {X : Cx} {E : XK} {a b : Expr} {da db : DE} {pos : Pos}
theorem xCatT (ha : XEx X E a da) (hb : XEx X E b db) : XEx X E (.BinOp a .Add b pos) (dOp oCatT da db) := xe_op op_catA simr_catT ha hb
end
end DL

/-! tallies of rows and of Fars; called letters -/
namespace DL
open PySem PySem.Spec L2
open PyProof.Rows hiding St
abbrev ls (ts : Tally) : List Nat := ts.map (·.1)
def bad (ts : Tally) (w : List Nat) : Option Nat := w.findIdx? fun c => !decide (c ∈ ls ts)
def afterT (ts : Tally) (w : List Nat) : Tally := w.foldl laterT ts
abbrev m_noletter : List Nat := [97, 32, 108, 101, 116, 116, 101, 114, 32, 100, 111, 101, 115, 32, 110, 111, 116, 32, 111, 99, 99, 117, 114, 32, 105, 110, 32, 116, 104, 101, 32, 116, 97, 108, 108, 121]
def erL (c : Kl) (n : Int) : Er := ⟨c.NoLetter, [("at", .int n), ("text", .str m_noletter)]⟩
def inA (ts : Tally) (w : List Nat) : Prop := ts.length ≤ 26 ∧ (∀ q ∈ ts, 1 ≤ q.2) ∧ w.length ≤ 64
def s_tally_after (c : Kl) : DSp := fun ds xe R => ∃ (ts : Tally) (w : List Nat), ds = [.lst (tl ts), .str w] ∧ inA ts w ∧ (bad ts w = none → R (.lst (tl (afterT ts w)))) ∧ (∀ i : Nat, bad ts w = some i → xe (erL c i))
/-- the tally of a row -/
def tly (w : List Nat) : Tally := (abcW.filter fun c => decide (c ∈ w)).map fun c => (c, w.count c)
def s_tally : DSp := fun ds _ R => ∃ w : List Nat, ds = [.str w] ∧ letters w ∧ w.length ≤ 4000 ∧ R (.lst (tl (tly w)))
def s_tally_made (c : Kl) : DSp := fun ds xe R => ∃ (w v : List Nat), ds = [.str w, .str v] ∧ letters w ∧ w.length ≤ 4000 ∧ v.length ≤ 64 ∧ (bad (tly w) v = none → R (.lst (tl (afterT (tly w) v)))) ∧ (∀ i : Nat, bad (tly w) v = some i → xe (erL c i))
/-- the called letters -/
def clt (w st : List Nat) : List Nat := (List.range st.length).map fun i => letN w (rootP (w.length - 1) (st.take i) (st.getD i 0))
def s_called_letters : DSp := fun ds _ R => ∃ (w st : List Nat), ds = [.str w, .lst (pls st)] ∧ okF w st ∧ R (.str (clt w st))
def s_Far_row (c : Kl) : DSp := fun ds _ R => ∃ w st : List Nat, ds = [farD c w st] ∧ R (.str w)
def s_Far_called (c : Kl) : DSp := fun ds _ R => ∃ w st : List Nat, ds = [farD c w st] ∧ okF w st ∧ R (.str (clt w st))
def s_far_tally (c : Kl) : DSp := fun ds _ R => ∃ w st : List Nat, ds = [farD c w st] ∧ okF w st ∧ R (.lst (tl (afterT (tly w) (clt w st))))
def s_written : DSp := fun ds _ R => ∃ w ps : List Nat, ds = [.str w, .lst (pls ps)] ∧ 1 ≤ w.length ∧ okS (w.length - 1) ps ∧ (w.length - 1) * 2 ^ ps.length + 1 ≤ 50000 ∧ R (.str (mks w ps))
def s_l_tally : DSp := fun ds _ R => ∃ w : List Nat, ds = [.str w] ∧ letters w ∧ w.length ≤ 4000 ∧ R (.lst (tl (tly w)))
/-- tally_after(tally 0, letters 1, known 2, letter 3, _ 4, at 5, result 6, chosen 7, number 8) -/
def b_tally_after (c : Kl) : DS :=
  (dSeq (dAsg 2 (dLc (dItems (dVar 0)) (dgPair 3 4) dYes (dVar 3) [3, 4])) (dSeq (dFor (dEnumS (dCons (dVar 1) dNil)) (dgPair 5 3) (dIfS (dTest (dOp oNiL (dVar 3) (dVar 2))) (dRaise c.NoLetter "at" [97, 32, 108, 101, 116, 116, 101, 114, 32, 100, 111, 101, 115, 32, 110, 111, 116, 32, 111, 99, 99, 117, 114, 32, 105, 110, 32, 116, 104, 101, 32, 116, 97, 108, 108, 121] (dVar 5)) dNext)) (dSeq (dAsgN 6 (dNolL (dCB cList (dCons (dVar 0) dNil)))) (dSeq (dFor (dSigns (dVar 1)) (dgName 7) (dAsgN 6 (dLc (dItems (dVar 6)) (dgPair 3 8) dYes (dTup (dCons (dNol (dVar 3)) (dCons (dNol (dOp oSub (dOp oMul (dC (.int 2)) (dVar 8)) (dCB cInt (dCons (dOp oEqS (dVar 3) (dVar 7)) dNil)))) dNil))) [3, 8]))) (dRetG (dVarN 6))))))

/-- tally(row 0, letter 1) -/
def b_tally : DS :=
  (dRetG (dLc (dItems (dSortSetT (dVar 0))) (dgName 1) dYes (dTup (dCons (dNol (dVar 1)) (dCons (dNol (dCntS (dVar 0) (dVar 1))) dNil))) [1]))

/-- tally_made(row 0, letters 1) -/
def b_tally_made (c : Kl) : DS :=
  (dRetC (s_tally_after c) (dCons (dCall s_tally (dCons (dVar 0) dNil)) (dCons (dVar 1) dNil)))

/-- called_letters(row 0, calls 1, letters 2, at 3, place 4, places 5) -/
def b_called_letters : DS :=
  (dSeq (dNewO 2) (dSeq (dFor (dEnum (dCons (dVar 1) dNil)) (dgPair 3 4) (dSeq (dAsg 5 (dCall s_shown_places (dCons (dOp oShl (dOp oSub (dCB cLen (dCons (dVar 0) dNil)) (dC (.int 1))) (dVar 3)) (dCons (dSl oSl (dVar 1) dNo (dPart (dVar 3))) (dCons (dVar 4) dNil))))) (dApp 2 (dOp oIx (dVar 0) (dOp oIx (dVar 5) (dNeg (dC (.int 1)))))))) (dRet (dThaw 2 (dJoin0 (dVar 2))))))

/-- Far_row(self 0) -/
def b_Far_row (c : Kl) : DS :=
  (dRet (dFld c.Far "_row" (dVar 0)))

/-- Far_called(self 0) -/
def b_Far_called (c : Kl) : DS :=
  (dRet (dCall s_called_letters (dCons (dFld c.Far "_row" (dVar 0)) (dCons (dFld c.Far "_story" (dVar 0)) dNil))))

/-- far_tally(far 0) -/
def b_far_tally (c : Kl) : DS :=
  (dRetC (s_tally_made c) (dCons (dMeth c.Far "row" (s_Far_row c) (dVar 0) dNil) (dCons (dMeth c.Far "called" (s_Far_called c) (dVar 0) dNil) dNil)))

/-- _law_written(_law_row_here 0, _law_story_here 1, _law_place 2) -/
def b_written : DS :=
  (dSeq (dFor (dItems (dVar 1)) (dgName 2) (dAsg 0 (dCall s_called (dCons (dVar 0) (dCons (dVar 2) dNil))))) (dRet (dVar 0)))

/-- _law_tally(_law_text 0, _law_found 1, _law_letter 2, _law_times 3, _law_one 4) -/
def b_l_tally : DS :=
  (dSeq (dNewO 1) (dSeq (dFor (dSigns (dC (.str [97, 98, 99, 100, 101, 102, 103, 104, 105, 106, 107, 108, 109, 110, 111, 112, 113, 114, 115, 116, 117, 118, 119, 120, 121, 122]))) (dgName 2) (dSeq (dAsg 3 (dCB cLen (dCons (dLc (dSigns (dVar 0)) (dgName 4) (dTest (dOp oEqS (dVar 4) (dVar 2))) (dVar 4) [4]) dNil))) (dIfS (dTest (dOp oGt (dVar 3) (dC (.int 0)))) (dApp 1 (dTup (dCons (dVar 2) (dCons (dVar 3) dNil)))) dNext))) (dFrz 1 (dRet (dVar 1)))))

theorem bad_none {ts : Tally} {w : List Nat} : bad ts w = none ↔ ∀ c ∈ w, c ∈ ls ts := by
  unfold bad
  rw [List.findIdx?_eq_none_iff]
  exact ⟨fun h c hc => by simpa using h c hc, fun h c hc => by simpa using h c hc⟩
theorem bad_at {ts : Tally} {w : List Nat} {i c : Nat} (e : w[i]? = some c) (n : c ∉ ls ts) (b : ∀ c ∈ w.take i, c ∈ ls ts) : bad ts w = some i := by
  unfold bad
  rw [List.findIdx?_eq_some_iff_getElem]
  have il := (List.getElem?_eq_some_iff.mp e).1
  have ec : w[i] = c := (List.getElem?_eq_some_iff.mp e).2
  refine ⟨il, by rw [ec]; simpa using n, fun j hj => ?_⟩
  have : w[j] ∈ ls ts := b _ (by rw [List.mem_take_iff_getElem]; exact ⟨j, by omega, rfl⟩)
  simpa using this
theorem after_pos {ts : Tally} (h : ∀ q ∈ ts, 1 ≤ q.2) : ∀ w : List Nat, ∀ q ∈ afterT ts w, 1 ≤ q.2 := fun w => by
  induction w generalizing ts with
  | nil => exact h
  | cons c w ih =>
    refine ih (ts := laterT ts c) fun q hq => ?_
    obtain ⟨p, hp, rfl⟩ := List.mem_map.mp hq
    have := h p hp
    show 1 ≤ 2 * p.2 - (if p.1 = c then 1 else 0)
    split <;> omega
theorem after_len {ts : Tally} : ∀ w : List Nat, (afterT ts w).length = ts.length := fun w => by
  induction w generalizing ts with
  | nil => rfl
  | cons c w ih => exact (ih (ts := laterT ts c)).trans (List.length_map ..)
theorem after_snoc {ts : Tally} {w : List Nat} {c : Nat} : afterT ts (w ++ [c]) = laterT (afterT ts w) c := by unfold afterT; rw [List.foldl_append]; rfl
theorem erL_ne {c : Kl} {n : Int} : (erL c n).fs ≠ [] := by unfold erL; simp
theorem erL_at {c : Kl} {n : Int} : (erL c n).fs.lookup ("at" : Str) = some (D.int n) := by rfl
theorem ok_tally_after (c : Kl) : OkNF 2 9 (s_tally_after c) (b_tally_after c) := by
  rintro ds xe R ⟨ts, w, rfl, ⟨l1, pos, wl⟩, q1, q2⟩
  refine ⟨rfl, ?_⟩
  refine lc_let l1 ?_ ?_
  · exact fun _ _ => rfl
  refine ⟨line_of (by omega), fun i ρ => ∃ a3 a4 a5 a6 a7 a8 : Sl, (∀ c ∈ w.take i, c ∈ ls ts) ∧ ρ = [.dd (.lst (tl ts)), .dd (.str w), .dd (.lst (cs (ls ts))), a3, a4, a5, a6, a7, a8], ⟨_, _, _, _, _, _, by simp, rfl⟩, fun i d ρ e wv => ?_, fun ρ wv => ?_⟩
  · obtain ⟨a3, a4, a5, a6, a7, a8, hin, rfl⟩ := wv
    obtain ⟨x, hx, rfl⟩ := pairs_get e
    obtain ⟨ch, hc, rfl⟩ := cs_get (l := w) hx
    refine ⟨_, cs_strs _, ?_⟩
    rw [cs_dec]
    refine ifN2' (fun z => ?_) (fun z => ?_)
    · exact q2 i (bad_at hc z hin)
    · refine ⟨_, _, _, _, _, _, fun c hcm => ?_, rfl⟩
      rw [take_snoc hc] at hcm
      rcases List.mem_append.mp hcm with h | h
      · exact hin c h
      · have := List.mem_singleton.mp h
        subst this; exact z
  · obtain ⟨a3, a4, a5, a6, a7, a8, hin, rfl⟩ := wv
    have all : ∀ c ∈ w, c ∈ ls ts := by
      have e : (pairs (w.map fun c => D.str [c])).length = w.length := by rw [pairs_length, List.length_map]
      rw [e, List.take_length] at hin; exact hin
    have q1 := q1 (bad_none.mpr all)
    refine ⟨⟨_, rfl, nols_iff.mpr fun d hd => by obtain ⟨p, _, rfl⟩ := List.mem_map.mp hd; rfl⟩, ?_⟩
    refine ⟨fun i ρ => ∃ a3 a4 a5 a7 a8 : Sl, ρ = [.dd (.lst (tl ts)), .dd (.str w), .dd (.lst (cs (ls ts))), a3, a4, a5, .nw (.lst (tl (afterT ts (w.take i)))), a7, a8], ⟨_, _, _, _, _, rfl⟩, fun i d ρ e wv => ?_, fun ρ wv => ?_⟩
    · obtain ⟨a3, a4, a5, a7, a8, rfl⟩ := wv
      obtain ⟨ch, hc, rfl⟩ := cs_get (l := w) e
      have ps := after_pos pos (w.take i)
      refine lc_map (fun d => match d with | .tup [.str s, .int n] => .tup [.str s, .int (2 * n - (if decide (s = [ch]) then 1 else 0))] | _ => .non) (by rw [tl_length, after_len]; omega) (fun k d Q e h => ?_) ?_
      · obtain ⟨p, hp, rfl⟩ := tl_get e
        exact ⟨rfl, .inl ⟨by decide, by decide⟩, rfl, small_line (n := 2) (by decide), h⟩
      · have e : (tl (afterT ts (w.take i))).map (fun d => match d with | D.tup [.str s, .int n] => .tup [.str s, .int (2 * n - (if decide (s = [ch]) then 1 else 0))] | _ => .non) = tl (laterT (afterT ts (w.take i)) ch) := by
          generalize afterT ts (w.take i) = us at *
          unfold tl laterT
          rw [List.map_map, List.map_map]
          refine List.map_congr_left fun p hp => ?_
          have := ps p hp
          show D.tup [.str [p.1], .int (2 * ((p.2 : Nat) : Int) - (if decide ([p.1] = [ch]) = true then 1 else 0))] = D.tup [.str [p.1], .int ((2 * p.2 - (if p.1 = ch then 1 else 0) : Nat) : Int)]
          by_cases z : p.1 = ch
          · rw [if_pos (by simp [z]), if_pos z]
            have : 2 * ((p.2 : Nat) : Int) - 1 = ((2 * p.2 - 1 : Nat) : Int) := by omega
            rw [this]
          · rw [if_neg (by simp [z]), if_neg z]
            have : 2 * ((p.2 : Nat) : Int) - 0 = ((2 * p.2 - 0 : Nat) : Int) := by omega
            rw [this]
        rw [e, ← after_snoc, ← take_snoc hc]
        exact ⟨_, _, _, _, _, rfl⟩
    · obtain ⟨a3, a4, a5, a7, a8, rfl⟩ := wv
      rw [List.length_map, List.take_length]
      exact q1
/-! the tally of a row by its letters -/
theorem sorted_ext : ∀ {a b : List Nat}, a.Pairwise (· < ·) → b.Pairwise (· < ·) → (∀ c, c ∈ a ↔ c ∈ b) → a = b
  | [], [], _, _, _ => rfl
  | [], y :: b, _, _, h => absurd ((h y).mpr List.mem_cons_self) (by simp)
  | x :: a, [], _, _, h => absurd ((h x).mp List.mem_cons_self) (by simp)
  | x :: a, y :: b, pa, pb, h => by
    rw [List.pairwise_cons] at pa pb
    have xy : x = y := by
      rcases List.mem_cons.mp ((h x).mp List.mem_cons_self) with e | e
      · exact e
      · rcases List.mem_cons.mp ((h y).mpr List.mem_cons_self) with f | f
        · exact f.symm
        · have := pa.1 y f; have := pb.1 x e; omega
    subst xy
    rw [sorted_ext pa.2 pb.2 fun c => ⟨fun hc => ?_, fun hc => ?_⟩]
    · rcases List.mem_cons.mp ((h c).mp (List.mem_cons_of_mem _ hc)) with e | e
      · subst e; have := pa.1 c hc; omega
      · exact e
    · rcases List.mem_cons.mp ((h c).mpr (List.mem_cons_of_mem _ hc)) with e | e
      · subst e; have := pb.1 c hc; omega
      · exact e
theorem abc_sorted : abcW.Pairwise (· < ·) := by decide
theorem abc_mem {c : Nat} (h : 97 ≤ c ∧ c ≤ 122) : c ∈ abcW := by
  have : ∀ k : Nat, k < 26 → 97 + k ∈ abcW := by decide
  have := this (c - 97) (by omega)
  rwa [show 97 + (c - 97) = c by omega] at this
theorem abc_lt {c : Nat} (h : c ∈ abcW) : 97 ≤ c ∧ c ≤ 122 := by
  have : ∀ c ∈ abcW, 97 ≤ c ∧ c ≤ 122 := by decide
  exact this c h
theorem ms_eq {w ms : List Nat} (g : letters w) (pw : ms.Pairwise (· < ·)) (hm : ∀ c, c ∈ ms ↔ c ∈ w) : ms = abcW.filter fun c => decide (c ∈ w) :=
  sorted_ext pw (abc_sorted.filter _) fun c => by
    rw [hm, List.mem_filter]
    exact ⟨fun h => ⟨abc_mem (g c h), decide_eq_true h⟩, fun h => of_decide_eq_true h.2⟩
theorem tly_ls {w : List Nat} : ls (tly w) = abcW.filter fun c => decide (c ∈ w) := by unfold ls tly; rw [List.map_map]; exact List.map_id' _
theorem tly_mem {w : List Nat} (g : letters w) {c : Nat} : c ∈ ls (tly w) ↔ c ∈ w := by
  rw [tly_ls, List.mem_filter]
  exact ⟨fun h => of_decide_eq_true h.2, fun h => ⟨abc_mem (g c h), decide_eq_true h⟩⟩
theorem tly_len (w : List Nat) : (tly w).length ≤ 26 := by
  unfold tly
  rw [List.length_map]
  exact List.length_filter_le _ _
theorem tly_pos {w : List Nat} : ∀ q ∈ tly w, 1 ≤ q.2 := fun q hq => by
  obtain ⟨c, hc, rfl⟩ := List.mem_map.mp hq
  exact List.count_pos_iff.mpr (of_decide_eq_true (List.mem_filter.mp hc).2)
theorem ok_tally : OkNF 1 2 s_tally b_tally := by
  rintro ds xe R ⟨w, rfl, g, l, q⟩
  refine ⟨rfl, show w.length + 1 < 4096 by omega, fun ms pw hm => ?_⟩
  have e := ms_eq g pw hm
  have ml : ms.length ≤ 26 := by rw [e]; exact List.length_filter_le _ _
  refine lc_map (fun d => match d with | .str [c] => .tup [.str [c], .int ((w.count c : Nat) : Int)] | _ => .non) (by rw [List.length_map]; omega) (fun i d Q e h => ?_) ?_
  · obtain ⟨c, _, rfl⟩ := cs_get (l := ms) e
    exact ⟨rfl, rfl, small_line (n := 2) (by decide), h⟩
  · have e2 : (ms.map fun c => D.str [c]).map (fun d => match d with | .str [c] => D.tup [.str [c], .int ((w.count c : Nat) : Int)] | _ => .non) = tl (tly w) := by
      rw [List.map_map, e]; unfold tl tly; rw [List.map_map]; rfl
    rw [e2]; exact q
theorem ok_tally_made (c : Kl) : OkNF 2 2 (s_tally_made c) (b_tally_made c) := by
  rintro ds xe R ⟨w, v, rfl, g, l, vl, q1, q2⟩
  exact ⟨rfl, w, rfl, g, l, tly w, v, rfl, ⟨tly_len w, tly_pos, vl⟩, q1, q2⟩
theorem clt_len {w st : List Nat} : (clt w st).length = st.length := by unfold clt; simp
theorem clt_take {w st : List Nat} {i : Nat} (h : i < st.length) : (clt w st).take (i + 1) = (clt w st).take i ++ [letN w (rootP (w.length - 1) (st.take i) (st.getD i 0))] := by
  rw [List.take_add_one]
  congr 1
  unfold clt
  rw [List.getElem?_map, List.getElem?_range h]; rfl
theorem letN_letters {w : List Nat} (g : letters w) {p : Nat} (h : p < w.length) : 97 ≤ letN w p ∧ letN w p ≤ 122 := by
  unfold letN
  rw [List.getElem?_eq_getElem h]
  exact g _ (List.getElem_mem h)
theorem letN_mem {w : List Nat} {p : Nat} (h : p < w.length) : letN w p ∈ w := by
  unfold letN
  rw [List.getElem?_eq_getElem h]
  exact List.getElem_mem h
theorem ok_called_letters : OkN 2 6 s_called_letters b_called_letters := by
  rintro ds xe R ⟨w, st, rfl, ok, q⟩
  have l2 := ok.l2; have l3 := ok.l3; have sl := ok.sl
  refine ⟨rfl, ?_⟩
  refine ⟨fun i ρ => ∃ x y z, ρ = [.dd (.str w), .dd (.lst (pls st)), .own (cs ((clt w st).take i)), x, y, z], ⟨.un, .un, .un, rfl⟩, fun i d ρ e wv => ?_, fun ρ wv => ?_⟩
  · obtain ⟨x, y, z, rfl⟩ := wv
    obtain ⟨d0, e1, rfl⟩ := pairs_get e
    obtain ⟨c, ec, rfl⟩ := pls_get e1
    have il : i < st.length := (List.getElem?_eq_some_iff.mp ec).1
    have cb := ok.os.get ec
    have ti : (st.take i).length = i := by rw [List.length_take]; omega
    have big : ((w.length - 1 : Nat) : Int).natAbs < 2 ^ 64 := Nat.lt_of_le_of_lt (show _ ≤ 1000 by omega) (by decide)
    have e0 : (w.length : Int) - 1 = ((w.length - 1 : Nat) : Int) := by omega
    have ct : cut (pls st) none (some (i : Int)) = pls (st.take i) := by
      rw [cut_to]; unfold pls; rw [List.map_take]
    have cg : st.getD i 0 = c := by rw [List.getD_eq_getElem?_getD, ec]; rfl
    refine ⟨line_of (by omega), ⟨by omega, by omega, by rw [e0]; exact big⟩, ?_⟩
    refine ⟨w.length - 1, st.take i, c, ?_, ok.os.take i, by omega, ?_⟩
    · show [D.int (((w.length : Int) - 1) * 2 ^ ((i : Int)).toNat), D.lst (cut (pls st) none (some (i : Int))), _] = _
      rw [ct, e0, Int.toNat_natCast, ti, Int.natCast_mul, Int.natCast_pow]; rfl
    have cl : c ≤ (w.length - 1) * 2 ^ (st.take i).length := by rw [ti]; exact cb
    have rl := rootP_le (ok.os.take i) cl
    refine ⟨Nat.lt_of_le_of_lt (show _ ≤ 64 by rw [cs_length, List.length_take]; omega) (by decide), _, orgs_atI, line_of (by omega), _, letN_at (w := w) (p := rootP (w.length - 1) (st.take i) c) (by omega), ?_⟩
    refine ⟨.dd (.int (i : Int)), .dd (.int (c : Int)), .dd (.lst (pls (orgs (w.length - 1) (st.take i) c))), ?_⟩
    have tk := clt_take (w := w) il
    rw [cg] at tk
    rw [tk]
    unfold cs
    rw [List.map_append]; rfl
  · obtain ⟨x, y, z, rfl⟩ := wv
    have e : (pairs (pls st)).length = (clt w st).length := by rw [pairs_length, pls_length, clt_len]
    rw [e, List.take_length]
    refine ⟨_, cs_strs _, ?_, rfl, ?_⟩
    · rw [flat_ones, clt_len]; omega
    · rw [flat_ones]; exact q
theorem ok_Far_row (c : Kl) : OkN 1 1 (s_Far_row c) (b_Far_row c) := by
  rintro ds xe R ⟨w, st, rfl, q⟩
  exact ⟨rfl, rfl, _, rfl, q⟩
theorem ok_Far_called (c : Kl) : OkN 1 1 (s_Far_called c) (b_Far_called c) := by
  rintro ds xe R ⟨w, st, rfl, ok, q⟩
  exact ⟨rfl, rfl, _, rfl, rfl, _, rfl, w, st, rfl, ok, q⟩
theorem clt_mem {w st : List Nat} (ok : okF w st) : ∀ c ∈ clt w st, c ∈ w := fun c hc => by
  obtain ⟨i, hi, rfl⟩ := List.mem_map.mp hc
  have il : i < st.length := List.mem_range.mp hi
  have ti : (st.take i).length = i := by rw [List.length_take]; omega
  have cb := ok.os.get (i := i) (p := st[i]) (List.getElem?_eq_getElem il)
  have e : st.getD i 0 = st[i] := by rw [List.getD_eq_getElem?_getD, List.getElem?_eq_getElem il]; rfl
  have rl := rootP_le (ok.os.take i) (p := st[i]) (by rw [ti]; exact cb)
  have l2 := ok.l2
  rw [e]
  exact letN_mem (by omega)
theorem clt_bad {w st : List Nat} (ok : okF w st) : bad (tly w) (clt w st) = none := bad_none.mpr fun c hc => (tly_mem ok.lt).mpr (clt_mem ok c hc)
theorem ok_far_tally (c : Kl) : OkNF 1 1 (s_far_tally c) (b_far_tally c) := by
  rintro ds xe R ⟨w, st, rfl, ok, q⟩
  have l3 := ok.l3; have sl := ok.sl
  refine ⟨rfl, ⟨rfl, by decide, w, st, rfl, rfl, by decide, w, st, rfl, ok, w, clt w st, rfl, ok.lt, by omega, by rw [clt_len]; exact sl, fun _ => q, fun i h => ?_⟩⟩
  rw [clt_bad ok] at h; cases h
theorem ok_written : OkN 2 3 s_written b_written := by
  rintro ds xe R ⟨w, ps, rfl, l1, hs, hb, q⟩
  refine ⟨rfl, ?_⟩
  refine ⟨fun i ρ => ∃ x, ρ = [.dd (.str (mks w (ps.take i))), .dd (.lst (pls ps)), x], ⟨.un, rfl⟩, fun i d ρ e wv => ?_, fun ρ wv => ?_⟩
  · obtain ⟨x, rfl⟩ := wv
    obtain ⟨c, ec, rfl⟩ := pls_get e
    have il : i < ps.length := (List.getElem?_eq_some_iff.mp ec).1
    have cb := hs.get ec
    have ti : (ps.take i).length = i := by rw [List.length_take]; omega
    have ml := mks_len l1 (hs.take i)
    rw [ti] at ml
    have pw : (w.length - 1) * 2 ^ i ≤ (w.length - 1) * 2 ^ ps.length := Nat.mul_le_mul_left _ (Nat.pow_le_pow_right (by decide) (by omega))
    refine ⟨mks w (ps.take i), c, rfl, by omega, by omega, ?_⟩
    refine ⟨.dd (.int (c : Int)), ?_⟩
    rw [take_snoc ec, mks_snoc]; rfl
  · obtain ⟨x, rfl⟩ := wv
    rw [pls_length, List.take_length]
    exact q
theorem count_signs (w : List Nat) (c : Nat) : ((w.map fun c => D.str [c]).filter fun d => match d with | .str s => decide (s = [c]) | _ => false).length = w.count c := by
  induction w with
  | nil => rfl
  | cons a w ih =>
    rw [List.map_cons, List.filter_cons, List.count_cons]
    by_cases h : a = c
    · subst h
      rw [if_pos (by simp), List.length_cons, ih]; simp
    · rw [if_neg (by simp [h]), ih]; simp [h]
theorem ok_l_tally : OkN 1 5 s_l_tally b_l_tally := by
  rintro ds xe R ⟨w, rfl, g, l, q⟩
  refine ⟨rfl, ?_⟩
  refine ⟨fun i ρ => ∃ x y z, ρ = [.dd (.str w), .own (tl (((abcW.take i).filter fun c => decide (c ∈ w)).map fun c => (c, w.count c))), x, y, z], ⟨.un, .un, .un, rfl⟩, fun i d ρ e wv => ?_, fun ρ wv => ?_⟩
  · obtain ⟨x, y, z, rfl⟩ := wv
    obtain ⟨c, hc, rfl⟩ := cs_get (l := abcW) e
    refine lc_filter (fun d => match d with | .str s => decide (s = [c]) | _ => false) (fun d => d) (by rw [List.length_map]; omega) (fun k d Q Z e h1 h2 => ?_) ?_
    · obtain ⟨a, ha, rfl⟩ := cs_get (l := w) e
      show ifB (decide ([a] = [c])) _ _
      by_cases z : [a] = [c]
      · rw [decide_eq_true z]; exact h1 (decide_eq_true z)
      · rw [decide_eq_false z]; exact h2 (decide_eq_false z)
    rw [List.map_id']
    have hl := count_signs w c
    generalize (List.filter (fun d => match d with | .str s => decide (s = [c]) | _ => false) (List.map (fun c => D.str [c]) w)) = L at hl ⊢
    have il : i < 26 := (List.getElem?_eq_some_iff.mp hc).1
    have bl : (tl (((abcW.take i).filter fun c => decide (c ∈ w)).map fun c => (c, w.count c))).length ≤ 26 := by
      rw [tl_length, List.length_map]
      have h1 := List.length_filter_le (fun c => decide (c ∈ w)) (abcW.take i)
      rw [List.length_take] at h1; omega
    refine ifB2 (c := (0 : Int) < ((L.length : Nat) : Int)) (fun h => ?_) (fun h => ?_)
    · have cw : c ∈ w := List.count_pos_iff.mp (by omega)
      refine ⟨Nat.lt_of_le_of_lt bl (by decide), small_line (n := 2) (by decide), .dd (.str [c]), .dd (.int ((L.length : Nat) : Int)), z, ?_⟩
      rw [take_snoc hc, List.filter_append, List.map_append, List.filter_cons_of_pos (by simpa using cw), List.filter_nil, tl_app]
      rw [List.map_cons, ← hl]
      rfl
    · have cw : ¬ c ∈ w := fun z => by have := List.count_pos_iff.mpr z; omega
      refine ⟨.dd (.str [c]), .dd (.int ((L.length : Nat) : Int)), z, ?_⟩
      rw [take_snoc hc, List.filter_append, List.map_append, List.filter_cons_of_neg (by simpa using cw), List.filter_nil, List.map_nil, List.append_nil]
      rfl
  · obtain ⟨x, y, z, rfl⟩ := wv
    exact q
/-! ### what a call does to the tally -/
theorem mk_split {w : List Nat} {p : Nat} (h : p < w.length) : ∃ a b : List Nat, w = a ++ [letN w p] ++ b ∧ mk w p = a ++ a ++ [letN w p] ++ b ++ b := by
  refine ⟨w.take p, w.drop (p + 1), ?_, ?_⟩
  · have : letN w p = w[p] := by unfold letN; rw [List.getElem?_eq_getElem h]; rfl
    rw [this, List.append_assoc]
    show w = w.take p ++ (w[p] :: w.drop (p + 1))
    rw [← List.drop_eq_getElem_cons h, List.take_append_drop]
  · unfold mk letN
    rw [List.getElem?_eq_getElem h]; rfl
theorem mk_count {w : List Nat} {p : Nat} (h : p < w.length) (x : Nat) : (mk w p).count x = 2 * w.count x - (if x = letN w p then 1 else 0) := by
  obtain ⟨a, b, e1, e2⟩ := mk_split h
  generalize letN w p = y at *
  rw [e2, e1]
  simp only [List.count_append, List.count_cons, List.count_nil]
  by_cases z : x = y
  · subst z; simp; omega
  · have : ¬ y = x := fun q => z q.symm
    simp [z, this]; omega
theorem mk_mem {w : List Nat} {p : Nat} (h : p < w.length) {x : Nat} : x ∈ mk w p ↔ x ∈ w := by
  obtain ⟨a, b, e1, e2⟩ := mk_split h
  generalize letN w p = y at *
  rw [e2, e1]
  simp only [List.mem_append, List.mem_singleton]
  constructor
  · rintro ((((h | h) | h) | h) | h) <;> simp [h]
  · rintro ((h | h) | h) <;> simp [h]
theorem tly_mk {w : List Nat} {p : Nat} (h : p < w.length) : tly (mk w p) = laterT (tly w) (letN w p) := by
  unfold tly laterT
  rw [List.map_map]
  have e : (abcW.filter fun c => decide (c ∈ mk w p)) = abcW.filter fun c => decide (c ∈ w) := List.filter_congr fun c _ => decide_eq_decide.mpr (mk_mem h)
  rw [e]
  refine List.map_congr_left fun c _ => ?_
  show (c, (mk w p).count c) = (c, 2 * w.count c - if c = letN w p then 1 else 0)
  rw [mk_count h]
theorem clt_snoc {w st : List Nat} {p : Nat} : clt w (st ++ [p]) = clt w st ++ [letN w (rootP (w.length - 1) st p)] := by
  unfold clt
  rw [List.length_append, List.length_singleton, List.range_succ, List.map_append]
  congr 1
  · refine List.map_congr_left fun i hi => ?_
    have il := List.mem_range.mp hi
    rw [List.take_append_of_le_length (by omega), List.getD_eq_getElem?_getD, List.getD_eq_getElem?_getD, List.getElem?_append_left il]
  · show [letN w (rootP (w.length - 1) ((st ++ [p]).take st.length) ((st ++ [p]).getD st.length 0))] = _
    rw [List.take_left, List.getD_eq_getElem?_getD, List.getElem?_append_right (Nat.le_refl _), Nat.sub_self]; rfl
theorem mks_letN {w st : List Nat} {p : Nat} (hw : 1 ≤ w.length) (hs : okS (w.length - 1) st) (hp : p ≤ (w.length - 1) * 2 ^ st.length) : letN (mks w st) p = letN w (rootP (w.length - 1) st p) := by
  unfold letN
  rw [mks_get hw st.length rfl hs hp]
theorem tly_mks {w : List Nat} (hw : 1 ≤ w.length) : ∀ (n : Nat) {st : List Nat}, st.length = n → okS (w.length - 1) st → tly (mks w st) = afterT (tly w) (clt w st)
  | 0, st, hn, _ => by
    have : st = [] := List.length_eq_zero_iff.mp hn
    subst this; rfl
  | n + 1, st, hn, hs => by
    rcases nil_or (st := st) with e | ⟨qs, c, e⟩
    · subst e; cases hn
    · subst e
      have ql : qs.length = n := by simpa using hn
      obtain ⟨h1, h2⟩ := okS_init hs
      have lm := mks_len hw h1
      rw [mks_snoc, clt_snoc, after_snoc, tly_mk (by omega), mks_letN hw h1 h2, tly_mks hw n ql h1]
end DL

namespace K31
open PySem PySem.Spec L2 DL
open PyProof.Rows hiding St
/-! the bodies over data -/
def s_Far_after (c : Kl) : DSp := fun ds _ R => ∃ (w st : List Nat) (p : Nat), ds = [farD c w st, .int (p : Int)] ∧ okF w st ∧ p ≤ lastF w st ∧ st.length < 64 ∧ R (farD c w (st ++ [p]))
/-- Far_after(self 0, place 1) -/
def b_Far_after (c : Kl) : DS :=
  (dSeq (dDrop (dMeth c.Far "_check_place" (s_Far__check_place c) (dVar 0) (dCons (dVar 1) dNil))) (dSeq (dIfS (dTest (dOp oGe (dCB cLen (dCons (dFld c.Far "_story" (dVar 0)) dNil)) (dC (.int 64)))) dNever dNext) (dRet (dMake (s_Far___init__ c) (dCons (dFld c.Far "_row" (dVar 0)) (dCons (dOp oCatL (dFld c.Far "_story" (dVar 0)) (dLst (dCons (dVar 1) dNil))) dNil))))))
/-- law(_law_script 0, _law_bag_here 1, _law_k 2, _law_row_here 3, _law_story_here 4, _law_text 5, _law_place 6, _law_far 7, _law_due 8, _law_again 9, _law_found 10, _law_one 11) -/
def b_law (c : Kl) : DS :=
  (dSeq (dFor (dRng1 (dCons (dC (.int 3)) dNil)) (dgName 2) (dSeq (dAsg 3 (dCallB 1 s_any_row (dCons (dC (.int 40)) dNil))) (dSeq (dAsg 4 (dCallB 1 s_story (dCons (dOp oSub (dCB cLen (dCons (dVar 3) dNil)) (dC (.int 1))) (dCons (dCallB 1 s_take (dCons (dC (.int 5)) dNil)) dNil)))) (dSeq (dAsg 5 (dCall s_written (dCons (dVar 3) (dCons (dVar 4) dNil)))) (dSeq (dPar 6 7 (dCallB 1 s_take (dCons (dCB cLen (dCons (dVar 5) dNil)) dNil)) (dMake (s_Far___init__ c) (dCons (dVar 3) (dCons (dVar 4) dNil)))) (dSeq (dAsg 8 (dLst (dCons (dCall s_l_tally (dCons (dVar 3) dNil)) (dCons (dCall s_l_tally (dCons (dVar 5) dNil)) (dCons (dCall s_l_tally (dCons (dVar 5) dNil)) (dCons (dCall s_l_tally (dCons (dCall s_called (dCons (dVar 5) (dCons (dVar 6) dNil))) dNil)) dNil)))))) (dSeq (dFor (dRng1 (dCons (dC (.int 2)) dNil)) (dgName 9) (dScr 10 [3, 4, 5, 6, 7, 8] [11] (dLst (dCons (dCall s_tally (dCons (dVar 3) dNil)) (dCons (dCall s_tally (dCons (dVar 5) dNil)) (dCons (dCall (s_far_tally c) (dCons (dVar 7) dNil)) (dCons (dCall (s_far_tally c) (dCons (dMeth c.Far "after" (s_Far_after c) (dVar 7) (dCons (dVar 6) dNil)) dNil)) dNil))))) (fun T => (dSeq (dIfS (dNot (dTest (dCall s_alike (dCons (dVar 10) (dCons (dVar 8) dNil))))) (dRet (dC (.bl false))) dNext) T)) (nFor 11 pSelf (nSeq (nApp pSelf) 1 nNil) 1 nNil) dNext)) (dIfS (dOr (dTest (dOp oNeS (dMeth c.Far "row" (s_Far_row c) (dVar 7) dNil) (dVar 3))) (dTest (dOp oNe (dMeth c.Far "story" (s_Far_story c) (dVar 7) dNil) (dVar 4)))) (dRet (dC (.bl false))) dNext)))))))) (dRet (dOp oEq (dCall s_tally (dCons (dC (.str [98, 97])) dNil)) (dLst (dCons (dTup (dCons (dC (.str [97])) (dCons (dC (.int 1)) dNil))) (dCons (dTup (dCons (dC (.str [98])) (dCons (dC (.int 1)) dNil))) dNil))))))

theorem okF_snoc {w st : List Nat} {p : Nat} (ok : okF w st) (hp : p ≤ lastF w st) (h : st.length < 64) : okF w (st ++ [p]) :=
  ⟨ok.lt, ok.l2, ok.l3, ok.os.snoc hp, by rw [List.length_append]; show st.length + 1 ≤ 64; omega⟩
theorem ok_Far_after (c : Kl) : OkN 2 2 (s_Far_after c) (b_Far_after c) := by
  rintro ds xe R ⟨w, st, p, rfl, ok, hp, hl, q⟩
  refine ⟨rfl, ⟨rfl, by decide, w, st, (p : Int), rfl, ok, fun _ _ => ?_, fun z => absurd ⟨by omega, by omega⟩ z⟩⟩
  refine ⟨rfl, _, rfl, ?_⟩
  refine ifB2 (c := (64 : Int) ≤ ((pls st).length : Int)) (fun z => ?_) (fun _ => ?_)
  · rw [pls_length] at z; omega
  refine ⟨rfl, _, rfl, rfl, _, rfl, small_line (n := 1) (by decide), ?_⟩
  refine ⟨?_, w, st ++ [p], ?_, okF_snoc ok hp hl, q⟩
  · rw [pls_length]; exact Nat.le_trans (show st.length + 1 ≤ 64 by omega) (by decide)
  · show [D.str w, D.lst (pls st ++ [.int (p : Int)])] = _
    unfold pls; rw [List.map_append]; rfl
theorem tly_ok {w : List Nat} (g : letters w) (l2 : 1 ≤ w.length) : tOk w.length (tly w) := by
  refine ⟨?_, tly_len w, fun q hq => ?_, fun q hq => ⟨tly_pos q hq, ?_⟩, ?_⟩
  · have h0 : w[0] ∈ w := List.getElem_mem _
    have := (tly_mem g).mpr h0
    have := List.length_pos_of_mem this
    rw [List.length_map] at this; exact this
  · obtain ⟨c, hc, rfl⟩ := List.mem_map.mp hq
    exact abc_lt (List.mem_filter.mp hc).1
  · obtain ⟨c, hc, rfl⟩ := List.mem_map.mp hq
    exact List.count_le_length
  · show (ls (tly w)).Pairwise (· < ·)
    rw [tly_ls]; exact abc_sorted.filter _
/-- four tallies -/
theorem four_fine {a b c d : List Nat} (ga : letters a) (gb : letters b) (gc : letters c) (gd : letters d) (la : 1 ≤ a.length ∧ a.length ≤ 4000) (lb : 1 ≤ b.length ∧ b.length ≤ 4000) (lc : 1 ≤ c.length ∧ c.length ≤ 4000) (ld : 1 ≤ d.length ∧ d.length ≤ 4000) :
    fine (.lst [.lst (tl (tly a)), .lst (tl (tly b)), .lst (tl (tly c)), .lst (tl (tly d))]) := by
  have h200 : (4000 : Nat) < 10 ^ 200 := by decide +kernel
  have f : ∀ w : List Nat, letters w → 1 ≤ w.length ∧ w.length ≤ 4000 → fine (.lst (tl (tly w))) ∧ wt (.lst (tl (tly w))) ≤ 7000 ∧ dpD (.lst (tl (tly w))) ≤ 50 := fun w g l => by
    have o := tly_ok g l.1
    refine ⟨o.fine (by omega), wt_tl o.l1 fun q hq => by have := (o.nb q hq).2; omega, ?_⟩
    have key : ∀ ts : Tally, dpDs (tl ts) ≤ 1 := fun ts => by
      induction ts with
      | nil => simp [tl, dpDs]
      | cons q r ih =>
        have e : tl (q :: r) = D.tup [.str [q.1], .int (q.2 : Int)] :: tl r := rfl
        rw [e]
        simp only [dpDs, dpD] at *
        omega
    have := key (tly w)
    simp only [dpD]
    omega
  refine fine_lst (n := 7000) (m := 4) (fun x hx => ?_) (show 4 ≤ 4 by decide) (by decide)
  simp only [List.mem_cons, List.not_mem_nil, or_false] at hx
  rcases hx with e | e | e | e <;> subst e
  · exact f a ga la
  · exact f b gb lb
  · exact f c gc lc
  · exact f d gd ld
theorem mks_letters {w : List Nat} (g : letters w) : ∀ st : List Nat, letters (mks w st) := fun st => by
  induction st generalizing w with
  | nil => exact g
  | cons p st ih => exact ih (mk_letters g)
theorem law_ok (c : Kl) : b_law c lawEnds (.un :: .bg :: uns (12 - 2)) := by
  refine ⟨by decide, by decide, fun _ ρ => ∃ a2 a3 a4 a5 a6 a7 a8 a9 a10 a11 : Sl, ρ = [.un, .bg, a2, a3, a4, a5, a6, a7, a8, a9, a10, a11], ⟨_, _, _, _, _, _, _, _, _, _, rfl⟩, fun i x ρ e wv => ?_, fun ρ wv => ?_⟩
  · obtain ⟨a2, a3, a4, a5, a6, a7, a8, a9, a10, a11, rfl⟩ := wv
    refine ⟨rfl, 40, rfl, by decide, by decide, fun w g l2 l3 => ?_⟩
    have e0 : (w.length : Int) - 1 = ((w.length - 1 : Nat) : Int) := by omega
    have h50 : (40 : Nat) < 10 ^ 50 := by decide +kernel
    refine ⟨rfl, line_of (by omega), rfl, 5, rfl, by decide, by decide, fun v h0 h1 => ?_⟩
    obtain ⟨m, rfl⟩ : ∃ n : Nat, v = (n : Int) := ⟨v.toNat, by omega⟩
    refine ⟨w.length - 1, m, ?_, by omega, by omega, fun st hm hs => ?_⟩
    · show [D.int ((w.length : Int) - 1), D.int (m : Int)] = _
      rw [e0]
    have pw : (w.length - 1) * 2 ^ st.length ≤ 39 * 16 := Nat.mul_le_mul (by omega) (Nat.pow_le_pow_right (by decide) (by omega) : 2 ^ st.length ≤ 2 ^ 4)
    have ml := mks_len (w := w) (by omega) hs
    have mg := mks_letters g st
    have ok : okF w st := ⟨g, l2, by omega, hs, by omega⟩
    have te := tly_mks (w := w) (by omega) st.length rfl hs
    refine ⟨w, st, rfl, by omega, hs, by omega, ?_⟩
    refine ⟨rfl, line_of (by omega), _, rfl, by omega, Int.lt_of_le_of_lt (show ((mks w st).length : Int) ≤ 1000 by omega) (by decide +kernel), fun v2 h2 h3 => ?_⟩
    obtain ⟨p, rfl⟩ : ∃ n : Nat, v2 = (n : Int) := ⟨v2.toNat, by omega⟩
    have hp : p < (mks w st).length := by omega
    have pl : p ≤ lastF w st := by unfold lastF; omega
    refine ⟨w, st, rfl, ok, ?_⟩
    have g2 : letters (mk (mks w st) p) := mk_letters mg
    have ml2 := mk_len hp
    refine ⟨w, rfl, g, by omega, mks w st, rfl, mg, by omega, mks w st, rfl, mg, by omega, mks w st, p, rfl, hp, by omega, mk (mks w st) p, rfl, g2, by omega, small_line (n := 4) (by decide), ?_⟩
    have te2 : tly (mk (mks w st) p) = afterT (tly w) (clt w (st ++ [p])) := by
      rw [clt_snoc, after_snoc, ← te, tly_mk hp, mks_letN (by omega) hs pl]
    have ff := four_fine g mg mg g2 ⟨by omega, by omega⟩ ⟨by omega, by omega⟩ ⟨by omega, by omega⟩ ⟨by omega, by omega⟩
    refine ⟨by decide, by decide, fun i ρ => ∃ a2 a9 a10 a11 : Sl, ρ = [.un, .bg, a2, .dd (.str w), .dd (.lst (pls st)), .dd (.str (mks w st)), .dd (.int (p : Int)), .dd (farD c w st), .dd (.lst [.lst (tl (tly w)), .lst (tl (tly (mks w st))), .lst (tl (tly (mks w st))), .lst (tl (tly (mk (mks w st) p)))]), a9, a10, a11], ⟨_, _, _, _, rfl⟩, fun i d ρ e wv => ?_, fun ρ wv => ?_⟩
    · obtain ⟨a2, a9, a10, a11, rfl⟩ := wv
      refine ⟨w, rfl, g, by omega, mks w st, rfl, mg, by omega, w, st, rfl, ok, ?_⟩
      refine ⟨rfl, by decide, w, st, p, rfl, ok, pl, by omega, w, st ++ [p], rfl, okF_snoc ok pl (by omega), small_line (n := 4) (by decide), fun f v => ?_⟩
      rw [← te, ← te2]
      refine ⟨_, rfl, ff, ?_⟩
      refine ⟨rfl, ⟨rfl, rfl, rfl, rfl, rfl, rfl, trivial⟩, ?_, ⟨_, _, _, _, rfl⟩⟩
      refine ⟨(by show 11 < 12; decide), _, rfl, fun y hy => ?_, (by show 4 * 1 ≤ 1000000; decide), trivial⟩
      refine ⟨y, rfl, fun k hk => ?_⟩
      have fin : ∀ ts : Tally, ts.length ≤ 26 → nApp pSelf (D.lst (tl ts)) k := fun ts h => ⟨_, rfl, by
        rw [tl_length]
        exact Nat.lt_of_lt_of_le (show ts.length + k < 2000000 by omega) (Nat.le_trans (by decide) (Nat.le_of_eq sizeLine_eq.symm))⟩
      simp only [List.mem_cons, List.not_mem_nil, or_false] at hy
      rcases hy with e | e | e | e <;> subst e
      · exact ⟨fin (tly w) (tly_len _), trivial⟩
      · exact ⟨fin (tly (mks w st)) (tly_len _), trivial⟩
      · exact ⟨fin (tly (mks w st)) (tly_len _), trivial⟩
      · exact ⟨fin (tly (mk (mks w st) p)) (tly_len _), trivial⟩
    · obtain ⟨a2, a9, a10, a11, rfl⟩ := wv
      refine ⟨rfl, by decide, w, st, rfl, ?_⟩
      refine ifN2' (c := w = w) (fun z => absurd rfl z) (fun _ => ?_)
      refine ⟨rfl, by decide, w, st, rfl, ?_⟩
      have pf : fine (.lst (pls st)) := by
        exact pls_fine (fun q hq => Nat.lt_of_le_of_lt (Nat.le_trans (hs.bound hq) pw) (by decide +kernel)) (by omega)
      refine ⟨pf.eq, pf.eq, ?_⟩
      rw [eqv_fine pf]
      exact ⟨_, _, _, _, _, _, _, _, _, _, rfl⟩
  · obtain ⟨a2, a3, a4, a5, a6, a7, a8, a9, a10, a11, rfl⟩ := wv
    have ge : letters [98, 97] := fun c hc => by simp only [List.mem_cons, List.not_mem_nil, or_false] at hc; omega
    refine ⟨[98, 97], rfl, ge, by decide, ?_⟩
    have e : tly [98, 97] = [(97, 1), (98, 1)] := by decide
    rw [e]
    refine ⟨small_line (n := 2) (by decide), small_line (n := 2) (by decide), small_line (n := 2) (by decide), eq_same rfl ?_ rfl⟩
    have := (tly_ok ge (by decide)).fine (show 2 < 10 ^ 200 by decide +kernel)
    rw [e] at this; exact this

/-! the text -/
def topS (i : Nat) : Stmt := PySem.Challenge.pw_ownlog_k31_tallies.main.body.getD i (.Pass ⟨0, 0, 0, 0⟩)
abbrev t_tally : Stmt := topS 8
abbrev n_tally : List Str := ["row", "letter"]
theorem sc_tally : FnScope n_tally ["row"] (defScope t_tally) := ⟨rfl, rfl, rfl, by decide +kernel, rfl, by decide +kernel, by decide +kernel⟩
abbrev t_tally_after : Stmt := topS 10
abbrev n_tally_after : List Str := ["tally", "letters", "known", "letter", "_", "at", "result", "chosen", "number"]
theorem sc_tally_after : FnScope n_tally_after ["tally", "letters"] (defScope t_tally_after) := ⟨rfl, rfl, rfl, by decide +kernel, rfl, by decide +kernel, by decide +kernel⟩
abbrev t_tally_made : Stmt := topS 11
abbrev n_tally_made : List Str := ["row", "letters"]
theorem sc_tally_made : FnScope n_tally_made ["row", "letters"] (defScope t_tally_made) := ⟨rfl, rfl, rfl, by decide +kernel, rfl, by decide +kernel, by decide +kernel⟩
abbrev t_Far_row : Stmt := inC (topS 25) 3
abbrev n_Far_row : List Str := ["self"]
theorem sc_Far_row : FnScope n_Far_row ["self"] (defScope t_Far_row) := ⟨rfl, rfl, rfl, by decide +kernel, rfl, by decide +kernel, by decide +kernel⟩
abbrev t_shown : Stmt := topS 21
abbrev n_shown : List Str := ["last", "called", "place"]
theorem sc_shown : FnScope n_shown ["last", "called", "place"] (defScope t_shown) := ⟨rfl, rfl, rfl, by decide +kernel, rfl, by decide +kernel, by decide +kernel⟩
abbrev t_shown_places : Stmt := topS 23
abbrev n_shown_places : List Str := ["last", "calls", "place", "places", "last_then", "place_then", "called"]
theorem sc_shown_places : FnScope n_shown_places ["last", "calls", "place"] (defScope t_shown_places) := ⟨rfl, rfl, rfl, by decide +kernel, rfl, by decide +kernel, by decide +kernel⟩
abbrev t_called_letters : Stmt := topS 24
abbrev n_called_letters : List Str := ["row", "calls", "letters", "at", "place", "places"]
theorem sc_called_letters : FnScope n_called_letters ["row", "calls"] (defScope t_called_letters) := ⟨rfl, rfl, rfl, by decide +kernel, rfl, by decide +kernel, by decide +kernel⟩
abbrev t_Far_called : Stmt := inC (topS 25) 9
abbrev n_Far_called : List Str := ["self"]
theorem sc_Far_called : FnScope n_Far_called ["self"] (defScope t_Far_called) := ⟨rfl, rfl, rfl, by decide +kernel, rfl, by decide +kernel, by decide +kernel⟩
abbrev t_far_tally : Stmt := topS 9
abbrev n_far_tally : List Str := ["far"]
theorem sc_far_tally : FnScope n_far_tally ["far"] (defScope t_far_tally) := ⟨rfl, rfl, rfl, by decide +kernel, rfl, by decide +kernel, by decide +kernel⟩
abbrev t_is_integer : Stmt := topS 15
abbrev n_is_integer : List Str := ["thing"]
theorem sc_is_integer : FnScope n_is_integer ["thing"] (defScope t_is_integer) := ⟨rfl, rfl, rfl, by decide +kernel, rfl, by decide +kernel, by decide +kernel⟩
abbrev t_has_only_letters : Stmt := topS 16
abbrev n_has_only_letters : List Str := ["string", "sign"]
theorem sc_has_only_letters : FnScope n_has_only_letters ["string"] (defScope t_has_only_letters) := ⟨rfl, rfl, rfl, by decide +kernel, rfl, by decide +kernel, by decide +kernel⟩
abbrev t_is_text : Stmt := topS 17
abbrev n_is_text : List Str := ["thing", "most"]
theorem sc_is_text : FnScope n_is_text ["thing", "most"] (defScope t_is_text) := ⟨rfl, rfl, rfl, by decide +kernel, rfl, by decide +kernel, by decide +kernel⟩
abbrev t_is_row : Stmt := topS 18
abbrev n_is_row : List Str := ["thing"]
theorem sc_is_row : FnScope n_is_row ["thing"] (defScope t_is_row) := ⟨rfl, rfl, rfl, by decide +kernel, rfl, by decide +kernel, by decide +kernel⟩
abbrev t_is_story : Stmt := topS 19
abbrev n_is_story : List Str := ["last", "thing", "last_then", "place"]
theorem sc_is_story : FnScope n_is_story ["last", "thing"] (defScope t_is_story) := ⟨rfl, rfl, rfl, by decide +kernel, rfl, by decide +kernel, by decide +kernel⟩
abbrev t_Far___init__ : Stmt := inC (topS 25) 0
abbrev n_Far___init__ : List Str := ["self", "row", "story"]
theorem sc_Far___init__ : FnScope n_Far___init__ ["self", "row", "story"] (defScope t_Far___init__) := ⟨rfl, rfl, rfl, by decide +kernel, rfl, by decide +kernel, by decide +kernel⟩
abbrev t_Far_story : Stmt := inC (topS 25) 4
abbrev n_Far_story : List Str := ["self"]
theorem sc_Far_story : FnScope n_Far_story ["self"] (defScope t_Far_story) := ⟨rfl, rfl, rfl, by decide +kernel, rfl, by decide +kernel, by decide +kernel⟩
abbrev t_Far_length : Stmt := inC (topS 25) 5
abbrev n_Far_length : List Str := ["self"]
theorem sc_Far_length : FnScope n_Far_length ["self"] (defScope t_Far_length) := ⟨rfl, rfl, rfl, by decide +kernel, rfl, by decide +kernel, by decide +kernel⟩
abbrev t_Far__check_place : Stmt := inC (topS 25) 11
abbrev n_Far__check_place : List Str := ["self", "place"]
theorem sc_Far__check_place : FnScope n_Far__check_place ["self", "place"] (defScope t_Far__check_place) := ⟨rfl, rfl, rfl, by decide +kernel, rfl, by decide +kernel, by decide +kernel⟩
abbrev t_Far_after : Stmt := inC (topS 25) 10
abbrev n_Far_after : List Str := ["self", "place"]
theorem sc_Far_after : FnScope n_Far_after ["self", "place"] (defScope t_Far_after) := ⟨rfl, rfl, rfl, by decide +kernel, rfl, by decide +kernel, by decide +kernel⟩
abbrev t__law_bag : Stmt := topS 27
abbrev n__law_bag : List Str := ["_law_script", "_law_cell"]
theorem sc__law_bag : FnScope n__law_bag ["_law_script"] (defScope t__law_bag) := ⟨rfl, rfl, rfl, by decide +kernel, rfl, by decide +kernel, by decide +kernel⟩
abbrev t__law_take : Stmt := topS 28
abbrev n__law_take : List Str := ["_law_bag_here", "_law_many", "_law_cell", "_law_value", "_law_first", "_law_second"]
theorem sc__law_take : FnScope n__law_take ["_law_bag_here", "_law_many"] (defScope t__law_take) := ⟨rfl, rfl, rfl, by decide +kernel, rfl, by decide +kernel, by decide +kernel⟩
abbrev t__law_alike : Stmt := topS 29
abbrev n__law_alike : List Str := ["_law_found", "_law_due"]
theorem sc__law_alike : FnScope n__law_alike ["_law_found", "_law_due"] (defScope t__law_alike) := ⟨rfl, rfl, rfl, by decide +kernel, rfl, by decide +kernel, by decide +kernel⟩
abbrev t__law_word : Stmt := topS 30
abbrev n__law_word : List Str := ["_law_bag_here", "_law_most", "_law_start", "_law_few", "_law_letters", "_law_way", "_law_size", "_law_many", "_law_word_here", "_law_k"]
theorem sc__law_word : FnScope n__law_word ["_law_bag_here", "_law_most"] (defScope t__law_word) := ⟨rfl, rfl, rfl, by decide +kernel, rfl, by decide +kernel, by decide +kernel⟩
abbrev t__law_row : Stmt := topS 31
abbrev n__law_row : List Str := ["_law_bag_here", "_law_most", "_law_text", "_law_way", "_law_turn", "_law_letter"]
theorem sc__law_row : FnScope n__law_row ["_law_bag_here", "_law_most"] (defScope t__law_row) := ⟨rfl, rfl, rfl, by decide +kernel, rfl, by decide +kernel, by decide +kernel⟩
abbrev t__law_any_row : Stmt := topS 32
abbrev n__law_any_row : List Str := ["_law_bag_here", "_law_most", "_law_size", "_law_k"]
theorem sc__law_any_row : FnScope n__law_any_row ["_law_bag_here", "_law_most"] (defScope t__law_any_row) := ⟨rfl, rfl, rfl, by decide +kernel, rfl, by decide +kernel, by decide +kernel⟩
abbrev t__law_called : Stmt := topS 33
abbrev n__law_called : List Str := ["_law_row_here", "_law_place", "_law_ahead", "_law_behind"]
theorem sc__law_called : FnScope n__law_called ["_law_row_here", "_law_place"] (defScope t__law_called) := ⟨rfl, rfl, rfl, by decide +kernel, rfl, by decide +kernel, by decide +kernel⟩
abbrev t__law_written : Stmt := topS 34
abbrev n__law_written : List Str := ["_law_row_here", "_law_story_here", "_law_place"]
theorem sc__law_written : FnScope n__law_written ["_law_row_here", "_law_story_here"] (defScope t__law_written) := ⟨rfl, rfl, rfl, by decide +kernel, rfl, by decide +kernel, by decide +kernel⟩
abbrev t__law_story : Stmt := topS 35
abbrev n__law_story : List Str := ["_law_bag_here", "_law_last", "_law_calls", "_law_found", "_law_k", "_law_again", "_law_some"]
theorem sc__law_story : FnScope n__law_story ["_law_bag_here", "_law_last", "_law_calls"] (defScope t__law_story) := ⟨rfl, rfl, rfl, by decide +kernel, rfl, by decide +kernel, by decide +kernel⟩
abbrev t__law_tally : Stmt := topS 36
abbrev n__law_tally : List Str := ["_law_text", "_law_found", "_law_letter", "_law_times", "_law_one"]
theorem sc__law_tally : FnScope n__law_tally ["_law_text"] (defScope t__law_tally) := ⟨rfl, rfl, rfl, by decide +kernel, rfl, by decide +kernel, by decide +kernel⟩
abbrev t_law : Stmt := topS 37
abbrev n_law : List Str := ["_law_script", "_law_bag_here", "_law_k", "_law_row_here", "_law_story_here", "_law_text", "_law_place", "_law_far", "_law_due", "_law_again", "_law_found", "_law_one"]
theorem sc_law : FnScope n_law ["_law_script"] (defScope t_law) := ⟨rfl, rfl, rfl, by decide +kernel, rfl, by decide +kernel, by decide +kernel⟩
abbrev tI_OwnError : Stmt := inC (topS 2) 0
theorem scI_OwnError : FnScope ["self", "text"] ["self", "text"] (defScope tI_OwnError) := ⟨rfl, rfl, rfl, by decide +kernel, rfl, by decide +kernel, by decide +kernel⟩
abbrev tI_NoPlace : Stmt := inC (topS 4) 0
theorem scI_NoPlace : FnScope ["self", "place"] ["self", "place"] (defScope tI_NoPlace) := ⟨rfl, rfl, rfl, by decide +kernel, rfl, by decide +kernel, by decide +kernel⟩
abbrev tI_NoLetter : Stmt := inC (topS 6) 0
theorem scI_NoLetter : FnScope ["self", "at"] ["self", "at"] (defScope tI_NoLetter) := ⟨rfl, rfl, rfl, by decide +kernel, rfl, by decide +kernel, by decide +kernel⟩
section
variable {P : Program} {w : World} {K : PySem.W.Frag} {mg : Str → Option Value} {base : Heap}
structure EX (P : Program) (w : World) (K : PySem.W.Frag) (mg : Str → Option Value) (base : Heap) (c : Kl) : Prop where
  g_OwnError : mg "OwnError" = some (.ref c.OwnError)
  g_Wrong : mg "Wrong" = some (.ref c.Wrong)
  g_NoPlace : mg "NoPlace" = some (.ref c.NoPlace)
  g_TooMany : mg "TooMany" = some (.ref c.TooMany)
  g_NoLetter : mg "NoLetter" = some (.ref c.NoLetter)
  g_Far : mg "Far" = some (.ref c.Far)
  cls_Far : L2.Cls K c.Far
  n_Far__row : NoAttr K c.Far "_row"
  n_Far__story : NoAttr K c.Far "_story"
  mV : mg "ValueError" = none
  mIs : mg "isinstance" = none
  Z_NoLetter : ErD P w K mg base "NoLetter" c.NoLetter "at" "a letter does not occur in the tally"
  Z_NoPlace : ErD P w K mg base "NoPlace" c.NoPlace "place" "there is no such place"
theorem fnI_OwnError {f : Addr} {fd : FuncData} (F : Fun K "__init__" "OwnError.__init__" tI_OwnError f fd) (mV : mg "ValueError" = none) (vV : PySem.W.findCls K (.type "ValueError") (.type "type") "__init__" = some (.val (.builtin "ValueError.__init__"))) : FnOk P w K mg base (L2.CX P w) 1 f fd ["self", "text"] (spOwn K) :=
  Fun.okK F scI_OwnError (fun _ _ _ _ h => own_len h) fun cv A o s H vs Q E rg h => ⟨_, pss_cons (ps_expr (pe_veinit (by rfl) mV vV (pa_cons (pv 0) (pa_cons (pv 1) pa_nil)))) (pss_one (ps_ost (pv 0) (pv 1))), own_read h⟩
theorem fnI_NoPlace {f fO CO : Addr} {fd fdO : FuncData} (F : Fun K "__init__" "NoPlace.__init__" tI_NoPlace f fd) (GO : FnOk P w K mg base (L2.CX P w) 1 fO fdO ["self", "text"] (spOwn K)) (MO : ClsM K CO "__init__" fO) (gO : mg "OwnError" = some (.ref CO)) (bO : Binds K fdO ["self", "text"] []) : FnOk P w K mg base (L2.CX P w) 2 f fd ["self", "place"] (spFld K "place" "there is no such place") :=
  Fun.okK F scI_NoPlace (fun _ _ _ _ h => fld_len h) fun cv A o s H vs Q E rg h => ⟨_, pss_cons (ps_expr (pe_clsm MO GO rg bO passF (by rfl) gO (pa_cons (pv 0) (pa_cons pe_str pa_nil)))) (pss_one (ps_ost (pv 0) (pv 1))), fld_read h⟩
theorem fnI_NoLetter {f fO CO : Addr} {fd fdO : FuncData} (F : Fun K "__init__" "NoLetter.__init__" tI_NoLetter f fd) (GO : FnOk P w K mg base (L2.CX P w) 1 fO fdO ["self", "text"] (spOwn K)) (MO : ClsM K CO "__init__" fO) (gO : mg "OwnError" = some (.ref CO)) (bO : Binds K fdO ["self", "text"] []) : FnOk P w K mg base (L2.CX P w) 2 f fd ["self", "at"] (spFld K "at" "a letter does not occur in the tally") :=
  Fun.okK F scI_NoLetter (fun _ _ _ _ h => fld_len h) fun cv A o s H vs Q E rg h => ⟨_, pss_cons (ps_expr (pe_clsm MO GO rg bO passF (by rfl) gO (pa_cons (pv 0) (pa_cons pe_str pa_nil)))) (pss_one (ps_ost (pv 0) (pv 1))), fld_read h⟩
theorem fn_tally {f : Addr} {fd : FuncData} (F : Fun K "tally" "tally" t_tally f fd) (m_sorted : mg "sorted" = none) (m_set : mg "set" = none) : FnG P w K mg base 1 f fd ["row"] (spF K s_tally) :=
  okNF (body := b_tally) F sc_tally rfl rfl ok_tally fun cv A o s H E rg =>
    (xss_one (xs_retG (xfLc (own := [("letter", 1)]) rfl sc_tally.nd (xi_list (xSortSetT rg rfl (by rfl) m_sorted (by rfl) m_set (xv 0))) (blkOk_by (own := [("letter", 1)]) (N := n_tally) (sc := defScope t_tally) (by decide +kernel)) (fun _ _ _ _ _ => (pg_name (i := 1) sc_tally.nd rfl (Or.inl rfl))) (simg_name (by decide)) (fun _ _ _ _ _ => xts_nil) (fun _ _ _ _ _ => (xfTup (xaf_cons (xfN (xv 1)) (xaf_cons (xfN (xCntS (xv 0) (xv 1))) xaf_nil)))))))
theorem fn_tally_after {f : Addr} {fd : FuncData} (F : Fun K "tally_after" "tally_after" t_tally_after f fd) {c : Kl} (ex : EX P w K mg base c) (m_enumerate : mg "enumerate" = none) (m_list : mg "list" = none) (m_int : mg "int" = none) : FnG P w K mg base 4 f fd ["tally", "letters"] (spF K (s_tally_after c)) :=
  okNF (body := (b_tally_after c)) F sc_tally_after rfl rfl (ok_tally_after c) fun cv A o s H E rg =>
    (xss_cons (xs_setLc (i := 2) (own := [("letter", 3), ("_", 4)]) rfl sc_tally_after.nd rfl rfl (sw_true rfl rfl rfl (by decide +kernel)) (xi_list (xv 0)) (blkOk_by (own := [("letter", 3), ("_", 4)]) (N := n_tally_after) (sc := defScope t_tally_after) (by decide +kernel)) (fun _ _ _ _ _ => (pg_tup rfl (pgs_cons (pg_name (i := 3) sc_tally_after.nd rfl (Or.inl rfl)) (pgs_cons (pg_name (i := 4) sc_tally_after.nd rfl (Or.inl rfl)) pgs_nil)))) (simg_pair (by decide) (by decide)) (fun _ _ _ _ _ => xts_nil) (fun _ _ _ _ _ => (xv 3))) (xss_cons (xs_for (vs := [5, 3]) (passes_of rfl) rfl (xi_enumS (by rfl) m_enumerate (xa_cons (xv 1) xa_nil)) (pg_tup rfl (pgs_cons (pg_name (i := 5) sc_tally_after.nd rfl (Or.inl rfl)) (pgs_cons (pg_name (i := 3) sc_tally_after.nd rfl (Or.inl rfl)) pgs_nil))) (simg_pair (by decide) (by decide)) (xss_one (xs_if (xtNiL (xv 3) (xv 2)) (xss_one (xs_raiseD ex.Z_NoLetter rfl (takes_of rfl rfl rfl rfl) (rg.rm.mono (by decide)) (by rfl) (xv 5) (by decide +kernel) passF)) xss_nil))) (xss_cons (xs_setN (i := 6) sc_tally_after.nd rfl (.inl rfl) (xz_of (xfListN (by rfl) m_list (xv 0)))) (xss_cons (xs_for (vs := [7]) (passes_of rfl) rfl (xi_str (xv 1)) (pg_name (i := 7) sc_tally_after.nd rfl (Or.inr rfl)) (simg_name (by decide)) (xss_one (xs_setLcN (i := 6) (own := [("letter", 3), ("number", 8)]) rfl sc_tally_after.nd rfl rfl (sw_true rfl rfl rfl (by decide +kernel)) (xi_list (xv 6)) (blkOk_by (own := [("letter", 3), ("number", 8)]) (N := n_tally_after) (sc := defScope t_tally_after) (by decide +kernel)) (fun _ _ _ _ _ => (pg_tup rfl (pgs_cons (pg_name (i := 3) sc_tally_after.nd rfl (Or.inl rfl)) (pgs_cons (pg_name (i := 8) sc_tally_after.nd rfl (Or.inl rfl)) pgs_nil)))) (simg_pair (by decide) (by decide)) (fun _ _ _ _ _ => xts_nil) (fun _ _ _ _ _ => (xfTup (xaf_cons (xfN (xv 3)) (xaf_cons (xfN (xSub (xMul xe_int (xv 8)) (xIntOf (by rfl) m_int (xEqS (xv 3) (xv 7))))) xaf_nil))))))) (xss_one (xs_retZ (xz_var 6 (pv 6))))))))
theorem fn_tally_made {f : Addr} {fd : FuncData} (F : Fun K "tally_made" "tally_made" t_tally_made f fd) {c : Kl} (ex : EX P w K mg base c) {f_tally_after : Addr} {fd_tally_after : FuncData} (G_tally_after : FnG P w K mg base 4 f_tally_after fd_tally_after ["tally", "letters"] (spF K (s_tally_after c))) (g_tally_after : mg "tally_after" = some (.ref f_tally_after)) (k_tally_after : PySem.W.keepIn K (.ref f_tally_after) = true) (b_tally_after : Binds K fd_tally_after ["tally", "letters"] []) {f_tally : Addr} {fd_tally : FuncData} (G_tally : FnG P w K mg base 1 f_tally fd_tally ["row"] (spF K s_tally)) (g_tally : mg "tally" = some (.ref f_tally)) (k_tally : PySem.W.keepIn K (.ref f_tally) = true) (b_tally : Binds K fd_tally ["row"] []) : FnG P w K mg base 5 f fd ["row", "letters"] (spF K (s_tally_made c)) :=
  okNF (body := (b_tally_made c)) F sc_tally_made rfl rfl (ok_tally_made c) fun cv A o s H E rg =>
    (xss_one (xs_retC G_tally_after (rg.mono (by decide)) (by rfl) g_tally_after k_tally_after b_tally_after passD (xa_cons (xCall G_tally.toN (rg.mono (by decide)) (by rfl) g_tally k_tally b_tally passD (xa_cons (xv 0) xa_nil)) (xa_cons (xv 1) xa_nil))))
theorem fn_Far_row {f : Addr} {fd : FuncData} (F : Fun K "row" "Far.row" t_Far_row f fd) {c : Kl} (ex : EX P w K mg base c) : FnG P w K mg base 1 f fd ["self"] (spN K (s_Far_row c)) :=
  okN (body := (b_Far_row c)) F sc_Far_row rfl rfl (ok_Far_row c) fun cv A o s H E rg =>
    (xss_one (xs_ret (xFld ex.cls_Far ex.n_Far__row (xv 0))))
theorem fn_shown {f : Addr} {fd : FuncData} (F : Fun K "shown" "shown" t_shown f fd)  : FnG P w K mg base 1 f fd ["last", "called", "place"] (spN K s_shown) :=
  okN (body := b_shown) F sc_shown rfl rfl ok_shown fun cv A o s H E rg =>
    (xss_cons (xs_if (xtLt (xv 2) (xv 1)) (xss_one (xs_ret (xv 2))) xss_nil) (xss_cons (xs_if (xtLe (xv 2) (xAdd (xv 1) (xv 0))) (xss_one (xs_ret (xSub (xv 2) (xv 1)))) xss_nil) (xss_one (xs_ret (xSub (xv 2) (xv 0))))))
theorem fn_shown_places {f : Addr} {fd : FuncData} (F : Fun K "shown_places" "shown_places" t_shown_places f fd) {f_shown : Addr} {fd_shown : FuncData} (G_shown : FnG P w K mg base 1 f_shown fd_shown ["last", "called", "place"] (spN K s_shown)) (g_shown : mg "shown" = some (.ref f_shown)) (k_shown : PySem.W.keepIn K (.ref f_shown) = true) (b_shown : Binds K fd_shown ["last", "called", "place"] []) (m_reversed : mg "reversed" = none) : FnG P w K mg base 2 f fd ["last", "calls", "place"] (spF K s_shown_places) :=
  okNF (body := b_shown_places) F sc_shown_places rfl rfl ok_shown_places fun cv A o s H E rg =>
    (xss_cons (xs_lstO (i := 3) sc_shown_places.nd rfl (.inl rfl) (xa_cons (xv 2) xa_nil)) (xss_cons (xs_set (i := 4) sc_shown_places.nd rfl (.inl rfl) (xv 0)) (xss_cons (xs_set (i := 5) sc_shown_places.nd rfl (.inl rfl) (xv 2)) (xss_cons (xs_for (vs := [6]) (passes_of rfl) rfl (xi_rev (by rfl) m_reversed (xa_cons (xv 1) xa_nil)) (pg_name (i := 6) sc_shown_places.nd rfl (Or.inl rfl)) (simg_name (by decide)) (xss_cons (xs_set (i := 4) sc_shown_places.nd rfl (.inl rfl) (xDiv (xv 4) xe_int)) (xss_cons (xs_set (i := 5) sc_shown_places.nd rfl (.inl rfl) (xCall G_shown (rg.mono (by decide)) (by rfl) g_shown k_shown b_shown passD (xa_cons (xv 4) (xa_cons (xv 6) (xa_cons (xv 5) xa_nil))))) (xss_one (xs_app (i := 3) (pe_bm PySem.F.plainAttrs_list PySem.F.slot_list_append PySem.F.type_list_append mt_append (pv 3) (pa_cons ((xv 5)).pe pa_nil))))))) (xss_one (xs_retO (i := 3) (pv 3)))))))
theorem fn_called_letters {f : Addr} {fd : FuncData} (F : Fun K "called_letters" "called_letters" t_called_letters f fd) {f_shown_places : Addr} {fd_shown_places : FuncData} (G_shown_places : FnG P w K mg base 2 f_shown_places fd_shown_places ["last", "calls", "place"] (spF K s_shown_places)) (g_shown_places : mg "shown_places" = some (.ref f_shown_places)) (k_shown_places : PySem.W.keepIn K (.ref f_shown_places) = true) (b_shown_places : Binds K fd_shown_places ["last", "calls", "place"] []) (m_enumerate : mg "enumerate" = none) (m_len : mg "len" = none) : FnG P w K mg base 3 f fd ["row", "calls"] (spN K s_called_letters) :=
  okN (body := b_called_letters) F sc_called_letters rfl rfl ok_called_letters fun cv A o s H E rg =>
    (xss_cons (xs_newO (i := 2) sc_called_letters.nd rfl (.inl rfl)) (xss_cons (xs_for (vs := [3, 4]) (passes_of rfl) rfl (xi_enum (by rfl) m_enumerate (xa_cons (xv 1) xa_nil)) (pg_tup rfl (pgs_cons (pg_name (i := 3) sc_called_letters.nd rfl (Or.inl rfl)) (pgs_cons (pg_name (i := 4) sc_called_letters.nd rfl (Or.inl rfl)) pgs_nil))) (simg_pair (by decide) (by decide)) (xss_cons (xs_set (i := 5) sc_called_letters.nd rfl (.inl rfl) (xCall G_shown_places.toN (rg.mono (by decide)) (by rfl) g_shown_places k_shown_places b_shown_places passD (xa_cons (xShl (xSub (xLen (by rfl) m_len (xv 0)) xe_int) (xv 3)) (xa_cons (xSl (xv 1) xo_none (xo_some (xv 3))) (xa_cons (xv 4) xa_nil))))) (xss_one (xs_app (i := 2) (pe_bm PySem.F.plainAttrs_list PySem.F.slot_list_append PySem.F.type_list_append mt_append (pv 2) (pa_cons ((xIx (xv 0) (xIx (xv 5) (xNeg xe_int)))).pe pa_nil)))))) (xss_one (xs_ret (xThaw 2 (xJoin0 (he := (xv 2))))))))
theorem fn_Far_called {f : Addr} {fd : FuncData} (F : Fun K "called" "Far.called" t_Far_called f fd) {c : Kl} (ex : EX P w K mg base c) {f_called_letters : Addr} {fd_called_letters : FuncData} (G_called_letters : FnG P w K mg base 3 f_called_letters fd_called_letters ["row", "calls"] (spN K s_called_letters)) (g_called_letters : mg "called_letters" = some (.ref f_called_letters)) (k_called_letters : PySem.W.keepIn K (.ref f_called_letters) = true) (b_called_letters : Binds K fd_called_letters ["row", "calls"] []) : FnG P w K mg base 4 f fd ["self"] (spN K (s_Far_called c)) :=
  okN (body := (b_Far_called c)) F sc_Far_called rfl rfl (ok_Far_called c) fun cv A o s H E rg =>
    (xss_one (xs_ret (xCall G_called_letters (rg.mono (by decide)) (by rfl) g_called_letters k_called_letters b_called_letters passD (xa_cons (xFld ex.cls_Far ex.n_Far__row (xv 0)) (xa_cons (xFld ex.cls_Far ex.n_Far__story (xv 0)) xa_nil)))))
theorem fn_far_tally {f : Addr} {fd : FuncData} (F : Fun K "far_tally" "far_tally" t_far_tally f fd) {c : Kl} (ex : EX P w K mg base c) {f_tally_made : Addr} {fd_tally_made : FuncData} (G_tally_made : FnG P w K mg base 5 f_tally_made fd_tally_made ["row", "letters"] (spF K (s_tally_made c))) (g_tally_made : mg "tally_made" = some (.ref f_tally_made)) (k_tally_made : PySem.W.keepIn K (.ref f_tally_made) = true) (b_tally_made : Binds K fd_tally_made ["row", "letters"] []) {f_Far_row : Addr} {fd_Far_row : FuncData} (G_Far_row : FnG P w K mg base 1 f_Far_row fd_Far_row ["self"] (spN K (s_Far_row c))) (h_Far_row : Meth K c.Far "row" f_Far_row) (b_Far_row : Binds K fd_Far_row ["self"] []) {f_Far_called : Addr} {fd_Far_called : FuncData} (G_Far_called : FnG P w K mg base 4 f_Far_called fd_Far_called ["self"] (spN K (s_Far_called c))) (h_Far_called : Meth K c.Far "called" f_Far_called) (b_Far_called : Binds K fd_Far_called ["self"] []) : FnG P w K mg base 6 f fd ["far"] (spF K (s_far_tally c)) :=
  okNF (body := (b_far_tally c)) F sc_far_tally rfl rfl (ok_far_tally c) fun cv A o s H E rg =>
    (xss_one (xs_retC G_tally_made (rg.mono (by decide)) (by rfl) g_tally_made k_tally_made b_tally_made passD (xa_cons (xMeth0 ex.cls_Far h_Far_row G_Far_row (rg.mono (by decide)) b_Far_row passD (xv 0)) (xa_cons (xMeth0 ex.cls_Far h_Far_called G_Far_called (rg.mono (by decide)) b_Far_called passD (xv 0)) xa_nil))))
theorem fn_is_integer {f : Addr} {fd : FuncData} (F : Fun K "is_integer" "is_integer" t_is_integer f fd) (m_isinstance : mg "isinstance" = none) (m_int : mg "int" = none) (m_bool : mg "bool" = none) : FnG P w K mg base 1 f fd ["thing"] (spN K s_is_integer) :=
  okN (body := b_is_integer) F sc_is_integer rfl rfl ok_is_integer fun cv A o s H E rg =>
    (xss_one (xs_ret (xv_and (xIsi (T := "int") (by rfl) m_isinstance (by rfl) m_int (xv 0)) (xv_one (xv_not (xIsi (T := "bool") (by rfl) m_isinstance (by rfl) m_bool (xv 0)))))))
theorem fn_has_only_letters {f : Addr} {fd : FuncData} (F : Fun K "has_only_letters" "has_only_letters" t_has_only_letters f fd)  : FnG P w K mg base 1 f fd ["string"] (spN K s_has_only_letters) :=
  okN (body := b_has_only_letters) F sc_has_only_letters rfl rfl ok_has_only_letters fun cv A o s H E rg =>
    (xss_cons (xs_for (vs := [1]) (passes_of rfl) rfl (xi_str (xv 0)) (pg_name (i := 1) sc_has_only_letters.nd rfl (Or.inl rfl)) (simg_name (by decide)) (xss_one (xs_if (xw_or (xtLtS (xv 1) xe_strL) (xw_or1 (xtGtS (xv 1) xe_strL))).xt (xss_one (xs_ret xe_bl)) xss_nil))) (xss_one (xs_ret xe_bl)))
theorem fn_is_text {f : Addr} {fd : FuncData} (F : Fun K "is_text" "is_text" t_is_text f fd) {f_has_only_letters : Addr} {fd_has_only_letters : FuncData} (G_has_only_letters : FnG P w K mg base 1 f_has_only_letters fd_has_only_letters ["string"] (spN K s_has_only_letters)) (g_has_only_letters : mg "has_only_letters" = some (.ref f_has_only_letters)) (k_has_only_letters : PySem.W.keepIn K (.ref f_has_only_letters) = true) (b_has_only_letters : Binds K fd_has_only_letters ["string"] []) (m_isinstance : mg "isinstance" = none) (m_str : mg "str" = none) (m_len : mg "len" = none) : FnG P w K mg base 2 f fd ["thing", "most"] (spN K s_is_text) :=
  okN (body := b_is_text) F sc_is_text rfl rfl ok_is_text fun cv A o s H E rg =>
    (xss_one (xs_ret (xv_and (xIsi (T := "str") (by rfl) m_isinstance (by rfl) m_str (xv 0)) (xv_and (xChain op_le op_le simr_Le simr_Le xe_int (xLen (by rfl) m_len (xv 0)) (xv 1)) (xv_one (xCall G_has_only_letters (rg.mono (by decide)) (by rfl) g_has_only_letters k_has_only_letters b_has_only_letters passD (xa_cons (xv 0) xa_nil)))))))
theorem fn_is_row {f : Addr} {fd : FuncData} (F : Fun K "is_row" "is_row" t_is_row f fd) {f_is_text : Addr} {fd_is_text : FuncData} (G_is_text : FnG P w K mg base 2 f_is_text fd_is_text ["thing", "most"] (spN K s_is_text)) (g_is_text : mg "is_text" = some (.ref f_is_text)) (k_is_text : PySem.W.keepIn K (.ref f_is_text) = true) (b_is_text : Binds K fd_is_text ["thing", "most"] []) {tk_MOST_LETTERS : Tok} (g_MOST_LETTERS : mg "MOST_LETTERS" = some (.int 1000 tk_MOST_LETTERS)) (m_len : mg "len" = none) : FnG P w K mg base 3 f fd ["thing"] (spN K s_is_row) :=
  okN (body := b_is_row) F sc_is_row rfl rfl ok_is_row fun cv A o s H E rg =>
    (xss_one (xs_ret (xv_and (xCall G_is_text (rg.mono (by decide)) (by rfl) g_is_text k_is_text b_is_text passD (xa_cons (xv 0) (xa_cons (xe_globI (by rfl) g_MOST_LETTERS) xa_nil))) (xv_one (xGe (xLen (by rfl) m_len (xv 0)) xe_int)))))
theorem fn_is_story {f : Addr} {fd : FuncData} (F : Fun K "is_story" "is_story" t_is_story f fd) {f_is_integer : Addr} {fd_is_integer : FuncData} (G_is_integer : FnG P w K mg base 1 f_is_integer fd_is_integer ["thing"] (spN K s_is_integer)) (g_is_integer : mg "is_integer" = some (.ref f_is_integer)) (k_is_integer : PySem.W.keepIn K (.ref f_is_integer) = true) (b_is_integer : Binds K fd_is_integer ["thing"] []) (m_isinstance : mg "isinstance" = none) (m_list : mg "list" = none) (m_len : mg "len" = none) {tk_MOST_CALLS : Tok} (g_MOST_CALLS : mg "MOST_CALLS" = some (.int 64 tk_MOST_CALLS)) : FnG P w K mg base 2 f fd ["last", "thing"] (spN K s_is_story) :=
  okN (body := b_is_story) F sc_is_story rfl rfl ok_is_story fun cv A o s H E rg =>
    (xss_cons (xs_if (xw_or (xt_not (xt_val (xIsi (T := "list") (by rfl) m_isinstance (by rfl) m_list (xv 1)))) (xw_or1 (xtGt (xLen (by rfl) m_len (xv 1)) (xe_globI (by rfl) g_MOST_CALLS)))).xt (xss_one (xs_ret xe_bl)) xss_nil) (xss_cons (xs_set (i := 2) sc_is_story.nd rfl (.inl rfl) (xv 0)) (xss_cons (xs_for (vs := [3]) (passes_of rfl) rfl (xi_list (xv 1)) (pg_name (i := 3) sc_is_story.nd rfl (Or.inl rfl)) (simg_name (by decide)) (xss_cons (xs_if (xw_or (xt_not (xt_val (xCall G_is_integer (rg.mono (by decide)) (by rfl) g_is_integer k_is_integer b_is_integer passD (xa_cons (xv 3) xa_nil)))) (xw_or1 (xt_not (xtChain op_le op_le simr_Le simr_Le xe_int (xv 3) (xv 2))))).xt (xss_one (xs_ret xe_bl)) xss_nil) (xss_one (xs_set (i := 2) sc_is_story.nd rfl (.inl rfl) (xMul xe_int (xv 2)))))) (xss_one (xs_ret xe_bl)))))
theorem fn_Far___init__ {f : Addr} {fd : FuncData} (F : Fun K "__init__" "Far.__init__" t_Far___init__ f fd) {c : Kl} (ex : EX P w K mg base c) {f_is_row : Addr} {fd_is_row : FuncData} (G_is_row : FnG P w K mg base 3 f_is_row fd_is_row ["thing"] (spN K s_is_row)) (g_is_row : mg "is_row" = some (.ref f_is_row)) (k_is_row : PySem.W.keepIn K (.ref f_is_row) = true) (b_is_row : Binds K fd_is_row ["thing"] []) {f_is_story : Addr} {fd_is_story : FuncData} (G_is_story : FnG P w K mg base 2 f_is_story fd_is_story ["last", "thing"] (spN K s_is_story)) (g_is_story : mg "is_story" = some (.ref f_is_story)) (k_is_story : PySem.W.keepIn K (.ref f_is_story) = true) (b_is_story : Binds K fd_is_story ["last", "thing"] []) (m_len : mg "len" = none) (m_list : mg "list" = none) : FnG P w K mg base 4 f fd ["self", "row", "story"] (spI K c.Far (s_Far___init__ c)) :=
  okI2 (d1 := (dIfS (dNot (dTest (dCall s_is_row (dCons (dVar 1) dNil)))) dNever dNext)) (d2 := (dIfS (dNot (dTest (dCall s_is_story (dCons (dOp oSub (dCB cLen (dCons (dVar 1) dNil)) (dC (.int 1))) (dCons (dVar 2) dNil))))) dNever dNext)) F sc_Far___init__ ex.cls_Far ex.n_Far__row ex.n_Far__story (by decide) (ok_Far___init__ c) fun cv A o s H E rg =>
    ⟨_, _, _, _, rfl, (xs_if (xt_not (xt_val (xCall G_is_row (rg.mono (by decide)) (by rfl) g_is_row k_is_row b_is_row passD (xa_cons (xv 1) xa_nil)))) (xss_one xs_never) xss_nil), (xs_if (xt_not (xt_val (xCall G_is_story (rg.mono (by decide)) (by rfl) g_is_story k_is_story b_is_story passD (xa_cons (xSub (xLen (by rfl) m_len (xv 1)) xe_int) (xa_cons (xv 2) xa_nil))))) (xss_one xs_never) xss_nil), ps_fld (pv 0) (pv 1) rfl, ps_fld (pv 0) (xListOf (by rfl) m_list (xv 2)).pe rfl⟩
theorem fn_Far_story {f : Addr} {fd : FuncData} (F : Fun K "story" "Far.story" t_Far_story f fd) {c : Kl} (ex : EX P w K mg base c) (m_list : mg "list" = none) : FnG P w K mg base 1 f fd ["self"] (spN K (s_Far_story c)) :=
  okN (body := (b_Far_story c)) F sc_Far_story rfl rfl (ok_Far_story c) fun cv A o s H E rg =>
    (xss_one (xs_ret (xListOf (by rfl) m_list (xFld ex.cls_Far ex.n_Far__story (xv 0)))))
theorem fn_Far_length {f : Addr} {fd : FuncData} (F : Fun K "length" "Far.length" t_Far_length f fd) {c : Kl} (ex : EX P w K mg base c) (m_len : mg "len" = none) : FnG P w K mg base 1 f fd ["self"] (spN K (s_Far_length c)) :=
  okN (body := (b_Far_length c)) F sc_Far_length rfl rfl (ok_Far_length c) fun cv A o s H E rg =>
    (xss_one (xs_ret (xAdd (xShl (xSub (xLen (by rfl) m_len (xFld ex.cls_Far ex.n_Far__row (xv 0))) xe_int) (xLen (by rfl) m_len (xFld ex.cls_Far ex.n_Far__story (xv 0)))) xe_int)))
theorem fn_Far__check_place {f : Addr} {fd : FuncData} (F : Fun K "_check_place" "Far._check_place" t_Far__check_place f fd) {c : Kl} (ex : EX P w K mg base c) {f_Far_length : Addr} {fd_Far_length : FuncData} (G_Far_length : FnG P w K mg base 1 f_Far_length fd_Far_length ["self"] (spN K (s_Far_length c))) (h_Far_length : Meth K c.Far "length" f_Far_length) (b_Far_length : Binds K fd_Far_length ["self"] []) : FnG P w K mg base 4 f fd ["self", "place"] (spN K (s_Far__check_place c)) :=
  okN (body := (b_Far__check_place c)) F sc_Far__check_place rfl rfl (ok_Far__check_place c) fun cv A o s H E rg =>
    (xss_one (xs_if (xt_not (xtChain op_le op_lt simr_Le simr_Lt xe_int (xv 1) (xMeth0 ex.cls_Far h_Far_length G_Far_length (rg.mono (by decide)) b_Far_length passD (xv 0)))) (xss_one (xs_raiseD ex.Z_NoPlace rfl (takes_of rfl rfl rfl rfl) (rg.rm.mono (by decide)) (by rfl) (xv 1) (by decide +kernel) passF)) xss_nil))
theorem fn_Far_after {f : Addr} {fd : FuncData} (F : Fun K "after" "Far.after" t_Far_after f fd) {c : Kl} (ex : EX P w K mg base c) {f_Far__check_place : Addr} {fd_Far__check_place : FuncData} (G_Far__check_place : FnG P w K mg base 4 f_Far__check_place fd_Far__check_place ["self", "place"] (spN K (s_Far__check_place c))) (h_Far__check_place : Meth K c.Far "_check_place" f_Far__check_place) (b_Far__check_place : Binds K fd_Far__check_place ["self", "place"] []) {f_Far___init__ : Addr} {fd_Far___init__ : FuncData} (G_Far___init__ : FnG P w K mg base 4 f_Far___init__ fd_Far___init__ ["self", "row", "story"] (spI K c.Far (s_Far___init__ c))) (h_Far___init__ : Mk K c.Far f_Far___init__) (b_Far___init__ : Binds K fd_Far___init__ ["self", "row", "story"] []) (m_len : mg "len" = none) {tk_MOST_CALLS : Tok} (g_MOST_CALLS : mg "MOST_CALLS" = some (.int 64 tk_MOST_CALLS)) : FnG P w K mg base 6 f fd ["self", "place"] (spN K (s_Far_after c)) :=
  okN (body := (b_Far_after c)) F sc_Far_after rfl rfl (ok_Far_after c) fun cv A o s H E rg =>
    (xss_cons (xs_expr (xMeth ex.cls_Far h_Far__check_place G_Far__check_place (rg.mono (by decide)) b_Far__check_place passD (xv 0) (xa_cons (xv 1) xa_nil))) (xss_cons (xs_if (xtGe (xLen (by rfl) m_len (xFld ex.cls_Far ex.n_Far__story (xv 0))) (xe_globI (by rfl) g_MOST_CALLS)) (xss_one xs_never) xss_nil) (xss_one (xs_ret (xMake h_Far___init__ G_Far___init__ (rg.mono (by decide)) (by rfl) ex.g_Far b_Far___init__ passD (xa_cons (xFld ex.cls_Far ex.n_Far__row (xv 0)) (xa_cons (xCatL (xFld ex.cls_Far ex.n_Far__story (xv 0)) (xLst (xa_cons (xv 1) xa_nil))) xa_nil)))))))
theorem fn__law_bag {f : Addr} {fd : FuncData} (F : Fun K "_law_bag" "_law_bag" t__law_bag f fd) (m_abs : mg "abs" = none) : FnG P w K mg base 1 f fd ["_law_script"] (spBag K) :=
  Fun.okG F sc__law_bag (fun _ _ _ _ h => bag_len h) fun cv A o s H vs Q E rg h => ⟨_, pss_one (ps_ret (pe_lst (pa_cons pe_int (pa_cons pe_int (pa_cons pe_int (pa_cons
    (pe_lc (own := [("_law_cell", 1)]) (g := gName 1) (tt := tYes) rfl sc__law_bag.nd (pi_list (pe_slice sl_list (pv 0) po_none (po_some pe_int))) (blkOk_by (N := n__law_bag) (sc := defScope t__law_bag) (by decide +kernel))
      (fun _ _ _ _ _ => pg_name (i := 1) sc__law_bag.nd rfl (Or.inl rfl)) (fun _ _ _ _ _ => pts_nil) (fun _ _ _ _ _ => pe_callB call_abs (by rfl) m_abs (by decide +kernel) (pa_cons (pv 1) pa_nil))) pa_nil)))))), bag_read h⟩

theorem fn__law_take {f : Addr} {fd : FuncData} (F : Fun K "_law_take" "_law_take" t__law_take f fd) (m_len : mg "len" = none) : FnG P w K mg base 1 f fd ["_law_bag_here", "_law_many"] (spB K sTake) :=
  Fun.okG F sc__law_take (fun _ _ _ _ h => take_len h) fun cv A o s H vs Q E rg h => ⟨_, pss_cons (ps_if (pt_cmpR op_eq (pe_ix ix_list (pv 0) pe_int (fun _ _ => rfl)) pe_int (nomark _))
      (pss_cons (ps_set (i := 2) sc__law_take.nd rfl (.inl rfl) pe_int)
      (pss_cons (ps_if (pt_cmpR op_lt (pe_ix ix_list (pv 0) pe_int (fun _ _ => rfl)) (pe_callB call_len_seq (by rfl) m_len PySem.boot_len (pa_cons (pe_ix ix_list (pv 0) pe_int (fun _ _ => rfl)) pa_nil)) (nomark _))
        (pss_one (ps_set (i := 2) sc__law_take.nd rfl (.inl rfl) (pe_ix ix_list (pe_ix ix_list (pv 0) pe_int (fun _ _ => rfl)) (pe_ix ix_list (pv 0) pe_int (fun _ _ => rfl)) (fun _ _ => rfl)))) pss_nil)
      (pss_cons (ps_augS (pv 0) pe_int get_list pe_int ip_add set_list)
      (pss_cons (ps_if (pt_cmpR op_ge (pv 2) pe_int (nomark _)) (pss_one (ps_asg (pv 2) (pg_sub (pv 0) pe_int set_list))) pss_nil)
      (pss_one (ps_asg (pe_op op_mod (pe_op op_add (pe_op op_add (pe_op op_mul (pe_ix ix_list (pv 0) pe_int (fun _ _ => rfl)) pe_int) (pe_op op_mod (pv 2) pe_int)) (pe_op op_mul pe_int (pe_ix ix_list (pv 0) pe_int (fun _ _ => rfl)))) pe_int) (pg_sub (pv 0) pe_int set_list))))))) pss_nil)
    (pss_cons (ps_if (pt_cmpR op_gt (pe_ix ix_list (pv 0) pe_int (fun _ _ => rfl)) pe_int (nomark _))
      (pss_cons (ps_set (i := 3) sc__law_take.nd rfl (.inl rfl) (pe_op op_mod (pe_ix ix_list (pv 0) pe_int (fun _ _ => rfl)) (pv 1)))
      (pss_cons (ps_asg (pe_op op_fdivW (pe_ix ix_list (pv 0) pe_int (fun _ _ => rfl)) (pv 1)) (pg_sub (pv 0) pe_int set_list))
      (pss_one (ps_ret (pv 3))))) pss_nil)
    (pss_cons (ps_set (i := 4) sc__law_take.nd rfl (.inl rfl) (pe_op op_mod (pe_op op_mul (pe_op op_add (pe_ix ix_list (pv 0) pe_int (fun _ _ => rfl)) pe_int) pe_int) pe_int))
    (pss_cons (ps_set (i := 5) sc__law_take.nd rfl (.inl rfl) (pe_op op_mod (pe_op op_mul (pe_op op_mod (pe_op op_mul (pv 4) (pv 4)) pe_int) pe_int) pe_int))
    (pss_cons (ps_if (pt_cmpR op_gt (pv 1) pe_int (nomark _)) (pss_one (ps_ret (pe_op op_mod (pe_op op_add (pe_op op_mul (pv 5) pe_int) (pv 4)) (pv 1)))) pss_nil)
    (pss_one (ps_ret (pe_op op_mod (pe_op op_fdivW (pv 5) pe_int) (pv 1)))))))), take_read h⟩

theorem fn__law_alike {f : Addr} {fd : FuncData} (F : Fun K "_law_alike" "_law_alike" t__law_alike f fd) (m_repr : mg "repr" = none) : FnG P w K mg base 1 f fd ["_law_found", "_law_due"] (spN K s_alike) :=
  okN (body := b_alike) F sc__law_alike rfl rfl ok_alike fun cv A o s H E rg =>
    (xss_one (xs_ret (xv_and (xEq rg (xv 0) (xv 1)) (xv_one (xEqS (xRepr rg (by rfl) m_repr (xv 0)) (xRepr rg (by rfl) m_repr (xv 1)))))))
theorem fn__law_word {f : Addr} {fd : FuncData} (F : Fun K "_law_word" "_law_word" t__law_word f fd) {f__law_take : Addr} {fd__law_take : FuncData} (G__law_take : FnG P w K mg base 1 f__law_take fd__law_take ["_law_bag_here", "_law_many"] (spB K sTake)) (g__law_take : mg "_law_take" = some (.ref f__law_take)) (k__law_take : PySem.W.keepIn K (.ref f__law_take) = true) (b__law_take : Binds K fd__law_take ["_law_bag_here", "_law_many"] []) (m_int : mg "int" = none) (m_range : mg "range" = none) : FnG P w K mg base 2 f fd ["_law_bag_here", "_law_most"] (spB K s_word) :=
  okB (body := b_word) F sc__law_word rfl rfl ok_word fun cv A o s H E rg =>
    (xss_cons (xs_unpack2 rfl (xTup (xa_cons (xCallB (i := 0) G__law_take (rg.mono (by decide)) (by rfl) g__law_take k__law_take b__law_take passD (pv 0) (xa_cons xe_int xa_nil)) (xa_cons (xAdd xe_int (xCallB (i := 0) G__law_take (rg.mono (by decide)) (by rfl) g__law_take k__law_take b__law_take passD (pv 0) (xa_cons xe_int xa_nil))) xa_nil))) (pg_tup rfl (pgs_cons (pg_name (i := 2) sc__law_word.nd rfl (Or.inl rfl)) (pgs_cons (pg_name (i := 3) sc__law_word.nd rfl (Or.inr rfl)) pgs_nil)))) (xss_cons (xs_set (i := 4) sc__law_word.nd rfl (.inr rfl) (xSlS xe_strL (xo_some (xv 2)) (xo_some (xAdd (xv 2) (xv 3))))) (xss_cons (xs_par (i := 5) (j := 6) rfl sc__law_word.nd rfl rfl (by decide) rfl rfl (xCallB (i := 0) G__law_take (rg.mono (by decide)) (by rfl) g__law_take k__law_take b__law_take passD (pv 0) (xa_cons xe_int xa_nil)) (xAdd xe_int (xCallB (i := 0) G__law_take (rg.mono (by decide)) (by rfl) g__law_take k__law_take b__law_take passD (pv 0) (xa_cons (xv 1) xa_nil)))) (xss_cons (xs_set (i := 7) sc__law_word.nd rfl (.inl rfl) (xIx (xLst (xa_cons (xv 6) (xa_cons (xAdd xe_int (xCallB (i := 0) G__law_take (rg.mono (by decide)) (by rfl) g__law_take k__law_take b__law_take passD (pv 0) (xa_cons xe_int xa_nil))) xa_nil))) (xIntOf (by rfl) m_int (xGt (xv 5) xe_int)))) (xss_cons (xs_set (i := 8) sc__law_word.nd rfl (.inl rfl) (xJoin0 (he := (xLc (own := [("_law_k", 9)]) rfl sc__law_word.nd (xi_rng1 (by rfl) m_range (xa_cons (xv 7) xa_nil)) (blkOk_by (own := [("_law_k", 9)]) (N := n__law_word) (sc := defScope t__law_word) (by decide +kernel)) (fun _ _ _ _ _ => (pg_name (i := 9) sc__law_word.nd rfl (Or.inl rfl))) (simg_name (by decide)) (fun _ _ _ _ _ => xts_nil) (fun _ _ _ _ _ => (xIx (xv 4) (xCallB (i := 0) G__law_take (rg.mono (by decide)) (by rfl) g__law_take k__law_take b__law_take passL (pv 0) (xa_cons (xv 3) xa_nil)))))))) (xss_cons (xs_set (i := 8) sc__law_word.nd rfl (.inl rfl) (xSlS (xRepS (xv 8) (xAdd (xDiv (xv 6) (xv 7)) xe_int)) xo_none (xo_some (xv 6)))) (xss_one (xs_ret (xIx (xLst (xa_cons (xv 8) (xa_cons (xv 8) (xa_cons (xv 8) (xa_cons (xRevS (xv 8)) xa_nil))))) (xv 5))))))))))
theorem fn__law_row {f : Addr} {fd : FuncData} (F : Fun K "_law_row" "_law_row" t__law_row f fd) {f__law_word : Addr} {fd__law_word : FuncData} (G__law_word : FnG P w K mg base 2 f__law_word fd__law_word ["_law_bag_here", "_law_most"] (spB K s_word)) (g__law_word : mg "_law_word" = some (.ref f__law_word)) (k__law_word : PySem.W.keepIn K (.ref f__law_word) = true) (b__law_word : Binds K fd__law_word ["_law_bag_here", "_law_most"] []) {f__law_take : Addr} {fd__law_take : FuncData} (G__law_take : FnG P w K mg base 1 f__law_take fd__law_take ["_law_bag_here", "_law_many"] (spB K sTake)) (g__law_take : mg "_law_take" = some (.ref f__law_take)) (k__law_take : PySem.W.keepIn K (.ref f__law_take) = true) (b__law_take : Binds K fd__law_take ["_law_bag_here", "_law_many"] []) (m_len : mg "len" = none) : FnG P w K mg base 3 f fd ["_law_bag_here", "_law_most"] (spB K s_row) :=
  okB (body := b_row) F sc__law_row rfl rfl ok_row fun cv A o s H E rg =>
    (xss_cons (xs_set (i := 2) sc__law_row.nd rfl (.inr rfl) (xCallB (i := 0) G__law_word (rg.mono (by decide)) (by rfl) g__law_word k__law_word b__law_word passD (pv 0) (xa_cons (xv 1) xa_nil))) (xss_cons (xs_if (xtLt (xLen (by rfl) m_len (xv 2)) xe_int) (xss_one (xs_set (i := 2) sc__law_row.nd rfl (.inr rfl) (xCatS (xv 2) (xv 2)))) xss_nil) (xss_cons (xs_par (i := 3) (j := 4) rfl sc__law_row.nd rfl rfl (by decide) rfl rfl (xCallB (i := 0) G__law_take (rg.mono (by decide)) (by rfl) g__law_take k__law_take b__law_take passD (pv 0) (xa_cons xe_int xa_nil)) (xCallB (i := 0) G__law_take (rg.mono (by decide)) (by rfl) g__law_take k__law_take b__law_take passD (pv 0) (xa_cons xe_int xa_nil))) (xss_cons (xs_if (xtEqI (xv 3) xe_int) (xss_one (xs_ret (xCatS (xSlS (xv 2) xo_none (xo_some (xNeg xe_int))) (xIx (xLc (own := [("_law_letter", 5)]) rfl sc__law_row.nd (xi_str xe_strL) (blkOk_by (own := [("_law_letter", 5)]) (N := n__law_row) (sc := defScope t__law_row) (by decide +kernel)) (fun _ _ _ _ _ => (pg_name (i := 5) sc__law_row.nd rfl (Or.inl rfl))) (simg_name (by decide)) (fun _ _ _ _ _ => (xts_one (xtNeS (xv 5) (xIx (xv 2) xe_int)))) (fun _ _ _ _ _ => (xv 5))) (xv 4))))) xss_nil) (xss_one (xs_ret (xIx (xLst (xa_cons (xv 2) (xa_cons (xv 2) (xa_cons (xCatS (xSlS (xv 2) xo_none (xo_some (xNeg xe_int))) (xIx (xv 2) xe_int)) xa_nil)))) (xv 3))))))))
theorem fn__law_any_row {f : Addr} {fd : FuncData} (F : Fun K "_law_any_row" "_law_any_row" t__law_any_row f fd) {f__law_take : Addr} {fd__law_take : FuncData} (G__law_take : FnG P w K mg base 1 f__law_take fd__law_take ["_law_bag_here", "_law_many"] (spB K sTake)) (g__law_take : mg "_law_take" = some (.ref f__law_take)) (k__law_take : PySem.W.keepIn K (.ref f__law_take) = true) (b__law_take : Binds K fd__law_take ["_law_bag_here", "_law_many"] []) {f__law_row : Addr} {fd__law_row : FuncData} (G__law_row : FnG P w K mg base 3 f__law_row fd__law_row ["_law_bag_here", "_law_most"] (spB K s_row)) (g__law_row : mg "_law_row" = some (.ref f__law_row)) (k__law_row : PySem.W.keepIn K (.ref f__law_row) = true) (b__law_row : Binds K fd__law_row ["_law_bag_here", "_law_most"] []) (m_range : mg "range" = none) : FnG P w K mg base 4 f fd ["_law_bag_here", "_law_most"] (spB K s_any_row) :=
  okB (body := b_any_row) F sc__law_any_row rfl rfl ok_any_row fun cv A o s H E rg =>
    (xss_cons (xs_if (xtGt (xCallB (i := 0) G__law_take (rg.mono (by decide)) (by rfl) g__law_take k__law_take b__law_take passD (pv 0) (xa_cons xe_int xa_nil)) xe_int) (xss_one (xs_ret (xCallB (i := 0) G__law_row (rg.mono (by decide)) (by rfl) g__law_row k__law_row b__law_row passD (pv 0) (xa_cons (xv 1) xa_nil)))) xss_nil) (xss_cons (xs_set (i := 2) sc__law_any_row.nd rfl (.inl rfl) (xAdd xe_int (xCallB (i := 0) G__law_take (rg.mono (by decide)) (by rfl) g__law_take k__law_take b__law_take passD (pv 0) (xa_cons (xSub (xv 1) xe_int) xa_nil)))) (xss_one (xs_ret (xJoin0 (he := (xLc (own := [("_law_k", 3)]) rfl sc__law_any_row.nd (xi_rng1 (by rfl) m_range (xa_cons (xv 2) xa_nil)) (blkOk_by (own := [("_law_k", 3)]) (N := n__law_any_row) (sc := defScope t__law_any_row) (by decide +kernel)) (fun _ _ _ _ _ => (pg_name (i := 3) sc__law_any_row.nd rfl (Or.inl rfl))) (simg_name (by decide)) (fun _ _ _ _ _ => xts_nil) (fun _ _ _ _ _ => (xIx xe_strL (xCallB (i := 0) G__law_take (rg.mono (by decide)) (by rfl) g__law_take k__law_take b__law_take passL (pv 0) (xa_cons xe_int xa_nil)))))))))))
theorem fn__law_called {f : Addr} {fd : FuncData} (F : Fun K "_law_called" "_law_called" t__law_called f fd)  : FnG P w K mg base 1 f fd ["_law_row_here", "_law_place"] (spN K s_called) :=
  okN (body := b_called) F sc__law_called rfl rfl ok_called fun cv A o s H E rg =>
    (xss_cons (xs_par (i := 2) (j := 3) rfl sc__law_called.nd rfl rfl (by decide) rfl rfl (xSlS (xv 0) xo_none (xo_some (xv 1))) (xSlS (xv 0) (xo_some (xAdd (xv 1) xe_int)) xo_none)) (xss_one (xs_ret (xCatS (xCatS (xCatS (xCatS (xv 2) (xv 2)) (xIx (xv 0) (xv 1))) (xv 3)) (xv 3)))))
theorem fn__law_written {f : Addr} {fd : FuncData} (F : Fun K "_law_written" "_law_written" t__law_written f fd) {f__law_called : Addr} {fd__law_called : FuncData} (G__law_called : FnG P w K mg base 1 f__law_called fd__law_called ["_law_row_here", "_law_place"] (spN K s_called)) (g__law_called : mg "_law_called" = some (.ref f__law_called)) (k__law_called : PySem.W.keepIn K (.ref f__law_called) = true) (b__law_called : Binds K fd__law_called ["_law_row_here", "_law_place"] []) : FnG P w K mg base 2 f fd ["_law_row_here", "_law_story_here"] (spN K s_written) :=
  okN (body := b_written) F sc__law_written rfl rfl ok_written fun cv A o s H E rg =>
    (xss_cons (xs_for (vs := [2]) (passes_of rfl) rfl (xi_list (xv 1)) (pg_name (i := 2) sc__law_written.nd rfl (Or.inl rfl)) (simg_name (by decide)) (xss_one (xs_set (i := 0) sc__law_written.nd rfl (.inl rfl) (xCall G__law_called (rg.mono (by decide)) (by rfl) g__law_called k__law_called b__law_called passD (xa_cons (xv 0) (xa_cons (xv 2) xa_nil)))))) (xss_one (xs_ret (xv 0))))
theorem fn__law_story {f : Addr} {fd : FuncData} (F : Fun K "_law_story" "_law_story" t__law_story f fd) {f__law_take : Addr} {fd__law_take : FuncData} (G__law_take : FnG P w K mg base 1 f__law_take fd__law_take ["_law_bag_here", "_law_many"] (spB K sTake)) (g__law_take : mg "_law_take" = some (.ref f__law_take)) (k__law_take : PySem.W.keepIn K (.ref f__law_take) = true) (b__law_take : Binds K fd__law_take ["_law_bag_here", "_law_many"] []) (m_range : mg "range" = none) : FnG P w K mg base 2 f fd ["_law_bag_here", "_law_last", "_law_calls"] (spB K s_story) :=
  okB (body := b_story) F sc__law_story rfl rfl ok_story fun cv A o s H E rg =>
    (xss_cons (xs_newO (i := 3) sc__law_story.nd rfl (.inl rfl)) (xss_cons (xs_for (vs := [4]) (passes_of rfl) rfl (xi_rng1 (by rfl) m_range (xa_cons (xv 2) xa_nil)) (pg_name (i := 4) sc__law_story.nd rfl (Or.inl rfl)) (simg_name (by decide)) (xss_cons (xs_set (i := 5) sc__law_story.nd rfl (.inl rfl) (xIf (xtThaw 3 (xtNe rg (xv 3) (xLst xa_nil))) (xMul xe_int (xThaw 3 (xIx (xv 3) (xNeg xe_int)))) xe_int)) (xss_cons (xs_set (i := 6) sc__law_story.nd rfl (.inl rfl) (xLst (xa_cons xe_int (xa_cons (xv 1) (xa_cons (xDiv (xv 1) xe_int) (xa_cons (xv 5) (xa_cons (xCallB (i := 0) G__law_take (rg.mono (by decide)) (by rfl) g__law_take k__law_take b__law_take passD (pv 0) (xa_cons (xAdd (xv 1) xe_int) xa_nil)) (xa_cons (xCallB (i := 0) G__law_take (rg.mono (by decide)) (by rfl) g__law_take k__law_take b__law_take passD (pv 0) (xa_cons (xAdd (xv 1) xe_int) xa_nil)) xa_nil)))))))) (xss_cons (xs_app (i := 3) (pe_bm PySem.F.plainAttrs_list PySem.F.slot_list_append PySem.F.type_list_append mt_append (pv 3) (pa_cons ((xIx (xv 6) (xCallB (i := 0) G__law_take (rg.mono (by decide)) (by rfl) g__law_take k__law_take b__law_take passD (pv 0) (xa_cons xe_int xa_nil)))).pe pa_nil))) (xss_one (xs_set (i := 1) sc__law_story.nd rfl (.inl rfl) (xMul xe_int (xv 1)))))))) (xss_one (xs_frz (i := 3) (xs_ret (xv 3))))))
theorem fn__law_tally {f : Addr} {fd : FuncData} (F : Fun K "_law_tally" "_law_tally" t__law_tally f fd) (m_len : mg "len" = none) : FnG P w K mg base 1 f fd ["_law_text"] (spN K s_l_tally) :=
  okN (body := b_l_tally) F sc__law_tally rfl rfl ok_l_tally fun cv A o s H E rg =>
    (xss_cons (xs_newO (i := 1) sc__law_tally.nd rfl (.inl rfl)) (xss_cons (xs_for (vs := [2]) (passes_of rfl) rfl (xi_str xe_strL) (pg_name (i := 2) sc__law_tally.nd rfl (Or.inr rfl)) (simg_name (by decide)) (xss_cons (xs_set (i := 3) sc__law_tally.nd rfl (.inl rfl) (xLen (by rfl) m_len (xLc (own := [("_law_one", 4)]) rfl sc__law_tally.nd (xi_str (xv 0)) (blkOk_by (own := [("_law_one", 4)]) (N := n__law_tally) (sc := defScope t__law_tally) (by decide +kernel)) (fun _ _ _ _ _ => (pg_name (i := 4) sc__law_tally.nd rfl (Or.inl rfl))) (simg_name (by decide)) (fun _ _ _ _ _ => (xts_one (xtEqS (xv 4) (xv 2)))) (fun _ _ _ _ _ => (xv 4))))) (xss_one (xs_if (xtGt (xv 3) xe_int) (xss_one (xs_app (i := 1) (pe_bm PySem.F.plainAttrs_list PySem.F.slot_list_append PySem.F.type_list_append mt_append (pv 1) (pa_cons ((xTup (xa_cons (xv 2) (xa_cons (xv 3) xa_nil)))).pe pa_nil)))) xss_nil)))) (xss_one (xs_frz (i := 1) (xs_ret (xv 1))))))
theorem fn_law {f : Addr} {fd : FuncData} (F : Fun K "law" "law" t_law f fd) {c : Kl} (ex : EX P w K mg base c) {f__law_bag : Addr} {fd__law_bag : FuncData} (G__law_bag : FnG P w K mg base 1 f__law_bag fd__law_bag ["_law_script"] (spBag K)) (g__law_bag : mg "_law_bag" = some (.ref f__law_bag)) (k__law_bag : PySem.W.keepIn K (.ref f__law_bag) = true) (b__law_bag : Binds K fd__law_bag ["_law_script"] []) {f__law_any_row : Addr} {fd__law_any_row : FuncData} (G__law_any_row : FnG P w K mg base 4 f__law_any_row fd__law_any_row ["_law_bag_here", "_law_most"] (spB K s_any_row)) (g__law_any_row : mg "_law_any_row" = some (.ref f__law_any_row)) (k__law_any_row : PySem.W.keepIn K (.ref f__law_any_row) = true) (b__law_any_row : Binds K fd__law_any_row ["_law_bag_here", "_law_most"] []) {f__law_story : Addr} {fd__law_story : FuncData} (G__law_story : FnG P w K mg base 2 f__law_story fd__law_story ["_law_bag_here", "_law_last", "_law_calls"] (spB K s_story)) (g__law_story : mg "_law_story" = some (.ref f__law_story)) (k__law_story : PySem.W.keepIn K (.ref f__law_story) = true) (b__law_story : Binds K fd__law_story ["_law_bag_here", "_law_last", "_law_calls"] []) {f__law_take : Addr} {fd__law_take : FuncData} (G__law_take : FnG P w K mg base 1 f__law_take fd__law_take ["_law_bag_here", "_law_many"] (spB K sTake)) (g__law_take : mg "_law_take" = some (.ref f__law_take)) (k__law_take : PySem.W.keepIn K (.ref f__law_take) = true) (b__law_take : Binds K fd__law_take ["_law_bag_here", "_law_many"] []) {f__law_written : Addr} {fd__law_written : FuncData} (G__law_written : FnG P w K mg base 2 f__law_written fd__law_written ["_law_row_here", "_law_story_here"] (spN K s_written)) (g__law_written : mg "_law_written" = some (.ref f__law_written)) (k__law_written : PySem.W.keepIn K (.ref f__law_written) = true) (b__law_written : Binds K fd__law_written ["_law_row_here", "_law_story_here"] []) {f_Far___init__ : Addr} {fd_Far___init__ : FuncData} (G_Far___init__ : FnG P w K mg base 4 f_Far___init__ fd_Far___init__ ["self", "row", "story"] (spI K c.Far (s_Far___init__ c))) (h_Far___init__ : Mk K c.Far f_Far___init__) (b_Far___init__ : Binds K fd_Far___init__ ["self", "row", "story"] []) {f__law_tally : Addr} {fd__law_tally : FuncData} (G__law_tally : FnG P w K mg base 1 f__law_tally fd__law_tally ["_law_text"] (spN K s_l_tally)) (g__law_tally : mg "_law_tally" = some (.ref f__law_tally)) (k__law_tally : PySem.W.keepIn K (.ref f__law_tally) = true) (b__law_tally : Binds K fd__law_tally ["_law_text"] []) {f__law_called : Addr} {fd__law_called : FuncData} (G__law_called : FnG P w K mg base 1 f__law_called fd__law_called ["_law_row_here", "_law_place"] (spN K s_called)) (g__law_called : mg "_law_called" = some (.ref f__law_called)) (k__law_called : PySem.W.keepIn K (.ref f__law_called) = true) (b__law_called : Binds K fd__law_called ["_law_row_here", "_law_place"] []) {f_tally : Addr} {fd_tally : FuncData} (G_tally : FnG P w K mg base 1 f_tally fd_tally ["row"] (spF K s_tally)) (g_tally : mg "tally" = some (.ref f_tally)) (k_tally : PySem.W.keepIn K (.ref f_tally) = true) (b_tally : Binds K fd_tally ["row"] []) {f_far_tally : Addr} {fd_far_tally : FuncData} (G_far_tally : FnG P w K mg base 6 f_far_tally fd_far_tally ["far"] (spF K (s_far_tally c))) (g_far_tally : mg "far_tally" = some (.ref f_far_tally)) (k_far_tally : PySem.W.keepIn K (.ref f_far_tally) = true) (b_far_tally : Binds K fd_far_tally ["far"] []) {f_Far_after : Addr} {fd_Far_after : FuncData} (G_Far_after : FnG P w K mg base 6 f_Far_after fd_Far_after ["self", "place"] (spN K (s_Far_after c))) (h_Far_after : Meth K c.Far "after" f_Far_after) (b_Far_after : Binds K fd_Far_after ["self", "place"] []) {f__law_alike : Addr} {fd__law_alike : FuncData} (G__law_alike : FnG P w K mg base 1 f__law_alike fd__law_alike ["_law_found", "_law_due"] (spN K s_alike)) (g__law_alike : mg "_law_alike" = some (.ref f__law_alike)) (k__law_alike : PySem.W.keepIn K (.ref f__law_alike) = true) (b__law_alike : Binds K fd__law_alike ["_law_found", "_law_due"] []) {f_Far_row : Addr} {fd_Far_row : FuncData} (G_Far_row : FnG P w K mg base 1 f_Far_row fd_Far_row ["self"] (spN K (s_Far_row c))) (h_Far_row : Meth K c.Far "row" f_Far_row) (b_Far_row : Binds K fd_Far_row ["self"] []) {f_Far_story : Addr} {fd_Far_story : FuncData} (G_Far_story : FnG P w K mg base 1 f_Far_story fd_Far_story ["self"] (spN K (s_Far_story c))) (h_Far_story : Meth K c.Far "story" f_Far_story) (b_Far_story : Binds K fd_Far_story ["self"] []) (m_range : mg "range" = none) (m_len : mg "len" = none) : FnG P w K mg base 7 f fd ["_law_script"] (spLaw K) :=
  okLaw (body := (b_law c)) F sc_law rfl rfl (fun cv A o s H E rg => ps_set (i := 1) sc_law.nd rfl (.inl rfl) (pe_cl G__law_bag (rg.mono (by decide)) (by rfl) g__law_bag k__law_bag b__law_bag passD (pa_cons (pv 0) pa_nil))) (fun cv A o s H E rg =>
    (xss_cons (xs_for (vs := [2]) (passes_of rfl) rfl (xi_rng1 (by rfl) m_range (xa_cons xe_int xa_nil)) (pg_name (i := 2) sc_law.nd rfl (Or.inl rfl)) (simg_name (by decide)) (xss_cons (xs_set (i := 3) sc_law.nd rfl (.inl rfl) (xCallB (i := 1) G__law_any_row (rg.mono (by decide)) (by rfl) g__law_any_row k__law_any_row b__law_any_row passD (pv 1) (xa_cons xe_int xa_nil))) (xss_cons (xs_set (i := 4) sc_law.nd rfl (.inl rfl) (xCallB (i := 1) G__law_story (rg.mono (by decide)) (by rfl) g__law_story k__law_story b__law_story passD (pv 1) (xa_cons (xSub (xLen (by rfl) m_len (xv 3)) xe_int) (xa_cons (xCallB (i := 1) G__law_take (rg.mono (by decide)) (by rfl) g__law_take k__law_take b__law_take passD (pv 1) (xa_cons xe_int xa_nil)) xa_nil)))) (xss_cons (xs_set (i := 5) sc_law.nd rfl (.inl rfl) (xCall G__law_written (rg.mono (by decide)) (by rfl) g__law_written k__law_written b__law_written passD (xa_cons (xv 3) (xa_cons (xv 4) xa_nil)))) (xss_cons (xs_par (i := 6) (j := 7) rfl sc_law.nd rfl rfl (by decide) rfl rfl (xCallB (i := 1) G__law_take (rg.mono (by decide)) (by rfl) g__law_take k__law_take b__law_take passD (pv 1) (xa_cons (xLen (by rfl) m_len (xv 5)) xa_nil)) (xMake h_Far___init__ G_Far___init__ (rg.mono (by decide)) (by rfl) ex.g_Far b_Far___init__ passD (xa_cons (xv 3) (xa_cons (xv 4) xa_nil)))) (xss_cons (xs_set (i := 8) sc_law.nd rfl (.inl rfl) (xLst (xa_cons (xCall G__law_tally (rg.mono (by decide)) (by rfl) g__law_tally k__law_tally b__law_tally passD (xa_cons (xv 3) xa_nil)) (xa_cons (xCall G__law_tally (rg.mono (by decide)) (by rfl) g__law_tally k__law_tally b__law_tally passD (xa_cons (xv 5) xa_nil)) (xa_cons (xCall G__law_tally (rg.mono (by decide)) (by rfl) g__law_tally k__law_tally b__law_tally passD (xa_cons (xv 5) xa_nil)) (xa_cons (xCall G__law_tally (rg.mono (by decide)) (by rfl) g__law_tally k__law_tally b__law_tally passD (xa_cons (xCall G__law_called (rg.mono (by decide)) (by rfl) g__law_called k__law_called b__law_called passD (xa_cons (xv 5) (xa_cons (xv 6) xa_nil))) xa_nil)) xa_nil)))))) (xss_cons (xs_for (vs := [9]) (passes_of rfl) rfl (xi_rng1 (by rfl) m_range (xa_cons xe_int xa_nil)) (pg_name (i := 9) sc_law.nd rfl (Or.inl rfl)) (simg_name (by decide)) (xss_scr (i := 10) (J := [3, 4, 5, 6, 7, 8]) (W := [11]) (f := fun r => List.cons _ (r)) (g := fun r => List.cons _ (r)) sc_law.nd rfl (.inl rfl) (xfLst (xaf_cons (xfCall G_tally (rg.mono (by decide)) (by rfl) g_tally k_tally b_tally passD (xa_cons (xv 3) xa_nil)) (xaf_cons (xfCall G_tally (rg.mono (by decide)) (by rfl) g_tally k_tally b_tally passD (xa_cons (xv 5) xa_nil)) (xaf_cons (xfCall G_far_tally (rg.mono (by decide)) (by rfl) g_far_tally k_far_tally b_far_tally passD (xa_cons (xv 7) xa_nil)) (xaf_cons (xfCall G_far_tally (rg.mono (by decide)) (by rfl) g_far_tally k_far_tally b_far_tally passD (xa_cons (xMeth ex.cls_Far h_Far_after G_Far_after (rg.mono (by decide)) b_Far_after passD (xv 7) (xa_cons (xv 6) xa_nil)) xa_nil)) xaf_nil))))) (xb_cons (xs_if (xt_not (xt_val (xCall G__law_alike (rg.mono (by decide)) (by rfl) g__law_alike k__law_alike b__law_alike passD (xa_cons (xv 10) (xa_cons (xv 8) xa_nil))))) (xss_one (xs_ret xe_bl)) xss_nil) xb_nil) (xd_for2 (i := 10) (j := 11) (W := [11]) (f := fun r => List.cons _ (r)) (g := fun r => r) (sel := pSelf) (passes_of rfl) rfl (pv 10) (pg_name (i := 11) sc_law.nd rfl (Or.inl rfl)) (xdc_cons (xds_app (xtg_name (pv 11)) (xpt_tup (xps_cons xpt_str (xps_cons xpt_int xps_nil)) (by decide))) xdc_nil) (by decide) (by decide) (hG_name (by decide)) (show 11 < n_law.length by decide) xdc_nil) xss_nil)) (xss_one (xs_if (xw_or (xtNeS (xMeth0 ex.cls_Far h_Far_row G_Far_row (rg.mono (by decide)) b_Far_row passD (xv 7)) (xv 3)) (xw_or1 (xtNe rg (xMeth0 ex.cls_Far h_Far_story G_Far_story (rg.mono (by decide)) b_Far_story passD (xv 7)) (xv 4)))).xt (xss_one (xs_ret xe_bl)) xss_nil))))))))) (xss_one (xs_ret (xEq rg (xCall G_tally.toN (rg.mono (by decide)) (by rfl) g_tally k_tally b_tally passD (xa_cons xe_strL xa_nil)) (xLst (xa_cons (xTup (xa_cons xe_strL (xa_cons xe_int xa_nil))) (xa_cons (xTup (xa_cons xe_strL (xa_cons xe_int xa_nil))) xa_nil)))))))) (by decide) (law_ok c)
end
theorem all_mk {l : PySem.W.OpenLaw} {w : World} {K : PySem.W.Frag} {h : Heap} {mg : Str → Option Value} {fa : Addr} (X : K.In h) (G : h.Ns mainGlobals mg) (hfa : mg "law" = some (.ref fa))
    {oc1 kV1 dc1 pm1 cd1 ct1 : Value} {od1 an1 : Option Addr} {sl1 : Array (Option Value)} {f1 : Addr}
    (a1 : PySem.W.nsIn K mainGlobals "tally" = some (some (.ref f1))) (l1 : K.lookup f1 = some ⟨oc1, od1, .func (PySem.W.fnOf "tally" "tally" (defArgs t_tally) (defBody t_tally) (defScope t_tally) .none kV1 dc1 pm1 an1 cd1 ct1), sl1⟩) (c1 : PySem.W.codeIn K cd1 "tally" = true) (k1 : PySem.W.keepIn K (.ref f1) = true)
    {oc2 kV2 dc2 pm2 cd2 ct2 : Value} {od2 an2 : Option Addr} {sl2 : Array (Option Value)} {f2 : Addr}
    (a2 : PySem.W.nsIn K mainGlobals "tally_after" = some (some (.ref f2))) (l2 : K.lookup f2 = some ⟨oc2, od2, .func (PySem.W.fnOf "tally_after" "tally_after" (defArgs t_tally_after) (defBody t_tally_after) (defScope t_tally_after) .none kV2 dc2 pm2 an2 cd2 ct2), sl2⟩) (c2 : PySem.W.codeIn K cd2 "tally_after" = true) (k2 : PySem.W.keepIn K (.ref f2) = true)
    {oc3 kV3 dc3 pm3 cd3 ct3 : Value} {od3 an3 : Option Addr} {sl3 : Array (Option Value)} {f3 : Addr}
    (a3 : PySem.W.nsIn K mainGlobals "tally_made" = some (some (.ref f3))) (l3 : K.lookup f3 = some ⟨oc3, od3, .func (PySem.W.fnOf "tally_made" "tally_made" (defArgs t_tally_made) (defBody t_tally_made) (defScope t_tally_made) .none kV3 dc3 pm3 an3 cd3 ct3), sl3⟩) (c3 : PySem.W.codeIn K cd3 "tally_made" = true) (k3 : PySem.W.keepIn K (.ref f3) = true)
    {oc4 kV4 dc4 pm4 cd4 ct4 : Value} {od4 an4 : Option Addr} {sl4 : Array (Option Value)} {f4 : Addr}
    {oc5 kV5 dc5 pm5 cd5 ct5 : Value} {od5 an5 : Option Addr} {sl5 : Array (Option Value)} {f5 : Addr}
    (a5 : PySem.W.nsIn K mainGlobals "shown" = some (some (.ref f5))) (l5 : K.lookup f5 = some ⟨oc5, od5, .func (PySem.W.fnOf "shown" "shown" (defArgs t_shown) (defBody t_shown) (defScope t_shown) .none kV5 dc5 pm5 an5 cd5 ct5), sl5⟩) (c5 : PySem.W.codeIn K cd5 "shown" = true) (k5 : PySem.W.keepIn K (.ref f5) = true)
    {oc6 kV6 dc6 pm6 cd6 ct6 : Value} {od6 an6 : Option Addr} {sl6 : Array (Option Value)} {f6 : Addr}
    (a6 : PySem.W.nsIn K mainGlobals "shown_places" = some (some (.ref f6))) (l6 : K.lookup f6 = some ⟨oc6, od6, .func (PySem.W.fnOf "shown_places" "shown_places" (defArgs t_shown_places) (defBody t_shown_places) (defScope t_shown_places) .none kV6 dc6 pm6 an6 cd6 ct6), sl6⟩) (c6 : PySem.W.codeIn K cd6 "shown_places" = true) (k6 : PySem.W.keepIn K (.ref f6) = true)
    {oc7 kV7 dc7 pm7 cd7 ct7 : Value} {od7 an7 : Option Addr} {sl7 : Array (Option Value)} {f7 : Addr}
    (a7 : PySem.W.nsIn K mainGlobals "called_letters" = some (some (.ref f7))) (l7 : K.lookup f7 = some ⟨oc7, od7, .func (PySem.W.fnOf "called_letters" "called_letters" (defArgs t_called_letters) (defBody t_called_letters) (defScope t_called_letters) .none kV7 dc7 pm7 an7 cd7 ct7), sl7⟩) (c7 : PySem.W.codeIn K cd7 "called_letters" = true) (k7 : PySem.W.keepIn K (.ref f7) = true)
    {oc8 kV8 dc8 pm8 cd8 ct8 : Value} {od8 an8 : Option Addr} {sl8 : Array (Option Value)} {f8 : Addr}
    {oc9 kV9 dc9 pm9 cd9 ct9 : Value} {od9 an9 : Option Addr} {sl9 : Array (Option Value)} {f9 : Addr}
    (a9 : PySem.W.nsIn K mainGlobals "far_tally" = some (some (.ref f9))) (l9 : K.lookup f9 = some ⟨oc9, od9, .func (PySem.W.fnOf "far_tally" "far_tally" (defArgs t_far_tally) (defBody t_far_tally) (defScope t_far_tally) .none kV9 dc9 pm9 an9 cd9 ct9), sl9⟩) (c9 : PySem.W.codeIn K cd9 "far_tally" = true) (k9 : PySem.W.keepIn K (.ref f9) = true)
    {oc10 kV10 dc10 pm10 cd10 ct10 : Value} {od10 an10 : Option Addr} {sl10 : Array (Option Value)} {f10 : Addr}
    (a10 : PySem.W.nsIn K mainGlobals "is_integer" = some (some (.ref f10))) (l10 : K.lookup f10 = some ⟨oc10, od10, .func (PySem.W.fnOf "is_integer" "is_integer" (defArgs t_is_integer) (defBody t_is_integer) (defScope t_is_integer) .none kV10 dc10 pm10 an10 cd10 ct10), sl10⟩) (c10 : PySem.W.codeIn K cd10 "is_integer" = true) (k10 : PySem.W.keepIn K (.ref f10) = true)
    {oc11 kV11 dc11 pm11 cd11 ct11 : Value} {od11 an11 : Option Addr} {sl11 : Array (Option Value)} {f11 : Addr}
    (a11 : PySem.W.nsIn K mainGlobals "has_only_letters" = some (some (.ref f11))) (l11 : K.lookup f11 = some ⟨oc11, od11, .func (PySem.W.fnOf "has_only_letters" "has_only_letters" (defArgs t_has_only_letters) (defBody t_has_only_letters) (defScope t_has_only_letters) .none kV11 dc11 pm11 an11 cd11 ct11), sl11⟩) (c11 : PySem.W.codeIn K cd11 "has_only_letters" = true) (k11 : PySem.W.keepIn K (.ref f11) = true)
    {oc12 kV12 dc12 pm12 cd12 ct12 : Value} {od12 an12 : Option Addr} {sl12 : Array (Option Value)} {f12 : Addr}
    (a12 : PySem.W.nsIn K mainGlobals "is_text" = some (some (.ref f12))) (l12 : K.lookup f12 = some ⟨oc12, od12, .func (PySem.W.fnOf "is_text" "is_text" (defArgs t_is_text) (defBody t_is_text) (defScope t_is_text) .none kV12 dc12 pm12 an12 cd12 ct12), sl12⟩) (c12 : PySem.W.codeIn K cd12 "is_text" = true) (k12 : PySem.W.keepIn K (.ref f12) = true)
    {oc13 kV13 dc13 pm13 cd13 ct13 : Value} {od13 an13 : Option Addr} {sl13 : Array (Option Value)} {f13 : Addr}
    (a13 : PySem.W.nsIn K mainGlobals "is_row" = some (some (.ref f13))) (l13 : K.lookup f13 = some ⟨oc13, od13, .func (PySem.W.fnOf "is_row" "is_row" (defArgs t_is_row) (defBody t_is_row) (defScope t_is_row) .none kV13 dc13 pm13 an13 cd13 ct13), sl13⟩) (c13 : PySem.W.codeIn K cd13 "is_row" = true) (k13 : PySem.W.keepIn K (.ref f13) = true)
    {oc14 kV14 dc14 pm14 cd14 ct14 : Value} {od14 an14 : Option Addr} {sl14 : Array (Option Value)} {f14 : Addr}
    (a14 : PySem.W.nsIn K mainGlobals "is_story" = some (some (.ref f14))) (l14 : K.lookup f14 = some ⟨oc14, od14, .func (PySem.W.fnOf "is_story" "is_story" (defArgs t_is_story) (defBody t_is_story) (defScope t_is_story) .none kV14 dc14 pm14 an14 cd14 ct14), sl14⟩) (c14 : PySem.W.codeIn K cd14 "is_story" = true) (k14 : PySem.W.keepIn K (.ref f14) = true)
    {oc15 kV15 dc15 pm15 cd15 ct15 : Value} {od15 an15 : Option Addr} {sl15 : Array (Option Value)} {f15 : Addr}
    {oc16 kV16 dc16 pm16 cd16 ct16 : Value} {od16 an16 : Option Addr} {sl16 : Array (Option Value)} {f16 : Addr}
    {oc17 kV17 dc17 pm17 cd17 ct17 : Value} {od17 an17 : Option Addr} {sl17 : Array (Option Value)} {f17 : Addr}
    {oc18 kV18 dc18 pm18 cd18 ct18 : Value} {od18 an18 : Option Addr} {sl18 : Array (Option Value)} {f18 : Addr}
    {oc19 kV19 dc19 pm19 cd19 ct19 : Value} {od19 an19 : Option Addr} {sl19 : Array (Option Value)} {f19 : Addr}
    {oc20 kV20 dc20 pm20 cd20 ct20 : Value} {od20 an20 : Option Addr} {sl20 : Array (Option Value)} {f20 : Addr}
    (a20 : PySem.W.nsIn K mainGlobals "_law_bag" = some (some (.ref f20))) (l20 : K.lookup f20 = some ⟨oc20, od20, .func (PySem.W.fnOf "_law_bag" "_law_bag" (defArgs t__law_bag) (defBody t__law_bag) (defScope t__law_bag) .none kV20 dc20 pm20 an20 cd20 ct20), sl20⟩) (c20 : PySem.W.codeIn K cd20 "_law_bag" = true) (k20 : PySem.W.keepIn K (.ref f20) = true)
    {oc21 kV21 dc21 pm21 cd21 ct21 : Value} {od21 an21 : Option Addr} {sl21 : Array (Option Value)} {f21 : Addr}
    (a21 : PySem.W.nsIn K mainGlobals "_law_take" = some (some (.ref f21))) (l21 : K.lookup f21 = some ⟨oc21, od21, .func (PySem.W.fnOf "_law_take" "_law_take" (defArgs t__law_take) (defBody t__law_take) (defScope t__law_take) .none kV21 dc21 pm21 an21 cd21 ct21), sl21⟩) (c21 : PySem.W.codeIn K cd21 "_law_take" = true) (k21 : PySem.W.keepIn K (.ref f21) = true)
    {oc22 kV22 dc22 pm22 cd22 ct22 : Value} {od22 an22 : Option Addr} {sl22 : Array (Option Value)} {f22 : Addr}
    (a22 : PySem.W.nsIn K mainGlobals "_law_alike" = some (some (.ref f22))) (l22 : K.lookup f22 = some ⟨oc22, od22, .func (PySem.W.fnOf "_law_alike" "_law_alike" (defArgs t__law_alike) (defBody t__law_alike) (defScope t__law_alike) .none kV22 dc22 pm22 an22 cd22 ct22), sl22⟩) (c22 : PySem.W.codeIn K cd22 "_law_alike" = true) (k22 : PySem.W.keepIn K (.ref f22) = true)
    {oc23 kV23 dc23 pm23 cd23 ct23 : Value} {od23 an23 : Option Addr} {sl23 : Array (Option Value)} {f23 : Addr}
    (a23 : PySem.W.nsIn K mainGlobals "_law_word" = some (some (.ref f23))) (l23 : K.lookup f23 = some ⟨oc23, od23, .func (PySem.W.fnOf "_law_word" "_law_word" (defArgs t__law_word) (defBody t__law_word) (defScope t__law_word) .none kV23 dc23 pm23 an23 cd23 ct23), sl23⟩) (c23 : PySem.W.codeIn K cd23 "_law_word" = true) (k23 : PySem.W.keepIn K (.ref f23) = true)
    {oc24 kV24 dc24 pm24 cd24 ct24 : Value} {od24 an24 : Option Addr} {sl24 : Array (Option Value)} {f24 : Addr}
    (a24 : PySem.W.nsIn K mainGlobals "_law_row" = some (some (.ref f24))) (l24 : K.lookup f24 = some ⟨oc24, od24, .func (PySem.W.fnOf "_law_row" "_law_row" (defArgs t__law_row) (defBody t__law_row) (defScope t__law_row) .none kV24 dc24 pm24 an24 cd24 ct24), sl24⟩) (c24 : PySem.W.codeIn K cd24 "_law_row" = true) (k24 : PySem.W.keepIn K (.ref f24) = true)
    {oc25 kV25 dc25 pm25 cd25 ct25 : Value} {od25 an25 : Option Addr} {sl25 : Array (Option Value)} {f25 : Addr}
    (a25 : PySem.W.nsIn K mainGlobals "_law_any_row" = some (some (.ref f25))) (l25 : K.lookup f25 = some ⟨oc25, od25, .func (PySem.W.fnOf "_law_any_row" "_law_any_row" (defArgs t__law_any_row) (defBody t__law_any_row) (defScope t__law_any_row) .none kV25 dc25 pm25 an25 cd25 ct25), sl25⟩) (c25 : PySem.W.codeIn K cd25 "_law_any_row" = true) (k25 : PySem.W.keepIn K (.ref f25) = true)
    {oc26 kV26 dc26 pm26 cd26 ct26 : Value} {od26 an26 : Option Addr} {sl26 : Array (Option Value)} {f26 : Addr}
    (a26 : PySem.W.nsIn K mainGlobals "_law_called" = some (some (.ref f26))) (l26 : K.lookup f26 = some ⟨oc26, od26, .func (PySem.W.fnOf "_law_called" "_law_called" (defArgs t__law_called) (defBody t__law_called) (defScope t__law_called) .none kV26 dc26 pm26 an26 cd26 ct26), sl26⟩) (c26 : PySem.W.codeIn K cd26 "_law_called" = true) (k26 : PySem.W.keepIn K (.ref f26) = true)
    {oc27 kV27 dc27 pm27 cd27 ct27 : Value} {od27 an27 : Option Addr} {sl27 : Array (Option Value)} {f27 : Addr}
    (a27 : PySem.W.nsIn K mainGlobals "_law_written" = some (some (.ref f27))) (l27 : K.lookup f27 = some ⟨oc27, od27, .func (PySem.W.fnOf "_law_written" "_law_written" (defArgs t__law_written) (defBody t__law_written) (defScope t__law_written) .none kV27 dc27 pm27 an27 cd27 ct27), sl27⟩) (c27 : PySem.W.codeIn K cd27 "_law_written" = true) (k27 : PySem.W.keepIn K (.ref f27) = true)
    {oc28 kV28 dc28 pm28 cd28 ct28 : Value} {od28 an28 : Option Addr} {sl28 : Array (Option Value)} {f28 : Addr}
    (a28 : PySem.W.nsIn K mainGlobals "_law_story" = some (some (.ref f28))) (l28 : K.lookup f28 = some ⟨oc28, od28, .func (PySem.W.fnOf "_law_story" "_law_story" (defArgs t__law_story) (defBody t__law_story) (defScope t__law_story) .none kV28 dc28 pm28 an28 cd28 ct28), sl28⟩) (c28 : PySem.W.codeIn K cd28 "_law_story" = true) (k28 : PySem.W.keepIn K (.ref f28) = true)
    {oc29 kV29 dc29 pm29 cd29 ct29 : Value} {od29 an29 : Option Addr} {sl29 : Array (Option Value)} {f29 : Addr}
    (a29 : PySem.W.nsIn K mainGlobals "_law_tally" = some (some (.ref f29))) (l29 : K.lookup f29 = some ⟨oc29, od29, .func (PySem.W.fnOf "_law_tally" "_law_tally" (defArgs t__law_tally) (defBody t__law_tally) (defScope t__law_tally) .none kV29 dc29 pm29 an29 cd29 ct29), sl29⟩) (c29 : PySem.W.codeIn K cd29 "_law_tally" = true) (k29 : PySem.W.keepIn K (.ref f29) = true)
    {oc30 kV30 dc30 pm30 cd30 ct30 : Value} {od30 an30 : Option Addr} {sl30 : Array (Option Value)} {f30 : Addr}
    (a30 : PySem.W.nsIn K mainGlobals "law" = some (some (.ref f30))) (l30 : K.lookup f30 = some ⟨oc30, od30, .func (PySem.W.fnOf "law" "law" (defArgs t_law) (defBody t_law) (defScope t_law) .none kV30 dc30 pm30 an30 cd30 ct30), sl30⟩) (c30 : PySem.W.codeIn K cd30 "law" = true) (k30 : PySem.W.keepIn K (.ref f30) = true)
    (z0 : PySem.W.nsIn K mainGlobals "sorted" = some none)
    (z1 : PySem.W.nsIn K mainGlobals "set" = some none)
    (z2 : PySem.W.nsIn K mainGlobals "enumerate" = some none)
    (z3 : PySem.W.nsIn K mainGlobals "list" = some none)
    (z4 : PySem.W.nsIn K mainGlobals "int" = some none)
    (z5 : PySem.W.nsIn K mainGlobals "reversed" = some none)
    (z6 : PySem.W.nsIn K mainGlobals "len" = some none)
    (z7 : PySem.W.nsIn K mainGlobals "isinstance" = some none)
    (z8 : PySem.W.nsIn K mainGlobals "bool" = some none)
    (z9 : PySem.W.nsIn K mainGlobals "str" = some none)
    {tk10 : Tok} (z10 : PySem.W.nsIn K mainGlobals "MOST_LETTERS" = some (some (.int 1000 tk10)))
    {tk11 : Tok} (z11 : PySem.W.nsIn K mainGlobals "MOST_CALLS" = some (some (.int 64 tk11)))
    (z12 : PySem.W.nsIn K mainGlobals "abs" = some none)
    (z13 : PySem.W.nsIn K mainGlobals "repr" = some none)
    (z14 : PySem.W.nsIn K mainGlobals "range" = some none)
    {C0 : Addr} (aC0 : PySem.W.nsIn K mainGlobals "OwnError" = some (some (.ref C0)))
    {C1 : Addr} (aC1 : PySem.W.nsIn K mainGlobals "Wrong" = some (some (.ref C1)))
    {C2 : Addr} (aC2 : PySem.W.nsIn K mainGlobals "NoPlace" = some (some (.ref C2)))
    {C3 : Addr} (aC3 : PySem.W.nsIn K mainGlobals "TooMany" = some (some (.ref C3)))
    {C4 : Addr} (aC4 : PySem.W.nsIn K mainGlobals "NoLetter" = some (some (.ref C4)))
    {O_Far : Addr} (aO_Far : PySem.W.nsIn K mainGlobals "Far" = some (some (.ref O_Far)))
    (a4 : PySem.W.findIn K (.ref O_Far) "row" = some (some (.ref f4)))
    (l4 : K.lookup f4 = some ⟨oc4, od4, .func (PySem.W.fnOf "row" "Far.row" (defArgs t_Far_row) (defBody t_Far_row) (defScope t_Far_row) .none kV4 dc4 pm4 an4 cd4 ct4), sl4⟩)
    (c4 : PySem.W.codeIn K cd4 "Far.row" = true)
    (k4 : PySem.W.keepIn K (.ref f4) = true)
    (i4 : PySem.W.isFn K (.ref f4) = true)
    (a8 : PySem.W.findIn K (.ref O_Far) "called" = some (some (.ref f8)))
    (l8 : K.lookup f8 = some ⟨oc8, od8, .func (PySem.W.fnOf "called" "Far.called" (defArgs t_Far_called) (defBody t_Far_called) (defScope t_Far_called) .none kV8 dc8 pm8 an8 cd8 ct8), sl8⟩)
    (c8 : PySem.W.codeIn K cd8 "Far.called" = true)
    (k8 : PySem.W.keepIn K (.ref f8) = true)
    (i8 : PySem.W.isFn K (.ref f8) = true)
    (a15 : PySem.W.findIn K (.ref O_Far) "__init__" = some (some (.ref f15)))
    (l15 : K.lookup f15 = some ⟨oc15, od15, .func (PySem.W.fnOf "__init__" "Far.__init__" (defArgs t_Far___init__) (defBody t_Far___init__) (defScope t_Far___init__) .none kV15 dc15 pm15 an15 cd15 ct15), sl15⟩)
    (c15 : PySem.W.codeIn K cd15 "Far.__init__" = true)
    (k15 : PySem.W.keepIn K (.ref f15) = true)
    (i15 : PySem.W.isFn K (.ref f15) = true)
    (a16 : PySem.W.findIn K (.ref O_Far) "story" = some (some (.ref f16)))
    (l16 : K.lookup f16 = some ⟨oc16, od16, .func (PySem.W.fnOf "story" "Far.story" (defArgs t_Far_story) (defBody t_Far_story) (defScope t_Far_story) .none kV16 dc16 pm16 an16 cd16 ct16), sl16⟩)
    (c16 : PySem.W.codeIn K cd16 "Far.story" = true)
    (k16 : PySem.W.keepIn K (.ref f16) = true)
    (i16 : PySem.W.isFn K (.ref f16) = true)
    (a17 : PySem.W.findIn K (.ref O_Far) "length" = some (some (.ref f17)))
    (l17 : K.lookup f17 = some ⟨oc17, od17, .func (PySem.W.fnOf "length" "Far.length" (defArgs t_Far_length) (defBody t_Far_length) (defScope t_Far_length) .none kV17 dc17 pm17 an17 cd17 ct17), sl17⟩)
    (c17 : PySem.W.codeIn K cd17 "Far.length" = true)
    (k17 : PySem.W.keepIn K (.ref f17) = true)
    (i17 : PySem.W.isFn K (.ref f17) = true)
    (a18 : PySem.W.findIn K (.ref O_Far) "_check_place" = some (some (.ref f18)))
    (l18 : K.lookup f18 = some ⟨oc18, od18, .func (PySem.W.fnOf "_check_place" "Far._check_place" (defArgs t_Far__check_place) (defBody t_Far__check_place) (defScope t_Far__check_place) .none kV18 dc18 pm18 an18 cd18 ct18), sl18⟩)
    (c18 : PySem.W.codeIn K cd18 "Far._check_place" = true)
    (k18 : PySem.W.keepIn K (.ref f18) = true)
    (i18 : PySem.W.isFn K (.ref f18) = true)
    (a19 : PySem.W.findIn K (.ref O_Far) "after" = some (some (.ref f19)))
    (l19 : K.lookup f19 = some ⟨oc19, od19, .func (PySem.W.fnOf "after" "Far.after" (defArgs t_Far_after) (defBody t_Far_after) (defScope t_Far_after) .none kV19 dc19 pm19 an19 cd19 ct19), sl19⟩)
    (c19 : PySem.W.codeIn K cd19 "Far.after" = true)
    (k19 : PySem.W.keepIn K (.ref f19) = true)
    (i19 : PySem.W.isFn K (.ref f19) = true)
    (zV : PySem.W.nsIn K mainGlobals "ValueError" = some none)
    {fI0 : Addr} {oc_I0 kV_I0 dc_I0 pm_I0 cd_I0 ct_I0 : Value} {od_I0 an_I0 : Option Addr} {sl_I0 : Array (Option Value)}
    (iI0 : PySem.W.findIn K (.ref C0) "__init__" = some (some (.ref fI0)))
    (lI0 : K.lookup fI0 = some ⟨oc_I0, od_I0, .func (PySem.W.fnOf "__init__" "OwnError.__init__" (defArgs tI_OwnError) (defBody tI_OwnError) (defScope tI_OwnError) .none kV_I0 dc_I0 pm_I0 an_I0 cd_I0 ct_I0), sl_I0⟩)
    (cI0 : PySem.W.codeIn K cd_I0 "OwnError.__init__" = true)
    (kI0 : PySem.W.keepIn K (.ref fI0) = true)
    (sp0 : PySem.W.specialIn K (.ref C0) "__getattribute__" = some (some (.builtin "type.__getattribute__")))
    (rd0 : PySem.W.readsIn K C0 (.type "type") = true)
    (fc0 : PySem.W.findCls K (.ref C0) (.type "type") "__init__" = some (.val (.ref fI0)))
    (hd0 : PySem.W.handedIn (.ref fI0) = true)
    (vV : PySem.W.findCls K (.type "ValueError") (.type "type") "__init__" = some (.val (.builtin "ValueError.__init__")))
    {fI2 : Addr} {oc_I2 kV_I2 dc_I2 pm_I2 cd_I2 ct_I2 : Value} {od_I2 an_I2 : Option Addr} {sl_I2 : Array (Option Value)}
    (iI2 : PySem.W.findIn K (.ref C2) "__init__" = some (some (.ref fI2)))
    (lI2 : K.lookup fI2 = some ⟨oc_I2, od_I2, .func (PySem.W.fnOf "__init__" "NoPlace.__init__" (defArgs tI_NoPlace) (defBody tI_NoPlace) (defScope tI_NoPlace) .none kV_I2 dc_I2 pm_I2 an_I2 cd_I2 ct_I2), sl_I2⟩)
    (cI2 : PySem.W.codeIn K cd_I2 "NoPlace.__init__" = true)
    (kI2 : PySem.W.keepIn K (.ref fI2) = true)
    {nm2 q2 : Str} {N2 : Addr} {bs2 bm2 : List Value} {sn2 : List Str} {sub2 : List Value} {ab2 : Bool} {col2 : Option Bool} {dd2 : Option Addr} {ma2 mb2 mc_2 md2 me2 : Option Value}
    (xl2 : K.lookup C2 = some (excClassObj nm2 q2 C2 N2 bs2 bm2 true sn2 sub2 ab2 col2 dd2 ma2 mb2 mc_2 md2 me2 "ValueError.__new__"))
    (rv2 : PySem.HandSPX.refsVE bm2 = true)
    (sa2 : PySem.W.findIn K (.ref C2) "__setattr__" = some (some (.builtin "object.__setattr__")))
    (kc2 : PySem.W.keepIn K (.ref C2) = true)
    (ft2 : PySem.W.findIn K (.ref C2) "text" = some none)
    (ff2 : PySem.W.findIn K (.ref C2) "place" = some none)
    (ti2 : PySem.W.typeIn K (.ref fI2) = some (.type "function"))
    (ex2 : PySem.W.subIn K (.ref C2) (.type "BaseException") = some true)
    (ty2 : PySem.W.typeIn K (.ref C2) = some (.type "type"))
    (hdc2 : PySem.W.hasDictIn K C2 = true)
    {fI4 : Addr} {oc_I4 kV_I4 dc_I4 pm_I4 cd_I4 ct_I4 : Value} {od_I4 an_I4 : Option Addr} {sl_I4 : Array (Option Value)}
    (iI4 : PySem.W.findIn K (.ref C4) "__init__" = some (some (.ref fI4)))
    (lI4 : K.lookup fI4 = some ⟨oc_I4, od_I4, .func (PySem.W.fnOf "__init__" "NoLetter.__init__" (defArgs tI_NoLetter) (defBody tI_NoLetter) (defScope tI_NoLetter) .none kV_I4 dc_I4 pm_I4 an_I4 cd_I4 ct_I4), sl_I4⟩)
    (cI4 : PySem.W.codeIn K cd_I4 "NoLetter.__init__" = true)
    (kI4 : PySem.W.keepIn K (.ref fI4) = true)
    {nm4 q4 : Str} {N4 : Addr} {bs4 bm4 : List Value} {sn4 : List Str} {sub4 : List Value} {ab4 : Bool} {col4 : Option Bool} {dd4 : Option Addr} {ma4 mb4 mc_4 md4 me4 : Option Value}
    (xl4 : K.lookup C4 = some (excClassObj nm4 q4 C4 N4 bs4 bm4 true sn4 sub4 ab4 col4 dd4 ma4 mb4 mc_4 md4 me4 "ValueError.__new__"))
    (rv4 : PySem.HandSPX.refsVE bm4 = true)
    (sa4 : PySem.W.findIn K (.ref C4) "__setattr__" = some (some (.builtin "object.__setattr__")))
    (kc4 : PySem.W.keepIn K (.ref C4) = true)
    (ft4 : PySem.W.findIn K (.ref C4) "text" = some none)
    (ff4 : PySem.W.findIn K (.ref C4) "at" = some none)
    (ti4 : PySem.W.typeIn K (.ref fI4) = some (.type "function"))
    (ex4 : PySem.W.subIn K (.ref C4) (.type "BaseException") = some true)
    (ty4 : PySem.W.typeIn K (.ref C4) = some (.type "type"))
    (hdc4 : PySem.W.hasDictIn K C4 = true)
    (pg_Far : PySem.W.plainGet K O_Far Str.empty = true)
    (oh_Far : PySem.W.hasDictIn K O_Far = true)
    (po_Far : PySem.W.plainOver K O_Far = true)
    (os_Far : PySem.W.findIn K (.ref O_Far) "__setattr__" = some (some (.builtin "object.__setattr__")))
    (na_Far__row : PySem.W.findIn K (.ref O_Far) "_row" = some none)
    (na_Far__story : PySem.W.findIn K (.ref O_Far) "_story" = some none)
    (mk_Far : PySem.W.makesIn K O_Far = true)
    (kO_Far : PySem.W.keepIn K (.ref O_Far) = true) :
    ∃ fd : FuncData, (∀ (s : Shared) (v : Value), BindsTo s fd ⟨[v], []⟩ [("_law_script", v)]) ∧ ∀ base : Heap, K.In base → base.Ns mainGlobals mg → FnG l.prog w K mg base 7 fa fd ["_law_script"] (spLaw K) := by
  have e := hfa.symm.trans (PySem.W.mg_of X G a30)
  cases e
  have FI0 := fun_mk (st := tI_OwnError) lI0 cI0 kI0
  have bI0 := FI0.binds (ps := ["self", "text"]) fun _ _ _ _ _ _ us hl => match us, hl with | [_, _], _ => rfl
  have FI2 := fun_mk (st := tI_NoPlace) lI2 cI2 kI2
  have bI2 := FI2.binds (ps := ["self", "place"]) fun _ _ _ _ _ _ us hl => match us, hl with | [_, _], _ => rfl
  have FI4 := fun_mk (st := tI_NoLetter) lI4 cI4 kI4
  have bI4 := FI4.binds (ps := ["self", "at"]) fun _ _ _ _ _ _ us hl => match us, hl with | [_, _], _ => rfl
  have F1 := fun_mk (st := t_tally) l1 c1 k1
  have g1 := PySem.W.mg_of X G a1
  have b1 := F1.binds (ps := ["row"]) fun _ _ _ _ _ _ us hl => match us, hl with | [_], _ => rfl
  have F2 := fun_mk (st := t_tally_after) l2 c2 k2
  have g2 := PySem.W.mg_of X G a2
  have b2 := F2.binds (ps := ["tally", "letters"]) fun _ _ _ _ _ _ us hl => match us, hl with | [_, _], _ => rfl
  have F3 := fun_mk (st := t_tally_made) l3 c3 k3
  have g3 := PySem.W.mg_of X G a3
  have b3 := F3.binds (ps := ["row", "letters"]) fun _ _ _ _ _ _ us hl => match us, hl with | [_, _], _ => rfl
  have F4 := fun_mk (st := t_Far_row) l4 c4 k4
  have b4 := F4.binds (ps := ["self"]) fun _ _ _ _ _ _ us hl => match us, hl with | [_], _ => rfl
  have F5 := fun_mk (st := t_shown) l5 c5 k5
  have g5 := PySem.W.mg_of X G a5
  have b5 := F5.binds (ps := ["last", "called", "place"]) fun _ _ _ _ _ _ us hl => match us, hl with | [_, _, _], _ => rfl
  have F6 := fun_mk (st := t_shown_places) l6 c6 k6
  have g6 := PySem.W.mg_of X G a6
  have b6 := F6.binds (ps := ["last", "calls", "place"]) fun _ _ _ _ _ _ us hl => match us, hl with | [_, _, _], _ => rfl
  have F7 := fun_mk (st := t_called_letters) l7 c7 k7
  have g7 := PySem.W.mg_of X G a7
  have b7 := F7.binds (ps := ["row", "calls"]) fun _ _ _ _ _ _ us hl => match us, hl with | [_, _], _ => rfl
  have F8 := fun_mk (st := t_Far_called) l8 c8 k8
  have b8 := F8.binds (ps := ["self"]) fun _ _ _ _ _ _ us hl => match us, hl with | [_], _ => rfl
  have F9 := fun_mk (st := t_far_tally) l9 c9 k9
  have g9 := PySem.W.mg_of X G a9
  have b9 := F9.binds (ps := ["far"]) fun _ _ _ _ _ _ us hl => match us, hl with | [_], _ => rfl
  have F10 := fun_mk (st := t_is_integer) l10 c10 k10
  have g10 := PySem.W.mg_of X G a10
  have b10 := F10.binds (ps := ["thing"]) fun _ _ _ _ _ _ us hl => match us, hl with | [_], _ => rfl
  have F11 := fun_mk (st := t_has_only_letters) l11 c11 k11
  have g11 := PySem.W.mg_of X G a11
  have b11 := F11.binds (ps := ["string"]) fun _ _ _ _ _ _ us hl => match us, hl with | [_], _ => rfl
  have F12 := fun_mk (st := t_is_text) l12 c12 k12
  have g12 := PySem.W.mg_of X G a12
  have b12 := F12.binds (ps := ["thing", "most"]) fun _ _ _ _ _ _ us hl => match us, hl with | [_, _], _ => rfl
  have F13 := fun_mk (st := t_is_row) l13 c13 k13
  have g13 := PySem.W.mg_of X G a13
  have b13 := F13.binds (ps := ["thing"]) fun _ _ _ _ _ _ us hl => match us, hl with | [_], _ => rfl
  have F14 := fun_mk (st := t_is_story) l14 c14 k14
  have g14 := PySem.W.mg_of X G a14
  have b14 := F14.binds (ps := ["last", "thing"]) fun _ _ _ _ _ _ us hl => match us, hl with | [_, _], _ => rfl
  have F15 := fun_mk (st := t_Far___init__) l15 c15 k15
  have b15 := F15.binds (ps := ["self", "row", "story"]) fun _ _ _ _ _ _ us hl => match us, hl with | [_, _, _], _ => rfl
  have F16 := fun_mk (st := t_Far_story) l16 c16 k16
  have b16 := F16.binds (ps := ["self"]) fun _ _ _ _ _ _ us hl => match us, hl with | [_], _ => rfl
  have F17 := fun_mk (st := t_Far_length) l17 c17 k17
  have b17 := F17.binds (ps := ["self"]) fun _ _ _ _ _ _ us hl => match us, hl with | [_], _ => rfl
  have F18 := fun_mk (st := t_Far__check_place) l18 c18 k18
  have b18 := F18.binds (ps := ["self", "place"]) fun _ _ _ _ _ _ us hl => match us, hl with | [_, _], _ => rfl
  have F19 := fun_mk (st := t_Far_after) l19 c19 k19
  have b19 := F19.binds (ps := ["self", "place"]) fun _ _ _ _ _ _ us hl => match us, hl with | [_, _], _ => rfl
  have F20 := fun_mk (st := t__law_bag) l20 c20 k20
  have g20 := PySem.W.mg_of X G a20
  have b20 := F20.binds (ps := ["_law_script"]) fun _ _ _ _ _ _ us hl => match us, hl with | [_], _ => rfl
  have F21 := fun_mk (st := t__law_take) l21 c21 k21
  have g21 := PySem.W.mg_of X G a21
  have b21 := F21.binds (ps := ["_law_bag_here", "_law_many"]) fun _ _ _ _ _ _ us hl => match us, hl with | [_, _], _ => rfl
  have F22 := fun_mk (st := t__law_alike) l22 c22 k22
  have g22 := PySem.W.mg_of X G a22
  have b22 := F22.binds (ps := ["_law_found", "_law_due"]) fun _ _ _ _ _ _ us hl => match us, hl with | [_, _], _ => rfl
  have F23 := fun_mk (st := t__law_word) l23 c23 k23
  have g23 := PySem.W.mg_of X G a23
  have b23 := F23.binds (ps := ["_law_bag_here", "_law_most"]) fun _ _ _ _ _ _ us hl => match us, hl with | [_, _], _ => rfl
  have F24 := fun_mk (st := t__law_row) l24 c24 k24
  have g24 := PySem.W.mg_of X G a24
  have b24 := F24.binds (ps := ["_law_bag_here", "_law_most"]) fun _ _ _ _ _ _ us hl => match us, hl with | [_, _], _ => rfl
  have F25 := fun_mk (st := t__law_any_row) l25 c25 k25
  have g25 := PySem.W.mg_of X G a25
  have b25 := F25.binds (ps := ["_law_bag_here", "_law_most"]) fun _ _ _ _ _ _ us hl => match us, hl with | [_, _], _ => rfl
  have F26 := fun_mk (st := t__law_called) l26 c26 k26
  have g26 := PySem.W.mg_of X G a26
  have b26 := F26.binds (ps := ["_law_row_here", "_law_place"]) fun _ _ _ _ _ _ us hl => match us, hl with | [_, _], _ => rfl
  have F27 := fun_mk (st := t__law_written) l27 c27 k27
  have g27 := PySem.W.mg_of X G a27
  have b27 := F27.binds (ps := ["_law_row_here", "_law_story_here"]) fun _ _ _ _ _ _ us hl => match us, hl with | [_, _], _ => rfl
  have F28 := fun_mk (st := t__law_story) l28 c28 k28
  have g28 := PySem.W.mg_of X G a28
  have b28 := F28.binds (ps := ["_law_bag_here", "_law_last", "_law_calls"]) fun _ _ _ _ _ _ us hl => match us, hl with | [_, _, _], _ => rfl
  have F29 := fun_mk (st := t__law_tally) l29 c29 k29
  have g29 := PySem.W.mg_of X G a29
  have b29 := F29.binds (ps := ["_law_text"]) fun _ _ _ _ _ _ us hl => match us, hl with | [_], _ => rfl
  have F30 := fun_mk (st := t_law) l30 c30 k30
  have m0 := PySem.W.mg_none_of X G z0
  have m1 := PySem.W.mg_none_of X G z1
  have m2 := PySem.W.mg_none_of X G z2
  have m3 := PySem.W.mg_none_of X G z3
  have m4 := PySem.W.mg_none_of X G z4
  have m5 := PySem.W.mg_none_of X G z5
  have m6 := PySem.W.mg_none_of X G z6
  have m7 := PySem.W.mg_none_of X G z7
  have m8 := PySem.W.mg_none_of X G z8
  have m9 := PySem.W.mg_none_of X G z9
  have m10 := PySem.W.mg_of X G z10
  have m11 := PySem.W.mg_of X G z11
  have m12 := PySem.W.mg_none_of X G z12
  have m13 := PySem.W.mg_none_of X G z13
  have m14 := PySem.W.mg_none_of X G z14
  exact ⟨PySem.W.fnOf "law" "law" (defArgs t_law) (defBody t_law) (defScope t_law) .none kV30 dc30 pm30 an30 cd30 ct30, fun s v => .of_eq rfl, fun base _ _ => by
    have gO := PySem.W.mg_of X G aC0
    have MO : ClsM K C0 "__init__" fI0 := ⟨sp0, ⟨_, rd0, fc0⟩, hd0, kI0⟩
    have GO := fnI_OwnError (P := l.prog) (w := w) (mg := mg) (base := base) FI0 (PySem.W.mg_none_of X G zV) vV
    have Z4 : ErD l.prog w K mg base "NoLetter" C4 "at" "a letter does not occur in the tally" := ⟨⟨⟨_, _, _, _, _, _, _, _, _, _, _, _, _, _, _, xl4, rv4⟩, sa4, ex4, ty4, kc4⟩, ft4, ff4, PySem.W.mg_of X G aC4, ⟨_, _, _, iI4, ti4, fnI_NoLetter FI4 GO MO gO bI0, bI4⟩⟩
    have Z2 : ErD l.prog w K mg base "NoPlace" C2 "place" "there is no such place" := ⟨⟨⟨_, _, _, _, _, _, _, _, _, _, _, _, _, _, _, xl2, rv2⟩, sa2, ex2, ty2, kc2⟩, ft2, ff2, PySem.W.mg_of X G aC2, ⟨_, _, _, iI2, ti2, fnI_NoPlace FI2 GO MO gO bI0, bI2⟩⟩
    have ex : EX l.prog w K mg base ⟨C0, C1, C2, C0, C0, C3, C0, C4, C0, C0, C0, C0, C0, C0, C0, C0, C0, O_Far, C0, C0, C0⟩ := ⟨PySem.W.mg_of X G aC0, PySem.W.mg_of X G aC1, PySem.W.mg_of X G aC2, PySem.W.mg_of X G aC3, PySem.W.mg_of X G aC4, PySem.W.mg_of X G aO_Far, ⟨pg_Far, oh_Far, po_Far, os_Far⟩, na_Far__row, na_Far__story, (PySem.W.mg_none_of X G zV), m7, Z4, Z2⟩
    have G1 := fn_tally (P := l.prog) (w := w) (K := K) (mg := mg) (base := base) F1 m0 m1
    have G2 := fn_tally_after (P := l.prog) (w := w) (K := K) (mg := mg) (base := base) F2 ex m2 m3 m4
    have G3 := fn_tally_made (P := l.prog) (w := w) (K := K) (mg := mg) (base := base) F3 ex G2 g2 k2 b2 G1 g1 k1 b1
    have G4 := fn_Far_row (P := l.prog) (w := w) (K := K) (mg := mg) (base := base) F4 ex
    have G5 := fn_shown (P := l.prog) (w := w) (K := K) (mg := mg) (base := base) F5 
    have G6 := fn_shown_places (P := l.prog) (w := w) (K := K) (mg := mg) (base := base) F6 G5 g5 k5 b5 m5
    have G7 := fn_called_letters (P := l.prog) (w := w) (K := K) (mg := mg) (base := base) F7 G6 g6 k6 b6 m2 m6
    have G8 := fn_Far_called (P := l.prog) (w := w) (K := K) (mg := mg) (base := base) F8 ex G7 g7 k7 b7
    have G9 := fn_far_tally (P := l.prog) (w := w) (K := K) (mg := mg) (base := base) F9 ex G3 g3 k3 b3 G4 ⟨a4, i4, k4⟩ b4 G8 ⟨a8, i8, k8⟩ b8
    have G10 := fn_is_integer (P := l.prog) (w := w) (K := K) (mg := mg) (base := base) F10 m7 m4 m8
    have G11 := fn_has_only_letters (P := l.prog) (w := w) (K := K) (mg := mg) (base := base) F11 
    have G12 := fn_is_text (P := l.prog) (w := w) (K := K) (mg := mg) (base := base) F12 G11 g11 k11 b11 m7 m9 m6
    have G13 := fn_is_row (P := l.prog) (w := w) (K := K) (mg := mg) (base := base) F13 G12 g12 k12 b12 m10 m6
    have G14 := fn_is_story (P := l.prog) (w := w) (K := K) (mg := mg) (base := base) F14 G10 g10 k10 b10 m7 m3 m6 m11
    have G15 := fn_Far___init__ (P := l.prog) (w := w) (K := K) (mg := mg) (base := base) F15 ex G13 g13 k13 b13 G14 g14 k14 b14 m6 m3
    have G16 := fn_Far_story (P := l.prog) (w := w) (K := K) (mg := mg) (base := base) F16 ex m3
    have G17 := fn_Far_length (P := l.prog) (w := w) (K := K) (mg := mg) (base := base) F17 ex m6
    have G18 := fn_Far__check_place (P := l.prog) (w := w) (K := K) (mg := mg) (base := base) F18 ex G17 ⟨a17, i17, k17⟩ b17
    have G19 := fn_Far_after (P := l.prog) (w := w) (K := K) (mg := mg) (base := base) F19 ex G18 ⟨a18, i18, k18⟩ b18 G15 ⟨mk_Far, a15, i15, kO_Far⟩ b15 m6 m11
    have G20 := fn__law_bag (P := l.prog) (w := w) (K := K) (mg := mg) (base := base) F20 m12
    have G21 := fn__law_take (P := l.prog) (w := w) (K := K) (mg := mg) (base := base) F21 m6
    have G22 := fn__law_alike (P := l.prog) (w := w) (K := K) (mg := mg) (base := base) F22 m13
    have G23 := fn__law_word (P := l.prog) (w := w) (K := K) (mg := mg) (base := base) F23 G21 g21 k21 b21 m4 m14
    have G24 := fn__law_row (P := l.prog) (w := w) (K := K) (mg := mg) (base := base) F24 G23 g23 k23 b23 G21 g21 k21 b21 m6
    have G25 := fn__law_any_row (P := l.prog) (w := w) (K := K) (mg := mg) (base := base) F25 G21 g21 k21 b21 G24 g24 k24 b24 m14
    have G26 := fn__law_called (P := l.prog) (w := w) (K := K) (mg := mg) (base := base) F26 
    have G27 := fn__law_written (P := l.prog) (w := w) (K := K) (mg := mg) (base := base) F27 G26 g26 k26 b26
    have G28 := fn__law_story (P := l.prog) (w := w) (K := K) (mg := mg) (base := base) F28 G21 g21 k21 b21 m14
    have G29 := fn__law_tally (P := l.prog) (w := w) (K := K) (mg := mg) (base := base) F29 m6
    have G30 := fn_law (P := l.prog) (w := w) (K := K) (mg := mg) (base := base) F30 ex G20 g20 k20 b20 G25 g25 k25 b25 G28 g28 k28 b28 G21 g21 k21 b21 G27 g27 k27 b27 G15 ⟨mk_Far, a15, i15, kO_Far⟩ b15 G29 g29 k29 b29 G26 g26 k26 b26 G1 g1 k1 b1 G9 g9 k9 b9 G19 ⟨a19, i19, k19⟩ b19 G22 g22 k22 b22 G4 ⟨a4, i4, k4⟩ b4 G16 ⟨a16, i16, k16⟩ b16 m14 m6
    exact G30⟩
end K31
open PySem PySem.W PyProof.Rows
set_option maxHeartbeats 0 in
theorem PySem.Challenge.cw_ownlog_k31_tallies_holds : PySem.Challenge.rw_ownlog_k31_tallies.Holds := by
  w_on; o_law; k_head; (case hw => w_witness2)
  k_fill
  refine DL.walkG (l := PySem.Challenge.rw_ownlog_k31_tallies) (k := 7) (x := "_law_script") rfl rfl ⟨rfl, by decide, by decide⟩ (fun w h Y => PySem.W.kIn_of Y) ?F
  case F =>
    intro w mg fa h KX G hmg
    refine' K31.all_mk KX G hmg ?a1 ?l1 ?c1 ?k1 ?a2 ?l2 ?c2 ?k2 ?a3 ?l3 ?c3 ?k3 ?a5 ?l5 ?c5 ?k5 ?a6 ?l6 ?c6 ?k6 ?a7 ?l7 ?c7 ?k7 ?a9 ?l9 ?c9 ?k9 ?a10 ?l10 ?c10 ?k10 ?a11 ?l11 ?c11 ?k11 ?a12 ?l12 ?c12 ?k12 ?a13 ?l13 ?c13 ?k13 ?a14 ?l14 ?c14 ?k14 ?a20 ?l20 ?c20 ?k20 ?a21 ?l21 ?c21 ?k21 ?a22 ?l22 ?c22 ?k22 ?a23 ?l23 ?c23 ?k23 ?a24 ?l24 ?c24 ?k24 ?a25 ?l25 ?c25 ?k25 ?a26 ?l26 ?c26 ?k26 ?a27 ?l27 ?c27 ?k27 ?a28 ?l28 ?c28 ?k28 ?a29 ?l29 ?c29 ?k29 ?a30 ?l30 ?c30 ?k30 ?z0 ?z1 ?z2 ?z3 ?z4 ?z5 ?z6 ?z7 ?z8 ?z9 ?z10 ?z11 ?z12 ?z13 ?z14 ?aC0 ?aC1 ?aC2 ?aC3 ?aC4 ?aO_Far ?a4 ?l4 ?c4 ?k4 ?i4 ?a8 ?l8 ?c8 ?k8 ?i8 ?a15 ?l15 ?c15 ?k15 ?i15 ?a16 ?l16 ?c16 ?k16 ?i16 ?a17 ?l17 ?c17 ?k17 ?i17 ?a18 ?l18 ?c18 ?k18 ?i18 ?a19 ?l19 ?c19 ?k19 ?i19 ?zV ?iI0 ?lI0 ?cI0 ?kI0 ?sp0 ?rd0 ?fc0 ?hd0 ?vV ?iI2 ?lI2 ?cI2 ?kI2 ?xl2 ?rv2 ?sa2 ?kc2 ?ft2 ?ff2 ?ti2 ?ex2 ?ty2 ?hdc2 ?iI4 ?lI4 ?cI4 ?kI4 ?xl4 ?rv4 ?sa4 ?kc4 ?ft4 ?ff4 ?ti4 ?ex4 ?ty4 ?hdc4 ?pg_Far ?oh_Far ?po_Far ?os_Far ?na_Far__row ?na_Far__story ?mk_Far ?kO_Far
    (case a1 => first | k_is | rfl | decide +kernel); (case l1 => first | k_is | rfl | decide +kernel); (case c1 => first | k_is | rfl | decide +kernel); (case k1 => first | k_is | rfl | decide +kernel); (case a2 => first | k_is | rfl | decide +kernel); (case l2 => first | k_is | rfl | decide +kernel); (case c2 => first | k_is | rfl | decide +kernel); (case k2 => first | k_is | rfl | decide +kernel); (case a3 => first | k_is | rfl | decide +kernel); (case l3 => first | k_is | rfl | decide +kernel); (case c3 => first | k_is | rfl | decide +kernel); (case k3 => first | k_is | rfl | decide +kernel); (case a5 => first | k_is | rfl | decide +kernel); (case l5 => first | k_is | rfl | decide +kernel); (case c5 => first | k_is | rfl | decide +kernel); (case k5 => first | k_is | rfl | decide +kernel); (case a6 => first | k_is | rfl | decide +kernel); (case l6 => first | k_is | rfl | decide +kernel); (case c6 => first | k_is | rfl | decide +kernel); (case k6 => first | k_is | rfl | decide +kernel); (case a7 => first | k_is | rfl | decide +kernel); (case l7 => first | k_is | rfl | decide +kernel); (case c7 => first | k_is | rfl | decide +kernel); (case k7 => first | k_is | rfl | decide +kernel); (case a9 => first | k_is | rfl | decide +kernel); (case l9 => first | k_is | rfl | decide +kernel); (case c9 => first | k_is | rfl | decide +kernel); (case k9 => first | k_is | rfl | decide +kernel); (case a10 => first | k_is | rfl | decide +kernel); (case l10 => first | k_is | rfl | decide +kernel); (case c10 => first | k_is | rfl | decide +kernel); (case k10 => first | k_is | rfl | decide +kernel); (case a11 => first | k_is | rfl | decide +kernel); (case l11 => first | k_is | rfl | decide +kernel); (case c11 => first | k_is | rfl | decide +kernel); (case k11 => first | k_is | rfl | decide +kernel); (case a12 => first | k_is | rfl | decide +kernel); (case l12 => first | k_is | rfl | decide +kernel); (case c12 => first | k_is | rfl | decide +kernel); (case k12 => first | k_is | rfl | decide +kernel); (case a13 => first | k_is | rfl | decide +kernel); (case l13 => first | k_is | rfl | decide +kernel); (case c13 => first | k_is | rfl | decide +kernel); (case k13 => first | k_is | rfl | decide +kernel); (case a14 => first | k_is | rfl | decide +kernel); (case l14 => first | k_is | rfl | decide +kernel); (case c14 => first | k_is | rfl | decide +kernel); (case k14 => first | k_is | rfl | decide +kernel); (case a20 => first | k_is | rfl | decide +kernel); (case l20 => first | k_is | rfl | decide +kernel); (case c20 => first | k_is | rfl | decide +kernel); (case k20 => first | k_is | rfl | decide +kernel); (case a21 => first | k_is | rfl | decide +kernel); (case l21 => first | k_is | rfl | decide +kernel); (case c21 => first | k_is | rfl | decide +kernel); (case k21 => first | k_is | rfl | decide +kernel); (case a22 => first | k_is | rfl | decide +kernel); (case l22 => first | k_is | rfl | decide +kernel); (case c22 => first | k_is | rfl | decide +kernel); (case k22 => first | k_is | rfl | decide +kernel); (case a23 => first | k_is | rfl | decide +kernel); (case l23 => first | k_is | rfl | decide +kernel); (case c23 => first | k_is | rfl | decide +kernel); (case k23 => first | k_is | rfl | decide +kernel); (case a24 => first | k_is | rfl | decide +kernel); (case l24 => first | k_is | rfl | decide +kernel); (case c24 => first | k_is | rfl | decide +kernel); (case k24 => first | k_is | rfl | decide +kernel); (case a25 => first | k_is | rfl | decide +kernel); (case l25 => first | k_is | rfl | decide +kernel); (case c25 => first | k_is | rfl | decide +kernel); (case k25 => first | k_is | rfl | decide +kernel); (case a26 => first | k_is | rfl | decide +kernel); (case l26 => first | k_is | rfl | decide +kernel); (case c26 => first | k_is | rfl | decide +kernel); (case k26 => first | k_is | rfl | decide +kernel); (case a27 => first | k_is | rfl | decide +kernel); (case l27 => first | k_is | rfl | decide +kernel); (case c27 => first | k_is | rfl | decide +kernel); (case k27 => first | k_is | rfl | decide +kernel); (case a28 => first | k_is | rfl | decide +kernel); (case l28 => first | k_is | rfl | decide +kernel); (case c28 => first | k_is | rfl | decide +kernel); (case k28 => first | k_is | rfl | decide +kernel); (case a29 => first | k_is | rfl | decide +kernel); (case l29 => first | k_is | rfl | decide +kernel); (case c29 => first | k_is | rfl | decide +kernel); (case k29 => first | k_is | rfl | decide +kernel); (case a30 => first | k_is | rfl | decide +kernel); (case l30 => first | k_is | rfl | decide +kernel); (case c30 => first | k_is | rfl | decide +kernel); (case k30 => first | k_is | rfl | decide +kernel); (case z0 => first | k_is | rfl | decide +kernel); (case z1 => first | k_is | rfl | decide +kernel); (case z2 => first | k_is | rfl | decide +kernel); (case z3 => first | k_is | rfl | decide +kernel); (case z4 => first | k_is | rfl | decide +kernel); (case z5 => first | k_is | rfl | decide +kernel); (case z6 => first | k_is | rfl | decide +kernel); (case z7 => first | k_is | rfl | decide +kernel); (case z8 => first | k_is | rfl | decide +kernel); (case z9 => first | k_is | rfl | decide +kernel); (case z10 => first | k_is | rfl | decide +kernel); (case z11 => first | k_is | rfl | decide +kernel); (case z12 => first | k_is | rfl | decide +kernel); (case z13 => first | k_is | rfl | decide +kernel); (case z14 => first | k_is | rfl | decide +kernel); (case aC0 => first | k_is | rfl | decide +kernel); (case aC1 => first | k_is | rfl | decide +kernel); (case aC2 => first | k_is | rfl | decide +kernel); (case aC3 => first | k_is | rfl | decide +kernel); (case aC4 => first | k_is | rfl | decide +kernel); (case aO_Far => first | k_is | rfl | decide +kernel); (case a4 => first | k_is | rfl | decide +kernel); (case l4 => first | k_is | rfl | decide +kernel); (case c4 => first | k_is | rfl | decide +kernel); (case k4 => first | k_is | rfl | decide +kernel); (case i4 => first | k_is | rfl | decide +kernel); (case a8 => first | k_is | rfl | decide +kernel); (case l8 => first | k_is | rfl | decide +kernel); (case c8 => first | k_is | rfl | decide +kernel); (case k8 => first | k_is | rfl | decide +kernel); (case i8 => first | k_is | rfl | decide +kernel); (case a15 => first | k_is | rfl | decide +kernel); (case l15 => first | k_is | rfl | decide +kernel); (case c15 => first | k_is | rfl | decide +kernel); (case k15 => first | k_is | rfl | decide +kernel); (case i15 => first | k_is | rfl | decide +kernel); (case a16 => first | k_is | rfl | decide +kernel); (case l16 => first | k_is | rfl | decide +kernel); (case c16 => first | k_is | rfl | decide +kernel); (case k16 => first | k_is | rfl | decide +kernel); (case i16 => first | k_is | rfl | decide +kernel); (case a17 => first | k_is | rfl | decide +kernel); (case l17 => first | k_is | rfl | decide +kernel); (case c17 => first | k_is | rfl | decide +kernel); (case k17 => first | k_is | rfl | decide +kernel); (case i17 => first | k_is | rfl | decide +kernel); (case a18 => first | k_is | rfl | decide +kernel); (case l18 => first | k_is | rfl | decide +kernel); (case c18 => first | k_is | rfl | decide +kernel); (case k18 => first | k_is | rfl | decide +kernel); (case i18 => first | k_is | rfl | decide +kernel); (case a19 => first | k_is | rfl | decide +kernel); (case l19 => first | k_is | rfl | decide +kernel); (case c19 => first | k_is | rfl | decide +kernel); (case k19 => first | k_is | rfl | decide +kernel); (case i19 => first | k_is | rfl | decide +kernel); (case zV => first | k_is | rfl | decide +kernel); (case iI0 => first | k_is | rfl | decide +kernel); (case lI0 => first | k_is | rfl | decide +kernel); (case cI0 => first | k_is | rfl | decide +kernel); (case kI0 => first | k_is | rfl | decide +kernel); (case sp0 => first | k_is | rfl | decide +kernel); (case rd0 => first | k_is | rfl | decide +kernel); (case fc0 => first | k_is | rfl | decide +kernel); (case hd0 => first | k_is | rfl | decide +kernel); (case vV => first | k_is | rfl | decide +kernel); (case iI2 => first | k_is | rfl | decide +kernel); (case lI2 => first | k_is | rfl | decide +kernel); (case cI2 => first | k_is | rfl | decide +kernel); (case kI2 => first | k_is | rfl | decide +kernel); (case xl2 => first | k_is | rfl | decide +kernel); (case rv2 => first | k_is | rfl | decide +kernel); (case sa2 => first | k_is | rfl | decide +kernel); (case kc2 => first | k_is | rfl | decide +kernel); (case ft2 => first | k_is | rfl | decide +kernel); (case ff2 => first | k_is | rfl | decide +kernel); (case ti2 => first | k_is | rfl | decide +kernel); (case ex2 => first | k_is | rfl | decide +kernel); (case ty2 => first | k_is | rfl | decide +kernel); (case hdc2 => first | k_is | rfl | decide +kernel); (case iI4 => first | k_is | rfl | decide +kernel); (case lI4 => first | k_is | rfl | decide +kernel); (case cI4 => first | k_is | rfl | decide +kernel); (case kI4 => first | k_is | rfl | decide +kernel); (case xl4 => first | k_is | rfl | decide +kernel); (case rv4 => first | k_is | rfl | decide +kernel); (case sa4 => first | k_is | rfl | decide +kernel); (case kc4 => first | k_is | rfl | decide +kernel); (case ft4 => first | k_is | rfl | decide +kernel); (case ff4 => first | k_is | rfl | decide +kernel); (case ti4 => first | k_is | rfl | decide +kernel); (case ex4 => first | k_is | rfl | decide +kernel); (case ty4 => first | k_is | rfl | decide +kernel); (case hdc4 => first | k_is | rfl | decide +kernel); (case pg_Far => first | k_is | rfl | decide +kernel); (case oh_Far => first | k_is | rfl | decide +kernel); (case po_Far => first | k_is | rfl | decide +kernel); (case os_Far => first | k_is | rfl | decide +kernel); (case na_Far__row => first | k_is | rfl | decide +kernel); (case na_Far__story => first | k_is | rfl | decide +kernel); (case mk_Far => first | k_is | rfl | decide +kernel); (case kO_Far => first | k_is | rfl | decide +kernel)
