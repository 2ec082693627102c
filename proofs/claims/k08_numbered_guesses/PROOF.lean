import PyProof.Rows.All
import Wide.All
import OpenK.AllK
import Wide.FinOn
import HandS.ForMost
import HandS.IsInst
import HandS.Zip
import HandS.Rev
import HandS.Style
import HandS.DictComp
import HandS.ForExc
import HandS.RaiseMore
import HandS.ExcIs
import HandS.ExcField
import HandS.FStr
import KE.GoesNew
import HandS.TupAny
import HandS.Deep
import PyProof.ListRange
import PySem.Challenge.RW_yesterpost_k08_numbered_guesses
set_option Elab.async false
set_option linter.all false
set_option maxRecDepth 100000
set_option maxHeartbeats 2000000
namespace Yp
open PySem PySem.Spec PyProof.Rows L2

/-! ### data: what a value is, all the way down -/
inductive D where
  | non | bl (b : Bool) | int (i : Int) | str (s : Str) | lst (xs : List D) | tup (xs : List D) | dct (kvs : List (Key × D))

mutual
inductive Dv (K : PySem.W.Frag) (F : Hp) : V → D → Prop
  | non : Dv K F .non .non
  | bl (b : Bool) : Dv K F (.bl b) (.bl b)
  | int (i : Int) : Dv K F (.int i) (.int i)
  | str (s : Str) : Dv K F (.str s) (.str s)
  | lst {a : Addr} {xs : List V} {ds : List D} : SqL K F a xs → Dvs K F xs ds → Dv K F (.ref a) (.lst ds)
  | tup {a : Addr} {xs : List V} {ds : List D} : SqT K F a xs → Dvs K F xs ds → Dv K F (.ref a) (.tup ds)
  | dct {a : Addr} {kvs : List (Key × V)} {ds : List (Key × D)} : F a = some (.dK kvs) → Dks K F kvs ds → Dv K F (.ref a) (.dct ds)
inductive Dvs (K : PySem.W.Frag) (F : Hp) : List V → List D → Prop
  | nil : Dvs K F [] []
  | cons {v : V} {vs : List V} {d : D} {ds : List D} : Dv K F v d → Dvs K F vs ds → Dvs K F (v :: vs) (d :: ds)
inductive Dks (K : PySem.W.Frag) (F : Hp) : List (Key × V) → List (Key × D) → Prop
  | nil : Dks K F [] []
  | cons {k : Key} {v : V} {vs : List (Key × V)} {d : D} {ds : List (Key × D)} : Dv K F v d → Dks K F vs ds → Dks K F ((k, v) :: vs) ((k, d) :: ds)
end

/-- H' knows all that H knows -/
def Ex (H H' : Hp) : Prop := ∀ a o, H a = some o → H' a = some o
theorem Ex.refl (H : Hp) : Ex H H := fun _ _ h => h
theorem Ex.trans {H H1 H2 : Hp} (a : Ex H H1) (b : Ex H1 H2) : Ex H H2 := fun x o h => b x o (a x o h)
theorem Ex.new {H : Hp} {p : Addr} {o : HO} (h : H p = none) : Ex H (upd H p o) := fun a u e => by
  rw [upd_ne (ne_of_none e h)]; exact e
theorem Ex.back {H H' : Hp} {p : Addr} (e : Ex H H') (h : H' p = none) : H p = none := by
  cases h1 : H p with
  | none => rfl
  | some o => rw [e p o h1] at h; cases h
theorem Ex.sqL {K : PySem.W.Frag} {H H' : Hp} {a : Addr} {xs : List V} (e : Ex H H') (h : SqL K H a xs) : SqL K H' a xs := by
  rcases h with (h | ⟨o, h⟩) | h
  · exact .inl (.inl (e _ _ h))
  · exact .inl (.inr ⟨o, e _ _ h⟩)
  · exact .inr h
theorem Ex.sqT {K : PySem.W.Frag} {H H' : Hp} {a : Addr} {xs : List V} (e : Ex H H') (h : SqT K H a xs) : SqT K H' a xs := by
  rcases h with (h | ⟨o, h⟩) | h
  · exact .inl (.inl (e _ _ h))
  · exact .inl (.inr ⟨o, e _ _ h⟩)
  · exact .inr h
section
variable {K : PySem.W.Frag} {F F' : Hp}
mutual
theorem Dv.mono (e : Ex F F') : ∀ {v : V} {d : D}, Dv K F v d → Dv K F' v d
  | _, _, .non => .non
  | _, _, .bl b => .bl b
  | _, _, .int i => .int i
  | _, _, .str s => .str s
  | _, _, .lst h t => .lst (e.sqL h) (Dvs.mono e t)
  | _, _, .tup h t => .tup (e.sqT h) (Dvs.mono e t)
  | _, _, .dct h t => .dct (e _ _ h) (Dks.mono e t)
theorem Dvs.mono (e : Ex F F') : ∀ {vs : List V} {ds : List D}, Dvs K F vs ds → Dvs K F' vs ds
  | _, _, .nil => .nil
  | _, _, .cons h t => .cons (Dv.mono e h) (Dvs.mono e t)
theorem Dks.mono (e : Ex F F') : ∀ {vs : List (Key × V)} {ds : List (Key × D)}, Dks K F vs ds → Dks K F' vs ds
  | _, _, .nil => .nil
  | _, _, .cons h t => .cons (Dv.mono e h) (Dks.mono e t)
end
theorem Dvs.length : ∀ {vs : List V} {ds : List D}, Dvs K F vs ds → vs.length = ds.length
  | _, _, .nil => rfl
  | _, _, .cons _ t => by rw [List.length_cons, List.length_cons, t.length]
theorem Dvs.get : ∀ {vs : List V} {ds : List D}, Dvs K F vs ds → ∀ {i : Nat} {d : D}, ds[i]? = some d → ∃ v, vs[i]? = some v ∧ Dv K F v d
  | _, _, .nil, _, _, e => by simp at e
  | _, _, .cons h _, 0, _, e => by simp at e; subst e; exact ⟨_, rfl, h⟩
  | _, _, .cons _ t, i + 1, d, e => by
    obtain ⟨v, h1, h2⟩ := t.get (i := i) (d := d) (by simpa using e)
    exact ⟨v, by simpa using h1, h2⟩
theorem Dvs.of_get : ∀ {vs : List V} {ds : List D}, Dvs K F vs ds → ∀ {i : Nat} {v : V}, vs[i]? = some v → ∃ d, ds[i]? = some d ∧ Dv K F v d
  | _, _, .nil, _, _, e => by simp at e
  | _, _, .cons h _, 0, _, e => by simp at e; subst e; exact ⟨_, rfl, h⟩
  | _, _, .cons _ t, i + 1, d, e => by
    obtain ⟨v, h1, h2⟩ := t.of_get (i := i) (v := d) (by simpa using e)
    exact ⟨v, by simpa using h1, h2⟩
theorem Dvs.append : ∀ {vs : List V} {ds : List D} {ws : List V} {es : List D}, Dvs K F vs ds → Dvs K F ws es → Dvs K F (vs ++ ws) (ds ++ es)
  | _, _, _, _, .nil, s => s
  | _, _, _, _, .cons h t, s => .cons h (t.append s)
theorem Dvs.snoc {vs : List V} {ds : List D} {v : V} {d : D} (h : Dvs K F vs ds) (h1 : Dv K F v d) : Dvs K F (vs ++ [v]) (ds ++ [d]) := h.append (.cons h1 .nil)
theorem Dvs.take : ∀ {vs : List V} {ds : List D} (n : Nat), Dvs K F vs ds → Dvs K F (vs.take n) (ds.take n)
  | _, _, 0, _ => .nil
  | _, _, _ + 1, .nil => .nil
  | _, _, n + 1, .cons h t => .cons h (t.take n)
theorem Dvs.drop : ∀ {vs : List V} {ds : List D} (n : Nat), Dvs K F vs ds → Dvs K F (vs.drop n) (ds.drop n)
  | _, _, 0, r => r
  | _, _, _ + 1, .nil => .nil
  | _, _, n + 1, .cons _ t => t.drop n
theorem Dvs.set {v : V} {d : D} (h : Dv K F v d) : ∀ {vs : List V} {ds : List D} (i : Nat), Dvs K F vs ds → Dvs K F (vs.set i v) (ds.set i d)
  | _, _, _, .nil => .nil
  | _, _, 0, .cons _ t => .cons h t
  | _, _, i + 1, .cons q t => .cons q (t.set h i)
theorem Dvs.reverse : ∀ {vs : List V} {ds : List D}, Dvs K F vs ds → Dvs K F vs.reverse ds.reverse
  | _, _, .nil => .nil
  | _, _, .cons h t => by rw [List.reverse_cons, List.reverse_cons]; exact t.reverse.snoc h
theorem Dvs.ints : ∀ {vs : List V} {ns : List Int}, Dvs K F vs (ns.map D.int) → vs = ns.map V.int
  | _, [], h => by cases h; rfl
  | _, n :: ns, h => by
    cases h with
    | cons h t => cases h; rw [t.ints]; rfl
theorem Dvs.bls : ∀ {vs : List V} {ns : List Bool}, Dvs K F vs (ns.map D.bl) → vs = ns.map V.bl
  | _, [], h => by cases h; rfl
  | _, n :: ns, h => by
    cases h with
    | cons h t => cases h; rw [t.bls]; rfl
theorem Dvs.strs : ∀ {vs : List V} {ns : List Str}, Dvs K F vs (ns.map D.str) → vs = ns.map V.str
  | _, [], h => by cases h; rfl
  | _, n :: ns, h => by
    cases h with
    | cons h t => cases h; rw [t.strs]; rfl
theorem Dvs.of_ints : ∀ {ns : List Int}, Dvs K F (ns.map V.int) (ns.map D.int)
  | [] => .nil
  | _ :: _ => .cons (.int _) .of_ints
/-- a value without parts -/
def D.flat : D → Bool
  | .non => true | .bl _ => true | .int _ => true | .str _ => true | _ => false
theorem Dv.flat {v : V} {d : D} (h : Dv K F v d) (hf : d.flat = true) {F2 : Hp} : Dv K F2 v d := by
  cases h with
  | non => exact .non
  | bl b => exact .bl b
  | int i => exact .int i
  | str s => exact .str s
  | lst _ _ => cases hf
  | tup _ _ => cases hf
  | dct _ _ => cases hf
end

/-! ### steps: what is frozen (F) and what stands (H) grow -/
structure Stp (F H F' H' : Hp) : Prop where
  ff : Ex F F'
  fh : Ex F' H'
  hh : Ex H H'
  nw : ∀ p o, F' p = some o → F p = some o ∨ H p = none
theorem Stp.refl {F H : Hp} (e : Ex F H) : Stp F H F H := ⟨Ex.refl F, e, Ex.refl H, fun _ _ h => .inl h⟩
theorem Stp.trans {F H F1 H1 F2 H2 : Hp} (a : Stp F H F1 H1) (b : Stp F1 H1 F2 H2) : Stp F H F2 H2 :=
  ⟨a.ff.trans b.ff, b.fh, a.hh.trans b.hh, fun p o h => by
    rcases b.nw p o h with h | h
    · exact a.nw p o h
    · exact .inr (a.hh.back h)⟩
theorem Stp.new {F H : Hp} {p : Addr} {o : HO} (e : Ex F H) (h : H p = none) : Stp F H (upd F p o) (upd H p o) where
  ff := Ex.new (e.back h)
  fh := fun a u q => by
    by_cases z : a = p
    · subst z; rw [upd_same] at q ⊢; exact q
    · rw [upd_ne z] at q ⊢; exact e a u q
  hh := Ex.new h
  nw := fun a u q => by
    by_cases z : a = p
    · subst z; exact .inr h
    · rw [upd_ne z] at q; exact .inl q
/-- a new object that is not frozen -/
theorem Stp.own {F H : Hp} {p : Addr} {o : HO} (e : Ex F H) (h : H p = none) : Stp F H F (upd H p o) where
  ff := Ex.refl F
  fh := e.trans (Ex.new h)
  hh := Ex.new h
  nw := fun _ _ q => .inl q

/-! ### slots -/
/-- what stays true while the frozen part grows -/
structure Pers where
  p : Hp → Prop
  mono : ∀ F F', Ex F F' → p F → p F'
abbrev Pers.yes : Pers := ⟨fun _ => True, fun _ _ _ h => h⟩
inductive Sl where
  | val (d : D) | own (ds : List D) | any | raw (v : V) (P : Pers)
structure Hd (K : PySem.W.Frag) (B F H : Hp) (ρ : List Sl) (σ : L2.St) : Prop where
  fh : Ex F H
  val : ∀ (i : Nat) (d : D), ρ[i]? = some (.val d) → ∃ v, σ[i]? = some (some v) ∧ Dv K F v d
  own : ∀ (i : Nat) (ds : List D), ρ[i]? = some (.own ds) → ∃ p vs, σ[i]? = some (some (.ref p)) ∧ B p = none ∧ F p = none ∧ H p = some (.lst vs) ∧ Dvs K F vs ds
  sep : ∀ (i j : Nat) (ds es : List D) (p : Addr), ρ[i]? = some (.own ds) → ρ[j]? = some (.own es) → σ[i]? = some (some (.ref p)) → σ[j]? = some (some (.ref p)) → i = j
  len : σ.length = ρ.length
  raw : ∀ (i : Nat) (v : V) (P : Pers), ρ[i]? = some (.raw v P) → σ[i]? = some (some v) ∧ P.p F
section
variable {K : PySem.W.Frag} {B F H F' H' : Hp} {ρ : List Sl} {σ : L2.St}
theorem Hd.step (h : Hd K B F H ρ σ) (s : Stp F H F' H') : Hd K B F' H' ρ σ where
  fh := s.fh
  val := fun i d e => by
    obtain ⟨v, h1, h2⟩ := h.val i d e
    exact ⟨v, h1, h2.mono s.ff⟩
  own := fun i ds e => by
    obtain ⟨p, vs, h1, hb, h2, h3, h4⟩ := h.own i ds e
    refine ⟨p, vs, h1, hb, ?_, s.hh _ _ h3, h4.mono s.ff⟩
    cases q : F' p with
    | none => rfl
    | some o =>
      rcases s.nw p o q with z | z
      · rw [h2] at z; cases z
      · rw [h3] at z; cases z
  sep := h.sep
  len := h.len
  raw := fun i v P e => ⟨(h.raw i v P e).1, P.mono _ _ s.ff (h.raw i v P e).2⟩
theorem Hd.set (h : Hd K B F H ρ σ) {v : V} {d : D} (hv : Dv K F v d) (i : Nat) : Hd K B F H (ρ.set i (.val d)) (σ.set i (some v)) where
  fh := h.fh
  val := fun j e q => by
    by_cases z : i = j
    · subst z
      have hl : i < ρ.length := by
        cases hh : (ρ.set i (Sl.val d))[i]? with
        | none => rw [hh] at q; cases q
        | some x => have := List.getElem?_eq_some_iff.mp hh; obtain ⟨w, _⟩ := this; simpa using w
      rw [List.getElem?_set_self hl] at q
      cases q
      exact ⟨v, by rw [List.getElem?_set_self (by rw [h.len]; exact hl)], hv⟩
    · rw [List.getElem?_set_ne z] at q
      rw [List.getElem?_set_ne z]
      exact h.val j e q
  own := fun j e q => by
    by_cases z : i = j
    · subst z
      have hl : i < ρ.length := by
        cases hh : (ρ.set i (Sl.val d))[i]? with
        | none => rw [hh] at q; cases q
        | some x => have := List.getElem?_eq_some_iff.mp hh; obtain ⟨w, _⟩ := this; simpa using w
      rw [List.getElem?_set_self hl] at q
      cases q
    · rw [List.getElem?_set_ne z] at q
      rw [List.getElem?_set_ne z]
      exact h.own j e q
  sep := fun a b ds es p ha hb qa qb => by
    by_cases z : i = a
    · subst z
      have hl : i < ρ.length := by
        have := List.getElem?_eq_some_iff.mp ha; obtain ⟨w, _⟩ := this; simpa using w
      rw [List.getElem?_set_self hl] at ha
      cases ha
    · by_cases y : i = b
      · subst y
        have hl : i < ρ.length := by
          have := List.getElem?_eq_some_iff.mp hb; obtain ⟨w, _⟩ := this; simpa using w
        rw [List.getElem?_set_self hl] at hb
        cases hb
      · rw [List.getElem?_set_ne z] at ha qa
        rw [List.getElem?_set_ne y] at hb qb
        exact h.sep a b ds es p ha hb qa qb
  len := by rw [List.length_set, List.length_set, h.len]
  raw := fun j e P q => by
    by_cases z : i = j
    · subst z
      have hl : i < ρ.length := by
        have := List.getElem?_eq_some_iff.mp q; obtain ⟨w, _⟩ := this; simpa using w
      rw [List.getElem?_set_self hl] at q
      cases q
    · rw [List.getElem?_set_ne z] at q
      rw [List.getElem?_set_ne z]
      exact h.raw j e P q
/-- an owned list comes to slot i -/
theorem Hd.setOwn (h : Hd K B F H ρ σ) {p : Addr} {vs : List V} {ds : List D} (hb : B p = none) (hf : F p = none) (hH : H p = some (.lst vs)) (hv : Dvs K F vs ds)
    (no : ∀ (j : Nat) (es : List D), ρ[j]? = some (.own es) → j ≠ i → σ[j]? ≠ some (some (.ref p))) (i0 : i = i) : Hd K B F H (ρ.set i (.own ds)) (σ.set i (some (.ref p))) where
  fh := h.fh
  val := fun j e q => by
    by_cases z : i = j
    · subst z
      have hl : i < ρ.length := by
        have := List.getElem?_eq_some_iff.mp q; obtain ⟨w, _⟩ := this; simpa using w
      rw [List.getElem?_set_self hl] at q
      cases q
    · rw [List.getElem?_set_ne z] at q
      rw [List.getElem?_set_ne z]
      exact h.val j e q
  own := fun j e q => by
    by_cases z : i = j
    · subst z
      have hl : i < ρ.length := by
        have := List.getElem?_eq_some_iff.mp q; obtain ⟨w, _⟩ := this; simpa using w
      rw [List.getElem?_set_self hl] at q
      cases q
      exact ⟨p, vs, by rw [List.getElem?_set_self (by rw [h.len]; exact hl)], hb, hf, hH, hv⟩
    · rw [List.getElem?_set_ne z] at q
      rw [List.getElem?_set_ne z]
      exact h.own j e q
  sep := fun a b ds' es' p' ha hb' qa qb => by
    by_cases z : i = a
    · by_cases y : i = b
      · rw [← z, ← y]
      · subst z
        have hl : i < σ.length := by
          have := List.getElem?_eq_some_iff.mp qa; obtain ⟨w, _⟩ := this; simpa using w
        rw [List.getElem?_set_self hl] at qa
        rw [List.getElem?_set_ne y] at hb' qb
        cases qa
        exact absurd qb (no b es' hb' (Ne.symm y))
    · by_cases y : i = b
      · subst y
        have hl : i < σ.length := by
          have := List.getElem?_eq_some_iff.mp qb; obtain ⟨w, _⟩ := this; simpa using w
        rw [List.getElem?_set_self hl] at qb
        rw [List.getElem?_set_ne z] at ha qa
        cases qb
        exact absurd qa (no a ds' ha (Ne.symm z))
      · rw [List.getElem?_set_ne z] at ha qa
        rw [List.getElem?_set_ne y] at hb' qb
        exact h.sep a b ds' es' p' ha hb' qa qb
  len := by rw [List.length_set, List.length_set, h.len]
  raw := fun j e P q => by
    by_cases z : i = j
    · subst z
      have hl : i < ρ.length := by
        have := List.getElem?_eq_some_iff.mp q; obtain ⟨w, _⟩ := this; simpa using w
      rw [List.getElem?_set_self hl] at q
      cases q
    · rw [List.getElem?_set_ne z] at q
      rw [List.getElem?_set_ne z]
      exact h.raw j e P q
theorem Hd.forget (h : Hd K B F H ρ σ) (i : Nat) (x : Option V) : Hd K B F H (ρ.set i .any) (σ.set i x) where
  fh := h.fh
  val := fun j e q => by
    by_cases z : i = j
    · subst z
      have hl : i < ρ.length := by
        have := List.getElem?_eq_some_iff.mp q; obtain ⟨w, _⟩ := this; simpa using w
      rw [List.getElem?_set_self hl] at q
      cases q
    · rw [List.getElem?_set_ne z] at q
      rw [List.getElem?_set_ne z]
      exact h.val j e q
  own := fun j e q => by
    by_cases z : i = j
    · subst z
      have hl : i < ρ.length := by
        have := List.getElem?_eq_some_iff.mp q; obtain ⟨w, _⟩ := this; simpa using w
      rw [List.getElem?_set_self hl] at q
      cases q
    · rw [List.getElem?_set_ne z] at q
      rw [List.getElem?_set_ne z]
      exact h.own j e q
  sep := fun a b ds es p ha hb qa qb => by
    by_cases z : i = a
    · subst z
      have hl : i < ρ.length := by
        have := List.getElem?_eq_some_iff.mp ha; obtain ⟨w, _⟩ := this; simpa using w
      rw [List.getElem?_set_self hl] at ha
      cases ha
    · by_cases y : i = b
      · subst y
        have hl : i < ρ.length := by
          have := List.getElem?_eq_some_iff.mp hb; obtain ⟨w, _⟩ := this; simpa using w
        rw [List.getElem?_set_self hl] at hb
        cases hb
      · rw [List.getElem?_set_ne z] at ha qa
        rw [List.getElem?_set_ne y] at hb qb
        exact h.sep a b ds es p ha hb qa qb
  len := by rw [List.length_set, List.length_set, h.len]
  raw := fun j e P q => by
    by_cases z : i = j
    · subst z
      have hl : i < ρ.length := by
        have := List.getElem?_eq_some_iff.mp q; obtain ⟨w, _⟩ := this; simpa using w
      rw [List.getElem?_set_self hl] at q
      cases q
    · rw [List.getElem?_set_ne z] at q
      rw [List.getElem?_set_ne z]
      exact h.raw j e P q
/-- an owned list is frozen -/
theorem Hd.freeze (h : Hd K B F H ρ σ) {i : Nat} {ds : List D} (hi : ρ[i]? = some (.own ds)) :
    ∃ p vs, σ[i]? = some (some (.ref p)) ∧ B p = none ∧ F p = none ∧ H p = some (.lst vs) ∧ Dvs K F vs ds ∧ Hd K B (upd F p (.lst vs)) H (ρ.set i (.val (.lst ds))) σ := by
  obtain ⟨p, vs, h1, hb, h2, h3, h4⟩ := h.own i ds hi
  have ef : Ex F (upd F p (.lst vs)) := Ex.new h2
  have hl : i < ρ.length := (List.getElem?_eq_some_iff.mp hi).1
  refine ⟨p, vs, h1, hb, h2, h3, h4, ⟨fun a o q => ?_, fun j d q => ?_, fun j es q => ?_, fun a b xs ys q ha hb' qa qb => ?_, by rw [List.length_set]; exact h.len, fun j v P q => ?_⟩⟩
  · by_cases z : a = p
    · subst z; rw [upd_same] at q; cases q; exact h3
    · rw [upd_ne z] at q; exact h.fh a o q
  · by_cases z : i = j
    · subst z
      rw [List.getElem?_set_self hl] at q
      cases q
      exact ⟨_, h1, .lst (.inl (.inl upd_same)) (h4.mono ef)⟩
    · rw [List.getElem?_set_ne z] at q
      obtain ⟨v, e1, e2⟩ := h.val j d q
      exact ⟨v, e1, e2.mono ef⟩
  · by_cases z : i = j
    · subst z
      rw [List.getElem?_set_self hl] at q
      cases q
    · rw [List.getElem?_set_ne z] at q
      obtain ⟨p', ws, e1, e2, e3, e4, e5⟩ := h.own j es q
      have ne : p' ≠ p := fun e => by
        subst e
        exact z (h.sep i j ds es p' hi q h1 e1)
      exact ⟨p', ws, e1, e2, by rw [upd_ne ne]; exact e3, e4, e5.mono ef⟩
  · by_cases z : i = a
    · subst z
      rw [List.getElem?_set_self hl] at ha
      cases ha
    · by_cases y : i = b
      · subst y
        rw [List.getElem?_set_self hl] at hb'
        cases hb'
      · rw [List.getElem?_set_ne z] at ha
        rw [List.getElem?_set_ne y] at hb'
        exact h.sep a b xs ys q ha hb' qa qb
  · by_cases z : i = j
    · subst z
      rw [List.getElem?_set_self hl] at q
      cases q
    · rw [List.getElem?_set_ne z] at q
      exact ⟨(h.raw j v P q).1, P.mono _ _ ef (h.raw j v P q).2⟩
/-- an owned list is written anew -/
theorem Hd.write (h : Hd K B F H ρ σ) {i : Nat} {ds es : List D} {p : Addr} {ws : List V} (hi : ρ[i]? = some (.own ds)) (hp : σ[i]? = some (some (.ref p))) (hF : F p = none) (hw : Dvs K F ws es) :
    Hd K B F (upd H p (.lst ws)) (ρ.set i (.own es)) σ := by
  obtain ⟨p0, vs, h1, hb, h2, h3, h4⟩ := h.own i ds hi
  have e0 : p0 = p := by rw [hp] at h1; cases h1; rfl
  subst e0
  have hl : i < ρ.length := (List.getElem?_eq_some_iff.mp hi).1
  refine ⟨fun a o q => ?_, fun j d q => ?_, fun j xs q => ?_, fun a b xs ys q ha hb' qa qb => ?_, by rw [List.length_set]; exact h.len, fun j v P q => ?_⟩
  · rw [upd_ne (ne_of_none q hF)]; exact h.fh a o q
  · by_cases z : i = j
    · subst z
      rw [List.getElem?_set_self hl] at q
      cases q
    · rw [List.getElem?_set_ne z] at q
      exact h.val j d q
  · by_cases z : i = j
    · subst z
      rw [List.getElem?_set_self hl] at q
      cases q
      exact ⟨p0, ws, hp, hb, hF, upd_same, hw⟩
    · rw [List.getElem?_set_ne z] at q
      obtain ⟨p', us, e1, e2, e3, e4, e5⟩ := h.own j xs q
      have ne : p' ≠ p0 := fun e => by
        subst e
        exact z (h.sep i j ds xs p' hi q hp e1)
      exact ⟨p', us, e1, e2, e3, by rw [upd_ne ne]; exact e4, e5⟩
  · by_cases z : i = a
    · by_cases y : i = b
      · rw [← z, ← y]
      · subst z
        rw [List.getElem?_set_ne y] at hb'
        exact h.sep i b ds ys q hi hb' qa qb
    · by_cases y : i = b
      · subst y
        rw [List.getElem?_set_ne z] at ha
        exact h.sep a i xs ds q ha hi qa qb
      · rw [List.getElem?_set_ne z] at ha
        rw [List.getElem?_set_ne y] at hb'
        exact h.sep a b xs ys q ha hb' qa qb
  · by_cases z : i = j
    · subst z
      rw [List.getElem?_set_self hl] at q
      cases q
    · rw [List.getElem?_set_ne z] at q
      exact h.raw j v P q
theorem Hd.setRaw (h : Hd K B F H ρ σ) (v : V) (P : Pers) (hP : P.p F) (i : Nat) : Hd K B F H (ρ.set i (.raw v P)) (σ.set i (some v)) where
  fh := h.fh
  val := fun j e q => by
    by_cases z : i = j
    · subst z
      have hl : i < ρ.length := by
        have := List.getElem?_eq_some_iff.mp q; obtain ⟨w, _⟩ := this; simpa using w
      rw [List.getElem?_set_self hl] at q
      cases q
    · rw [List.getElem?_set_ne z] at q
      rw [List.getElem?_set_ne z]
      exact h.val j e q
  own := fun j e q => by
    by_cases z : i = j
    · subst z
      have hl : i < ρ.length := by
        have := List.getElem?_eq_some_iff.mp q; obtain ⟨w, _⟩ := this; simpa using w
      rw [List.getElem?_set_self hl] at q
      cases q
    · rw [List.getElem?_set_ne z] at q
      rw [List.getElem?_set_ne z]
      exact h.own j e q
  sep := fun a b ds es p ha hb qa qb => by
    by_cases z : i = a
    · subst z
      have hl : i < ρ.length := by
        have := List.getElem?_eq_some_iff.mp ha; obtain ⟨w, _⟩ := this; simpa using w
      rw [List.getElem?_set_self hl] at ha
      cases ha
    · by_cases y : i = b
      · subst y
        have hl : i < ρ.length := by
          have := List.getElem?_eq_some_iff.mp hb; obtain ⟨w, _⟩ := this; simpa using w
        rw [List.getElem?_set_self hl] at hb
        cases hb
      · rw [List.getElem?_set_ne z] at ha qa
        rw [List.getElem?_set_ne y] at hb qb
        exact h.sep a b ds es p ha hb qa qb
  len := by rw [List.length_set, List.length_set, h.len]
  raw := fun j e P' q => by
    by_cases z : i = j
    · subst z
      have hl : i < ρ.length := by
        have := List.getElem?_eq_some_iff.mp q; obtain ⟨w, _⟩ := this; simpa using w
      rw [List.getElem?_set_self hl] at q
      cases q
      exact ⟨by rw [List.getElem?_set_self (by rw [h.len]; exact hl)], hP⟩
    · rw [List.getElem?_set_ne z] at q
      rw [List.getElem?_set_ne z]
      exact h.raw j e P' q
end
end Yp

namespace Yp
open PySem PySem.Spec PyProof.Rows L2

/-- the places where one piece of text may run: the def's frame, or a comprehension's block in it -/
structure Fam (K : PySem.W.Frag) : Type 1 where
  ι : Type
  X : ι → Cx
  hK : ∀ j, (X j).K = K
  /-- what is wished of an exception -/
  W : WX
  tk : ∀ j, Takes (X j) W
/-- no exception is let out -/
abbrev W0 : WX := fun _ _ _ _ => False
abbrev Fam.blk {K : PySem.W.Frag} (X : Fam K) (scope : Scope) : Fam K :=
  ⟨X.ι × Shared × Hp × Addr × List (Str × Addr) × List Addr, fun j => (X.X j.1).blk j.2.1 j.2.2.1 scope (compEnvC scope j.2.2.2.2.1 j.2.2.2.1 (X.X j.1).env) j.2.2.2.2.2, fun j => X.hK j.1, W0, fun _ => takes0⟩

section
variable {K : PySem.W.Frag} (X : Fam K)
def WE (e : Expr) : TE := fun σ H Q => ∃ t, (∀ j, PE (X.X j) e t) ∧ t σ H Q
def WT (e : Expr) : TT := fun σ H Q => ∃ t, (∀ j, PT (X.X j) e t) ∧ t σ H Q
def WA (e : List Expr) : TA := fun σ H Q => ∃ t, (∀ j, PA (X.X j) e t) ∧ t σ H Q
def WS (e : Stmt) : TS := fun D σ H => ∃ t, (∀ j, PS (X.X j) e t) ∧ t D σ H
def WSs (e : List Stmt) : TS := fun D σ H => ∃ t, (∀ j, PSs (X.X j) e t) ∧ t D σ H
def WG (e : Expr) : TG := fun v σ H Q => ∃ t, (∀ j, PG (X.X j) e t) ∧ t v σ H Q
def WGs (e : List Expr) : TGs := fun v σ H Q => ∃ t, (∀ j, PGs (X.X j) e t) ∧ t v σ H Q
def WI (tg iter : Expr) : TI := fun σ H R => ∃ t, (∀ j, PI (X.X j) tg iter t) ∧ t σ H R
variable {X}
theorem pe_w {e : Expr} (j : X.ι) : PE (X.X j) e (WE X e) := ⟨fun pins s σ H Q I ⟨t, h, q⟩ => (h j).run pins s σ H Q I q⟩
theorem pt_w {e : Expr} (j : X.ι) : PT (X.X j) e (WT X e) := ⟨fun pins s σ H Q I ⟨t, h, q⟩ => (h j).run pins s σ H Q I q⟩
theorem pa_w {e : List Expr} (j : X.ι) : PA (X.X j) e (WA X e) := ⟨fun pos pins s σ H Q I ⟨t, h, q⟩ => (h j).run pos pins s σ H Q I q⟩
theorem ps_w {e : Stmt} (j : X.ι) : PS (X.X j) e (WS X e) := ⟨fun pins s σ H D I ⟨t, h, q⟩ => (h j).run pins s σ H D I q⟩
theorem pss_w {e : List Stmt} (j : X.ι) : PSs (X.X j) e (WSs X e) := ⟨fun pins s σ H D I ⟨t, h, q⟩ => (h j).run pins s σ H D I q⟩
theorem pg_w {e : Expr} (j : X.ι) : PG (X.X j) e (WG X e) := ⟨fun pins s σ H v u Q I r ⟨t, h, q⟩ => (h j).run pins s σ H v u Q I r q⟩
theorem pgs_w {e : List Expr} (j : X.ι) : PGs (X.X j) e (WGs X e) := ⟨fun pins s σ H v u Q I r ⟨t, h, q⟩ => (h j).run pins s σ H v u Q I r q⟩
theorem pi_w {tg e : Expr} (j : X.ι) : PI (X.X j) tg e (WI X tg e) := ⟨fun pins s σ H R I ⟨t, h, q⟩ => (h j).run pins s σ H R I q⟩
end

section
variable {K : PySem.W.Frag}
/-! ### what a piece of text comes to, in data -/
def DE (X : Fam K) (e : Expr) (ρ : List Sl) (d : D) : Prop := ∀ B F H σ (Q : VK), Hd K B F H ρ σ → (∀ v F' H', Stp F H F' H' → Dv K F' v d → Q v H') → WE X e σ H Q
def DT (X : Fam K) (e : Expr) (ρ : List Sl) (b : Bool) : Prop := ∀ B F H σ (Q : Bool → Hp → Prop), Hd K B F H ρ σ → (∀ F' H', Stp F H F' H' → Q b H') → WT X e σ H Q
def DA (X : Fam K) (e : List Expr) (ρ : List Sl) (ds : List D) : Prop := ∀ B F H σ (Q : List V → Hp → Prop), Hd K B F H ρ σ → (∀ vs F' H', Stp F H F' H' → Dvs K F' vs ds → Q vs H') → WA X e σ H Q
/-- a new list of one's own -/
def DL (X : Fam K) (e : Expr) (ρ : List Sl) (ds : List D) : Prop := ∀ B F H σ (Q : VK), Hd K B F H ρ σ → (∀ p vs F' H', Stp F H F' H' → H p = none → F' p = none → H' p = some (.lst vs) → Dvs K F' vs ds → Q (.ref p) H') → WE X e σ H Q

variable {X : Fam K} {ρ : List Sl} {a b c e : Expr} {da db dc d : D} {pos : Pos}
theorem DL.de {ds : List D} (h : DL X e ρ ds) : DE X e ρ (.lst ds) := fun B F H σ Q hd q => h B F H σ Q hd fun p vs F' H' s hp hf hH hv =>
  q _ (upd F' p (.lst vs)) H' ⟨s.ff.trans (Ex.new hf), fun a o z => by
    by_cases y : a = p
    · subst y; rw [upd_same] at z; cases z; exact hH
    · rw [upd_ne y] at z; exact s.fh a o z, s.hh, fun a o z => by
    by_cases y : a = p
    · subst y; exact .inr hp
    · rw [upd_ne y] at z; exact s.nw a o z⟩ (.lst (.inl (.inl upd_same)) (hv.mono (Ex.new hf)))
theorem DE.is {d' : D} (h : DE X e ρ d) (q : d = d') : DE X e ρ d' := q ▸ h
theorem DT.is {b b' : Bool} (h : DT X e ρ b) (q : b = b') : DT X e ρ b' := q ▸ h
theorem DL.is {b b' : List D} (h : DL X e ρ b) (q : b = b') : DL X e ρ b' := q ▸ h
theorem DA.is {b b' : List D} {e : List Expr} (h : DA X e ρ b) (q : b = b') : DA X e ρ b' := q ▸ h

/-! names, constants -/
theorem de_var (i : Nat) {x : Str} (hi : ρ[i]? = some (.val d)) (hN : ∀ j, (X.X j).N[i]? = some x := by intro _; rfl)
    (hv : ∀ j, Vis (X.X j).env.scope x := by first | exact fun _ => Or.inl rfl | exact fun _ => Or.inr (Or.inl rfl) | exact fun _ => Or.inr (Or.inr rfl)) (hd : (x == ("__debug__" : Str)) = false := by decide)
    (hcd : (x == ("__classdict__" : Str)) = false := by decide) : DE X (.Name x pos) ρ d := fun B F H σ Q hh q => by
  obtain ⟨v, h1, h2⟩ := hh.val i d hi
  exact ⟨tVar i, fun j => pe_var (hN j) (hv j) hd hcd, v, h1, q v F H (Stp.refl hh.fh) h2⟩
theorem de_int {i : Int} {j : Nat} : DE X (.Constant (.int i) j pos) ρ (.int i) := fun B F H σ Q hh q => ⟨_, fun _ => pe_int, q _ F H (Stp.refl hh.fh) (.int i)⟩
theorem de_bl {i : Bool} {j : Nat} : DE X (.Constant (.bool i) j pos) ρ (.bl i) := fun B F H σ Q hh q => ⟨_, fun _ => pe_bl, q _ F H (Stp.refl hh.fh) (.bl i)⟩
theorem de_str {i : Str} {j : Nat} : DE X (.Constant (.str i) j pos) ρ (.str i) := fun B F H σ Q hh q => ⟨_, fun _ => pe_str, q _ F H (Stp.refl hh.fh) (.str i)⟩
theorem de_non {j : Nat} : DE X (.Constant .none j pos) ρ .non := fun B F H σ Q hh q => ⟨_, fun _ => pe_non, q _ F H (Stp.refl hh.fh) .non⟩
/-- a constant of the module without parts -/
theorem de_glob {x : Str} {v : V} {u : Value} (hm : ∀ j, (X.X j).mg x = some u) (r : RelV v u) (hv : ∀ F, Dv K F v d) (hg : ∀ j, Gl (X.X j) x := by intro _; rfl) (hd : (x == ("__debug__" : Str)) = false := by decide) : DE X (.Name x pos) ρ d :=
  fun B F H σ Q hh q => ⟨_, fun j => pe_glob (hg j) (hm j) r hd, q _ F H (Stp.refl hh.fh) (hv F)⟩

/-! a look at an owned list -/
theorem de_borrow (i : Nat) {ds : List D} (hi : ρ[i]? = some (.own ds)) (hf : d.flat = true) (h : DE X e (ρ.set i (.val (.lst ds))) d) : DE X e ρ d := fun B F H σ Q hh q => by
  obtain ⟨p, vs, h1, hb, h2, h3, h4, hz⟩ := hh.freeze hi
  exact h B _ H σ Q hz fun v F' H' s hv => q v F H' ⟨Ex.refl F, hh.fh.trans s.hh, s.hh, fun _ _ z => .inl z⟩ (hv.flat hf)
theorem dt_borrow (i : Nat) {ds : List D} {b : Bool} (hi : ρ[i]? = some (.own ds)) (h : DT X e (ρ.set i (.val (.lst ds))) b) : DT X e ρ b := fun B F H σ Q hh q => by
  obtain ⟨p, vs, h1, hb, h2, h3, h4, hz⟩ := hh.freeze hi
  exact h B _ H σ Q hz fun F' H' s => q F H' ⟨Ex.refl F, hh.fh.trans s.hh, s.hh, fun _ _ z => .inl z⟩

/-! operators -/
def OpD (X : Fam K) (op : Operator) (da db d : D) : Prop := ∃ r : R2, (∀ j, OpR (X.X j) (binaryOp op) r) ∧ ∀ F H x y (Q : VK), Ex F H → Dv K F x da → Dv K F y db → (∀ v F' H', Stp F H F' H' → Dv K F' v d → Q v H') → r x y H Q
def CmD (X : Fam K) (op : CmpOp) (da db : D) (k : Bool) : Prop := ∃ r : R2, (∀ j, OpR (X.X j) (compareOp op) r) ∧ ∀ F H x y (Q : VK), Ex F H → Dv K F x da → Dv K F y db → (∀ F' H', Stp F H F' H' → Q (.bl k) H') → r x y H Q
theorem de_bin {op : Operator} (ha : DE X a ρ da) (hb : DE X b ρ db) (ho : OpD X op da db d) : DE X (.BinOp a op b pos) ρ d := fun B F H σ Q hh q => by
  obtain ⟨r, h1, h2⟩ := ho
  refine ⟨tOp r (WE X a) (WE X b), fun j => pe_op (h1 j) (pe_w j) (pe_w j), ?_⟩
  refine ha B F H σ _ hh fun x F1 H1 s1 v1 => hb B F1 H1 σ _ (hh.step s1) fun y F2 H2 s2 v2 => ?_
  exact h2 F2 H2 x y Q s2.fh (v1.mono s2.ff) v2 fun v F' H' s3 v3 => q v F' H' ((s1.trans s2).trans s3) v3
theorem opd_I {op : Operator} {C : Int → Int → Prop} {g : Int → Int → Int} (h : ∀ Y : Cx, OpR Y (binaryOp op) (rI C fun i j => .int (g i j))) {i j : Int} (hc : C i j) : OpD X op (.int i) (.int j) (.int (g i j)) :=
  ⟨_, fun j => h _, fun F H x y Q e hx hy q => by cases hx; cases hy; exact ⟨i, j, rfl, rfl, hc, q _ F H (Stp.refl e) (.int _)⟩⟩
theorem opd_I0 {op : Operator} {g : Int → Int → Int} (h : ∀ Y : Cx, OpR Y (binaryOp op) (rI0 fun i j => .int (g i j))) {i j : Int} : OpD X op (.int i) (.int j) (.int (g i j)) :=
  ⟨_, fun j => h _, fun F H x y Q e hx hy q => by cases hx; cases hy; exact ⟨i, j, rfl, rfl, q _ F H (Stp.refl e) (.int _)⟩⟩
theorem opd_add {i j : Int} : OpD X .Add (.int i) (.int j) (.int (i + j)) := opd_I0 fun _ => op_add
theorem opd_sub {i j : Int} : OpD X .Sub (.int i) (.int j) (.int (i - j)) := opd_I0 fun _ => op_sub
theorem opd_mul {i j : Int} (h : CMul i j) : OpD X .Mult (.int i) (.int j) (.int (i * j)) := opd_I (fun _ => op_mul) h
theorem opd_div {i j : Int} (h : CDiv i j) : OpD X .FloorDiv (.int i) (.int j) (.int (i / j)) := opd_I (fun _ => op_fdiv) h
theorem opd_mod {i j : Int} (h : 0 < j) : OpD X .Mod (.int i) (.int j) (.int (i % j)) := opd_I (C := fun _ j => 0 < j) (fun _ => op_mod) h
theorem opd_pow {i j : Int} (h : CPow i j) : OpD X .Pow (.int i) (.int j) (.int (i ^ j.toNat)) := opd_I (fun _ => op_pow) h
theorem opd_addS {i j : Str} (h : i.length + j.length ≤ sizeLine) : OpD X .Add (.str i) (.str j) (.str (i ++ j)) :=
  ⟨_, fun _ => op_add_str, fun F H x y Q e hx hy q => by cases hx; cases hy; exact ⟨i, j, rfl, rfl, h, q _ F H (Stp.refl e) (.str _)⟩⟩
theorem de_neg {i : Int} (ha : DE X a ρ (.int i)) : DE X (.UnaryOp .USub a pos) ρ (.int (-i)) := fun B F H σ Q hh q =>
  ⟨tUn _ (WE X a), fun j => pe_un un_neg (pe_w j), ha B F H σ _ hh fun x F1 H1 s1 v1 => by cases v1; exact ⟨i, rfl, q _ F1 H1 s1 (.int _)⟩⟩

/-! comparisons -/
theorem de_cmp {op : CmpOp} {k : Bool} (ha : DE X a ρ da) (hb : DE X b ρ db) (ho : CmD X op da db k) (hm : behindInMarks op b = false := by first | exact nomark _ | rfl) : DE X (.Compare a [op] [b] pos) ρ (.bl k) := fun B F H σ Q hh q => by
  obtain ⟨r, h1, h2⟩ := ho
  refine ⟨tOp r (WE X a) (WE X b), fun j => pe_cmpR (h1 j) (pe_w j) (pe_w j) hm, ?_⟩
  refine ha B F H σ _ hh fun x F1 H1 s1 v1 => hb B F1 H1 σ _ (hh.step s1) fun y F2 H2 s2 v2 => ?_
  exact h2 F2 H2 x y Q s2.fh (v1.mono s2.ff) v2 fun F' H' s3 => q _ F' H' ((s1.trans s2).trans s3) (.bl k)
theorem dt_cmp {op : CmpOp} {k : Bool} (ha : DE X a ρ da) (hb : DE X b ρ db) (ho : CmD X op da db k) (hm : behindInMarks op b = false := by first | exact nomark _ | rfl) : DT X (.Compare a [op] [b] pos) ρ k := fun B F H σ Q hh q => by
  obtain ⟨r, h1, h2⟩ := ho
  refine ⟨tTest (tOp r (WE X a) (WE X b)), fun j => pt_cmpR (h1 j) (pe_w j) (pe_w j) hm, ?_⟩
  refine ha B F H σ _ hh fun x F1 H1 s1 v1 => hb B F1 H1 σ _ (hh.step s1) fun y F2 H2 s2 v2 => ?_
  exact h2 F2 H2 x y _ s2.fh (v1.mono s2.ff) v2 fun F' H' s3 => ⟨k, rfl, q F' H' ((s1.trans s2).trans s3)⟩
theorem de_chain {op op' : CmpOp} {k k' : Bool} (ha : DE X a ρ da) (hb : DE X b ρ db) (ho : CmD X op da db k) (hc : k = true → DE X c ρ dc) (ho' : k = true → CmD X op' db dc k')
    (hm : lastMarks [op, op'] [b, c] = false := by with_unfolding_all rfl) : DE X (.Compare a [op, op'] [b, c] pos) ρ (.bl (k && k')) := fun B F H σ Q hh q => by
  obtain ⟨r, h1, h2⟩ := ho
  cases k with
  | true =>
    obtain ⟨r', h1', h2'⟩ := ho' rfl
    refine ⟨tChain r r' (WE X a) (WE X b) (WE X c), fun j => pe_chain (h1 j) (h1' j) (pe_w j) (pe_w j) (pe_w j) hm, ?_⟩
    refine ha B F H σ _ hh fun x F1 H1 s1 v1 => hb B F1 H1 σ _ (hh.step s1) fun y F2 H2 s2 v2 => ?_
    refine h2 F2 H2 x y _ s2.fh (v1.mono s2.ff) v2 fun F3 H3 s3 => ⟨true, rfl, iteT ?_⟩
    refine hc rfl B F3 H3 σ _ ((hh.step (s1.trans s2)).step s3) fun z F4 H4 s4 v4 => ?_
    exact h2' F4 H4 y z Q s4.fh (v2.mono (s3.ff.trans s4.ff)) v4 fun F' H' s5 => q _ F' H' ((((s1.trans s2).trans s3).trans s4).trans s5) (.bl _)
  | false =>
    refine ⟨tChain r (fun _ _ _ _ => False) (WE X a) (WE X b) (WE X c), fun j => pe_chain (h1 j) (fun _ _ _ _ _ _ _ _ _ _ _ _ h => h.elim) (pe_w j) (pe_w j) (pe_w j) hm, ?_⟩
    refine ha B F H σ _ hh fun x F1 H1 s1 v1 => hb B F1 H1 σ _ (hh.step s1) fun y F2 H2 s2 v2 => ?_
    exact h2 F2 H2 x y _ s2.fh (v1.mono s2.ff) v2 fun F3 H3 s3 => ⟨false, rfl, iteF (q _ F3 H3 ((s1.trans s2).trans s3) (.bl _))⟩
theorem dt_chain {op op' : CmpOp} {k k' : Bool} (ha : DE X a ρ da) (hb : DE X b ρ db) (ho : CmD X op da db k) (hc : k = true → DE X c ρ dc) (ho' : k = true → CmD X op' db dc k')
    (hm : lastMarks [op, op'] [b, c] = false := by with_unfolding_all rfl) : DT X (.Compare a [op, op'] [b, c] pos) ρ (k && k') := fun B F H σ Q hh q => by
  obtain ⟨r, h1, h2⟩ := ho
  cases k with
  | true =>
    obtain ⟨r', h1', h2'⟩ := ho' rfl
    refine ⟨tTest (tChain r r' (WE X a) (WE X b) (WE X c)), fun j => pt_chain (h1 j) (h1' j) (pe_w j) (pe_w j) (pe_w j) hm, ?_⟩
    refine ha B F H σ _ hh fun x F1 H1 s1 v1 => hb B F1 H1 σ _ (hh.step s1) fun y F2 H2 s2 v2 => ?_
    refine h2 F2 H2 x y _ s2.fh (v1.mono s2.ff) v2 fun F3 H3 s3 => ⟨true, rfl, iteT ?_⟩
    refine hc rfl B F3 H3 σ _ ((hh.step (s1.trans s2)).step s3) fun z F4 H4 s4 v4 => ?_
    exact h2' F4 H4 y z _ s4.fh (v2.mono (s3.ff.trans s4.ff)) v4 fun F' H' s5 => ⟨_, rfl, q F' H' ((((s1.trans s2).trans s3).trans s4).trans s5)⟩
  | false =>
    refine ⟨tTest (tChain r (fun _ _ _ _ => False) (WE X a) (WE X b) (WE X c)), fun j => pt_chain (h1 j) (fun _ _ _ _ _ _ _ _ _ _ _ _ h => h.elim) (pe_w j) (pe_w j) (pe_w j) hm, ?_⟩
    refine ha B F H σ _ hh fun x F1 H1 s1 v1 => hb B F1 H1 σ _ (hh.step s1) fun y F2 H2 s2 v2 => ?_
    exact h2 F2 H2 x y _ s2.fh (v1.mono s2.ff) v2 fun F3 H3 s3 => ⟨false, rfl, iteF ⟨_, rfl, q F3 H3 ((s1.trans s2).trans s3)⟩⟩
theorem cmd_I {op : CmpOp} {g : Int → Int → Bool} (h : ∀ Y : Cx, OpR Y (compareOp op) (rI0 fun i j => .bl (g i j))) {i j : Int} : CmD X op (.int i) (.int j) (g i j) :=
  ⟨_, fun j => h _, fun F H x y Q e hx hy q => by cases hx; cases hy; exact ⟨i, j, rfl, rfl, q F H (Stp.refl e)⟩⟩
theorem cm_lt {i j : Int} : CmD X .Lt (.int i) (.int j) (decide (i < j)) := cmd_I fun _ => op_lt
theorem cm_le {i j : Int} : CmD X .LtE (.int i) (.int j) (decide (i ≤ j)) := cmd_I fun _ => op_le
theorem cm_gt {i j : Int} : CmD X .Gt (.int i) (.int j) (decide (j < i)) := cmd_I fun _ => op_gt
theorem cm_ge {i j : Int} : CmD X .GtE (.int i) (.int j) (decide (j ≤ i)) := cmd_I fun _ => op_ge
theorem cm_eqI {i j : Int} : CmD X .Eq (.int i) (.int j) (decide (i = j)) :=
  ⟨_, fun _ => op_eq, fun F H x y Q e hx hy q => by cases hx; cases hy; exact ⟨rfl, by rw [show decide (V.int i = V.int j) = decide (i = j) from by simp]; exact q F H (Stp.refl e)⟩⟩
theorem cm_neI {i j : Int} : CmD X .NotEq (.int i) (.int j) (!decide (i = j)) :=
  ⟨_, fun _ => op_ne, fun F H x y Q e hx hy q => by cases hx; cases hy; exact ⟨rfl, by rw [show decide (V.int i = V.int j) = decide (i = j) from by simp]; exact q F H (Stp.refl e)⟩⟩
theorem cm_eqS {i j : Str} : CmD X .Eq (.str i) (.str j) (decide (i = j)) :=
  ⟨_, fun _ => op_eq, fun F H x y Q e hx hy q => by cases hx; cases hy; exact ⟨rfl, by rw [show decide (V.str i = V.str j) = decide (i = j) from by simp]; exact q F H (Stp.refl e)⟩⟩
theorem cm_neS {i j : Str} : CmD X .NotEq (.str i) (.str j) (!decide (i = j)) :=
  ⟨_, fun _ => op_ne, fun F H x y Q e hx hy q => by cases hx; cases hy; exact ⟨rfl, by rw [show decide (V.str i = V.str j) = decide (i = j) from by simp]; exact q F H (Stp.refl e)⟩⟩
theorem cm_eqB {i j : Bool} : CmD X .Eq (.bl i) (.bl j) (decide (i = j)) :=
  ⟨_, fun _ => op_eq, fun F H x y Q e hx hy q => by cases hx; cases hy; exact ⟨rfl, by rw [show decide (V.bl i = V.bl j) = decide (i = j) from by simp]; exact q F H (Stp.refl e)⟩⟩
theorem cm_leS {i j : Str} : CmD X .LtE (.str i) (.str j) (!decide (j.cps.toList < i.cps.toList)) :=
  ⟨_, fun _ => op_le_str, fun F H x y Q e hx hy q => by cases hx; cases hy; exact ⟨i, j, rfl, rfl, q F H (Stp.refl e)⟩⟩

/-! and, or, not, if -/
theorem dt_val {k : Bool} (h : DE X e ρ (.bl k)) (he : ∀ j whole, isTrue e (X.X j).env whole = (do let v ← whole; standAt e.pos; holding [v] (truthy v)) := by intro _ _; rfl) : DT X e ρ k := fun B F H σ Q hh q =>
  ⟨tB (WE X e), fun j => pt_val (pe_w j) (he j), h B F H σ _ hh fun v F' H' s hv => by cases hv; exact ⟨k, rfl, q F' H' s⟩⟩
theorem dt_not {k : Bool} (h : DT X a ρ k) : DT X (.UnaryOp .Not a pos) ρ (!k) := fun B F H σ Q hh q => ⟨tNot (WT X a), fun j => pt_not (pt_w j), h B F H σ _ hh fun F' H' s => q F' H' s⟩
theorem de_not {k : Bool} (h : DE X a ρ (.bl k)) : DE X (.UnaryOp .Not a pos) ρ (.bl (!k)) := fun B F H σ Q hh q => ⟨tNotV (WE X a), fun j => pe_not (pe_w j), h B F H σ _ hh fun v F' H' s hv => by cases hv; exact ⟨k, rfl, q _ F' H' s (.bl _)⟩⟩
theorem de_one {op : BoolOp} (h : DE X a ρ d) : DE X (.BoolOp op [a] pos) ρ d := fun B F H σ Q hh q => ⟨WE X a, fun j => pe_one (pe_w j), h B F H σ _ hh q⟩
theorem de_and {k k' : Bool} {rest : List Expr} (h : DE X a ρ (.bl k)) (h2 : k = true → DE X (.BoolOp .And (b :: rest) pos) ρ (.bl k')) : DE X (.BoolOp .And (a :: b :: rest) pos) ρ (.bl (k && k')) := fun B F H σ Q hh q =>
  ⟨tAndV (WE X a) (WE X _), fun j => pe_and (pe_w j) (pe_w j), h B F H σ _ hh fun v F' H' s hv => by
    cases hv
    refine ⟨k, rfl, ?_⟩
    cases k with
    | true => exact iteT (h2 rfl B F' H' σ _ (hh.step s) fun v F2 H2 s2 hv => q v F2 H2 (s.trans s2) hv)
    | false => exact iteF (q _ F' H' s (.bl _))⟩
theorem de_or {k k' : Bool} {rest : List Expr} (h : DE X a ρ (.bl k)) (h2 : k = false → DE X (.BoolOp .Or (b :: rest) pos) ρ (.bl k')) : DE X (.BoolOp .Or (a :: b :: rest) pos) ρ (.bl (k || k')) := fun B F H σ Q hh q =>
  ⟨tOrV (WE X a) (WE X _), fun j => pe_or (pe_w j) (pe_w j), h B F H σ _ hh fun v F' H' s hv => by
    cases hv
    refine ⟨k, rfl, ?_⟩
    cases k with
    | true => exact iteT (q _ F' H' s (.bl _))
    | false => exact iteF (h2 rfl B F' H' σ _ (hh.step s) fun v F2 H2 s2 hv => q v F2 H2 (s.trans s2) hv)⟩
/-- a chain of and | or as a test -/
def DW (X : Fam K) (e : Expr) (ρ : List Sl) (b : Bool) : Prop := ∀ B F H σ (Q : Bool → Hp → Prop), Hd K B F H ρ σ → (∀ F' H', Stp F H F' H' → Q b H') → ∃ t, (∀ j, PW (X.X j) e t) ∧ t σ H Q
def WW (X : Fam K) (e : Expr) : TT := fun σ H Q => ∃ t, (∀ j, PW (X.X j) e t) ∧ t σ H Q
theorem pw_w (j : X.ι) : PW (X.X j) e (WW X e) := ⟨fun wh pins s σ H Q I ⟨t, h, q⟩ => (h j).run wh pins s σ H Q I q⟩
theorem DW.dt {k : Bool} (h : DW X e ρ k) : DT X e ρ k := fun B F H σ Q hh q => by
  obtain ⟨t, h1, h2⟩ := h B F H σ Q hh q
  exact ⟨t, fun j => (h1 j).pt, h2⟩
theorem dw_and1 {k : Bool} (h : DT X a ρ k) : DW X (.BoolOp .And [a] pos) ρ k := fun B F H σ Q hh q => ⟨WT X a, fun j => pw_and1 (pt_w j), h B F H σ Q hh q⟩
theorem dw_or1 {k : Bool} (h : DT X a ρ k) : DW X (.BoolOp .Or [a] pos) ρ k := fun B F H σ Q hh q => ⟨WT X a, fun j => pw_or1 (pt_w j), h B F H σ Q hh q⟩
theorem dw_and {k k' : Bool} {rest : List Expr} (h : DT X a ρ k) (h2 : k = true → DW X (.BoolOp .And (b :: rest) pos) ρ k') : DW X (.BoolOp .And (a :: b :: rest) pos) ρ (k && k') := fun B F H σ Q hh q =>
  ⟨tAnd (WT X a) (WW X _), fun j => pw_and (pt_w j) (pw_w j), h B F H σ _ hh fun F' H' s => by
    cases k with
    | true => exact iteT (h2 rfl B F' H' σ _ (hh.step s) fun F2 H2 s2 => q F2 H2 (s.trans s2))
    | false => exact iteF (q F' H' s)⟩
theorem dw_or {k k' : Bool} {rest : List Expr} (h : DT X a ρ k) (h2 : k = false → DW X (.BoolOp .Or (b :: rest) pos) ρ k') : DW X (.BoolOp .Or (a :: b :: rest) pos) ρ (k || k') := fun B F H σ Q hh q =>
  ⟨tOr (WT X a) (WW X _), fun j => pw_or (pt_w j) (pw_w j), h B F H σ _ hh fun F' H' s => by
    cases k with
    | true => exact iteT (q F' H' s)
    | false => exact iteF (h2 rfl B F' H' σ _ (hh.step s) fun F2 H2 s2 => q F2 H2 (s.trans s2))⟩
theorem de_ifExp {k : Bool} (h : DT X c ρ k) (h1 : k = true → DE X a ρ d) (h2 : k = false → DE X b ρ d) : DE X (.IfExp c a b pos) ρ d := fun B F H σ Q hh q =>
  ⟨tIf (WT X c) (WE X a) (WE X b), fun j => pe_ifExp (pt_w j) (pe_w j) (pe_w j), h B F H σ _ hh fun F' H' s => by
    cases k with
    | true => exact iteT (h1 rfl B F' H' σ _ (hh.step s) fun v F2 H2 s2 hv => q v F2 H2 (s.trans s2) hv)
    | false => exact iteF (h2 rfl B F' H' σ _ (hh.step s) fun v F2 H2 s2 hv => q v F2 H2 (s.trans s2) hv)⟩

/-! argument lists, displays -/
theorem da_nil : DA X [] ρ [] := fun B F H σ Q hh q => ⟨_, fun _ => pa_nil, q [] F H (Stp.refl hh.fh) .nil⟩
theorem da_cons {es : List Expr} {ds : List D} (h : DE X e ρ d) (hr : DA X es ρ ds) (hs : ∀ j, starEach (e :: es) (X.X j).env = (false, eval e (X.X j).env) :: starEach es (X.X j).env := by intro _; rfl) : DA X (e :: es) ρ (d :: ds) := fun B F H σ Q hh q =>
  ⟨tCons (WE X e) (WA X es), fun j => pa_cons (pe_w j) (pa_w j) (hs j), h B F H σ _ hh fun v F1 H1 s1 v1 => hr B F1 H1 σ _ (hh.step s1) fun vs F2 H2 s2 v2 => q (v :: vs) F2 H2 (s1.trans s2) (.cons (v1.mono s2.ff) v2)⟩
theorem small {n : Nat} (h : n ≤ 100000) : n ≤ sizeLine := Nat.le_trans h (by decide)
theorem small_lt {n : Nat} (h : n < 100000) : n < sizeLine := Nat.lt_of_lt_of_le h (by decide)
theorem de_tup {es : List Expr} {ds : List D} {k : Nat} (h : DA X es ρ ds) (hl : ds.length ≤ 100000 := by first | decide | simp) : DE X (.Tuple es k pos) ρ (.tup ds) := fun B F H σ Q hh q =>
  ⟨tTup (WA X es), fun j => pe_tup (pa_w j), h B F H σ _ hh fun vs F1 H1 s1 v1 => ⟨small (by rw [v1.length]; exact hl), fun p hp =>
    q _ (upd F1 p (.tup vs)) _ (s1.trans (Stp.new s1.fh hp)) (.tup (.inl (.inl upd_same)) (v1.mono (Ex.new (s1.fh.back hp))))⟩⟩
theorem dl_lst {es : List Expr} {ds : List D} (h : DA X es ρ ds) (hl : ds.length ≤ 100000 := by first | decide | simp) : DL X (.List es pos) ρ ds := fun B F H σ Q hh q =>
  ⟨tLst (WA X es), fun j => pe_lst (pa_w j), h B F H σ _ hh fun vs F1 H1 s1 v1 => ⟨small (by rw [v1.length]; exact hl), fun p hp =>
    q p vs F1 _ (s1.trans (Stp.own s1.fh hp)) (s1.hh.back hp) (s1.fh.back hp) upd_same v1⟩⟩

/-! calls of built-ins, by values -/
def CaD (X : Fam K) (f : Value) (ds : List D) (d : D) : Prop := ∃ r : List V → Hp → VK → Prop, (∀ j, CallR (X.X j) f r) ∧ ∀ F H xs (Q : VK), Ex F H → Dvs K F xs ds → (∀ v F' H', Stp F H F' H' → Dv K F' v d → Q v H') → r xs H Q
def CaL (X : Fam K) (f : Value) (ds es : List D) : Prop := ∃ r : List V → Hp → VK → Prop, (∀ j, CallR (X.X j) f r) ∧ ∀ F H xs (Q : VK), Ex F H → Dvs K F xs ds → (∀ p vs F' H', Stp F H F' H' → H p = none → F' p = none → H' p = some (.lst vs) → Dvs K F' vs es → Q (.ref p) H') → r xs H Q
theorem de_callB {id : String} {x : Str} {es : List Expr} {ds : List D} {p : Pos} (ho : CaD X (.builtin id) ds d) (hm : ∀ j, (X.X j).mg x = none) (hv : bootBuiltins x = some (.builtin id)) (ha : DA X (e :: es) ρ ds) (hg : ∀ j, Gl (X.X j) x := by intro _; rfl)
    (hn : x ≠ "__name__" := by decide) (hdb : (x == ("__debug__" : Str)) = false := by decide) (he : ∀ j, starEach (e :: es) (X.X j).env = (false, eval e (X.X j).env) :: starEach es (X.X j).env := by intro _; rfl) (hpl : ∀ j, (backTo pos (starEach es (X.X j).env)).any (·.1) = false := by intro _; rfl) : DE X (.Call (.Name x p) (e :: es) [] pos) ρ d := fun B F H σ Q hh q => by
  obtain ⟨r, h1, h2⟩ := ho
  exact ⟨tCB r (WA X _), fun j => pe_callB (h1 j) (hg j) (hm j) hv (pa_w j) hn hdb (he j) (hpl j), ha B F H σ _ hh fun vs F1 H1 s1 v1 => h2 F1 H1 vs Q s1.fh v1 fun v F2 H2 s2 v2 => q v F2 H2 (s1.trans s2) v2⟩
theorem de_callTy {T : String} {x : Str} {es : List Expr} {ds : List D} {p : Pos} (ho : CaD X (.type T) ds d) (hm : ∀ j, (X.X j).mg x = none) (hv : bootBuiltins x = some (.type T)) (ha : DA X (e :: es) ρ ds) (hg : ∀ j, Gl (X.X j) x := by intro _; rfl)
    (hn : x ≠ "__name__" := by decide) (hdb : (x == ("__debug__" : Str)) = false := by decide) (he : ∀ j, starEach (e :: es) (X.X j).env = (false, eval e (X.X j).env) :: starEach es (X.X j).env := by intro _; rfl) (hpl : ∀ j, (backTo pos (starEach es (X.X j).env)).any (·.1) = false := by intro _; rfl) : DE X (.Call (.Name x p) (e :: es) [] pos) ρ d := fun B F H σ Q hh q => by
  obtain ⟨r, h1, h2⟩ := ho
  exact ⟨tCB r (WA X _), fun j => pe_callTy (h1 j) (hg j) (hm j) hv (pa_w j) hn hdb (he j) (hpl j), ha B F H σ _ hh fun vs F1 H1 s1 v1 => h2 F1 H1 vs Q s1.fh v1 fun v F2 H2 s2 v2 => q v F2 H2 (s1.trans s2) v2⟩
theorem dl_callTy {T : String} {x : Str} {es : List Expr} {ds os : List D} {p : Pos} (ho : CaL X (.type T) ds os) (hm : ∀ j, (X.X j).mg x = none) (hv : bootBuiltins x = some (.type T)) (ha : DA X (e :: es) ρ ds) (hg : ∀ j, Gl (X.X j) x := by intro _; rfl)
    (hn : x ≠ "__name__" := by decide) (hdb : (x == ("__debug__" : Str)) = false := by decide) (he : ∀ j, starEach (e :: es) (X.X j).env = (false, eval e (X.X j).env) :: starEach es (X.X j).env := by intro _; rfl) (hpl : ∀ j, (backTo pos (starEach es (X.X j).env)).any (·.1) = false := by intro _; rfl) : DL X (.Call (.Name x p) (e :: es) [] pos) ρ os := fun B F H σ Q hh q => by
  obtain ⟨r, h1, h2⟩ := ho
  exact ⟨tCB r (WA X _), fun j => pe_callTy (h1 j) (hg j) (hm j) hv (pa_w j) hn hdb (he j) (hpl j), ha B F H σ _ hh fun vs F1 H1 s1 v1 => h2 F1 H1 vs Q s1.fh v1 fun p us F2 H2 s2 e1 e2 e3 v2 => q p us F2 H2 (s1.trans s2) (s1.hh.back e1) e2 e3 v2⟩
theorem Dvs.one {F : Hp} {xs : List V} (h : Dvs K F xs [d]) : ∃ x, xs = [x] ∧ Dv K F x d := by
  cases h with
  | cons h t => cases t; exact ⟨_, rfl, h⟩
theorem Dvs.two {F : Hp} {xs : List V} (h : Dvs K F xs [da, db]) : ∃ x y, xs = [x, y] ∧ Dv K F x da ∧ Dv K F y db := by
  cases h with
  | cons h t => obtain ⟨y, rfl, h2⟩ := t.one; exact ⟨_, _, rfl, h, h2⟩
theorem ca_abs {i : Int} : CaD X (.builtin "abs") [.int i] (.int (if i < 0 then -i else i)) := ⟨_, fun _ => call_abs, fun F H xs Q e hx q => by
  obtain ⟨x, rfl, h⟩ := hx.one
  cases h
  exact ⟨i, rfl, q _ F H (Stp.refl e) (.int _)⟩⟩
theorem ca_lenS {z : Str} (h : z.length ≤ sizeLine) : CaD X (.builtin "len") [.str z] (.int z.length) := ⟨_, fun _ => call_len_str, fun F H xs Q e hx q => by
  obtain ⟨x, rfl, h⟩ := hx.one
  cases h
  exact ⟨z, rfl, by assumption, q _ F H (Stp.refl e) (.int _)⟩⟩
theorem ca_lenL {ds : List D} : CaD X (.builtin "len") [.lst ds] (.int ds.length) := ⟨_, fun j => (X.hK j) ▸ call_len_seq, fun F H xs Q e hx q => by
  obtain ⟨x, rfl, h⟩ := hx.one
  cases h with
  | lst hs hv => exact ⟨_, _, rfl, .inl (e.sqL hs), by rw [hv.length]; exact q _ F H (Stp.refl e) (.int _)⟩⟩
theorem ca_lenT {ds : List D} : CaD X (.builtin "len") [.tup ds] (.int ds.length) := ⟨_, fun j => (X.hK j) ▸ call_len_seq, fun F H xs Q e hx q => by
  obtain ⟨x, rfl, h⟩ := hx.one
  cases h with
  | tup hs hv => exact ⟨_, _, rfl, .inr (e.sqT hs), by rw [hv.length]; exact q _ F H (Stp.refl e) (.int _)⟩⟩
theorem ca_intB {k : Bool} : CaD X (.type "int") [.bl k] (.int (if k then 1 else 0)) := ⟨_, fun _ => call_int1, fun F H xs Q e hx q => by
  obtain ⟨x, rfl, h⟩ := hx.one
  cases h
  exact .inr ⟨k, rfl, q _ F H (Stp.refl e) (.int _)⟩⟩
theorem ca_sum {ns : List Int} (hc : ∀ j, (X.X j).calm = true) : CaD X (.builtin "sum") [.lst (ns.map D.int)] (.int ns.sum) := ⟨_, fun j => (X.hK j) ▸ cr_sum (hc j), fun F H xs Q e hx q => by
  obtain ⟨x, rfl, h⟩ := hx.one
  cases h with
  | lst hs hv => exact ⟨_, ns, rfl, by rw [← hv.ints]; exact e.sqL hs, q _ F H (Stp.refl e) (.int _)⟩⟩
theorem ca_all {ns : List Bool} (hc : ∀ j, (X.X j).calm = true) : CaD X (.builtin "all") [.lst (ns.map D.bl)] (.bl (ns.all id)) := ⟨_, fun j => (X.hK j) ▸ cr_all (hc j), fun F H xs Q e hx q => by
  obtain ⟨x, rfl, h⟩ := hx.one
  cases h with
  | lst hs hv => exact ⟨_, ns, rfl, by rw [← hv.bls]; exact e.sqL hs, q _ F H (Stp.refl e) (.bl _)⟩⟩
theorem ca_any {ns : List Bool} (hc : ∀ j, (X.X j).calm = true) : CaD X (.builtin "any") [.lst (ns.map D.bl)] (.bl (ns.any id)) := ⟨_, fun j => (X.hK j) ▸ cr_any (hc j), fun F H xs Q e hx q => by
  obtain ⟨x, rfl, h⟩ := hx.one
  cases h with
  | lst hs hv => exact ⟨_, ns, rfl, by rw [← hv.bls]; exact e.sqL hs, q _ F H (Stp.refl e) (.bl _)⟩⟩
theorem ca_min2 {i k : Int} (hc : ∀ j, (X.X j).calm = true) : CaD X (.builtin "min") [.int i, .int k] (.int (if k < i then k else i)) := ⟨_, fun j => call_min2 (hc j), fun F H xs Q e hx q => by
  obtain ⟨x, y, rfl, h1, h2⟩ := hx.two
  cases h1; cases h2
  exact ⟨i, k, rfl, q _ F H (Stp.refl e) (.int _)⟩⟩
theorem ca_max2 {i k : Int} (hc : ∀ j, (X.X j).calm = true) : CaD X (.builtin "max") [.int i, .int k] (.int (if k > i then k else i)) := ⟨_, fun j => call_max2 (hc j), fun F H xs Q e hx q => by
  obtain ⟨x, y, rfl, h1, h2⟩ := hx.two
  cases h1; cases h2
  exact ⟨i, k, rfl, q _ F H (Stp.refl e) (.int _)⟩⟩
theorem ca_tupleL {ds : List D} : CaD X (.type "tuple") [.lst ds] (.tup ds) := ⟨_, fun j => (X.hK j) ▸ call_tuple_of, fun F H xs Q e hx q => by
  obtain ⟨x, rfl, h⟩ := hx.one
  cases h with
  | lst hs hv => exact ⟨_, _, rfl, .inl ⟨e.sqL hs, fun l hl => q _ (upd F l (.tup _)) _ (Stp.new e hl) (.tup (.inl (.inl upd_same)) (hv.mono (Ex.new (e.back hl))))⟩⟩⟩
theorem ca_tupleT {ds : List D} : CaD X (.type "tuple") [.tup ds] (.tup ds) := ⟨_, fun j => (X.hK j) ▸ call_tuple_of, fun F H xs Q e hx q => by
  obtain ⟨x, rfl, h⟩ := hx.one
  cases h with
  | tup hs hv => exact ⟨_, _, rfl, .inr ⟨e.sqT hs, q _ F H (Stp.refl e) (.tup hs hv)⟩⟩⟩
theorem cl_listL {ds : List D} : CaL X (.type "list") [.lst ds] ds := ⟨_, fun j => (X.hK j) ▸ call_list_of, fun F H xs Q e hx q => by
  obtain ⟨x, rfl, h⟩ := hx.one
  cases h with
  | lst hs hv => exact ⟨_, _, rfl, .inl (e.sqL hs), fun l hl => q l _ F _ (Stp.own e hl) hl (e.back hl) upd_same hv⟩⟩
theorem cl_listT {ds : List D} : CaL X (.type "list") [.tup ds] ds := ⟨_, fun j => (X.hK j) ▸ call_list_of, fun F H xs Q e hx q => by
  obtain ⟨x, rfl, h⟩ := hx.one
  cases h with
  | tup hs hv => exact ⟨_, _, rfl, .inr (e.sqT hs), fun l hl => q l _ F _ (Stp.own e hl) hl (e.back hl) upd_same hv⟩⟩

/-! items -/
theorem ixN_len {m n : Nat} (e : m = n) (i : Int) : ixN m i = ixN n i := by rw [e]
theorem Dvs.atI {F : Hp} {vs : List V} {ds : List D} (h : Dvs K F vs ds) {i : Int} (e : atI ds i = some d) : ∃ v, L2.atI vs i = some v ∧ Dv K F v d := by
  unfold L2.atI at e ⊢
  rw [ixN_len h.length]
  cases q : ixN ds.length i with
  | none => rw [q] at e; cases e
  | some j =>
    rw [q] at e
    exact h.get (i := j) e
theorem ix_listK {Y : Cx} (h : Y.K = K) : IxR Y (rIxL K) := by subst h; exact ix_list
theorem ix_tupK {Y : Cx} (h : Y.K = K) : IxR Y (rIxT K) := by subst h; exact ix_tup
theorem de_ixL {ds : List D} {i : Int} (ha : DE X a ρ (.lst ds)) (hb : DE X b ρ (.int i)) (hi : atI ds i = some d) (hs : PlainIx b := by exact fun _ _ => rfl) : DE X (.Subscript a b pos) ρ d := fun B F H σ Q hh q => by
  refine ⟨tOp (rIxL K) (WE X a) (WE X b), fun j => pe_ix (ix_listK (X.hK j)) (pe_w j) (pe_w j) hs, ?_⟩
  refine ha B F H σ _ hh fun x F1 H1 s1 v1 => hb B F1 H1 σ _ (hh.step s1) fun y F2 H2 s2 v2 => ?_
  cases v2
  cases v1 with
  | lst hs hv =>
    obtain ⟨v, e1, e2⟩ := (hv.mono s2.ff).atI hi
    exact ⟨_, _, i, v, rfl, rfl, (s2.ff.trans s2.fh).sqL hs, e1, q v F2 H2 (s1.trans s2) e2⟩
theorem de_ixT {ds : List D} {i : Int} (ha : DE X a ρ (.tup ds)) (hb : DE X b ρ (.int i)) (hi : atI ds i = some d) (hs : PlainIx b := by exact fun _ _ => rfl) : DE X (.Subscript a b pos) ρ d := fun B F H σ Q hh q => by
  refine ⟨tOp (rIxT K) (WE X a) (WE X b), fun j => pe_ix (ix_tupK (X.hK j)) (pe_w j) (pe_w j) hs, ?_⟩
  refine ha B F H σ _ hh fun x F1 H1 s1 v1 => hb B F1 H1 σ _ (hh.step s1) fun y F2 H2 s2 v2 => ?_
  cases v2
  cases v1 with
  | tup hs hv =>
    obtain ⟨v, e1, e2⟩ := (hv.mono s2.ff).atI hi
    exact ⟨_, _, i, v, rfl, rfl, (s2.ff.trans s2.fh).sqT hs, e1, q v F2 H2 (s1.trans s2) e2⟩
theorem de_ixS {z : Str} {i : Int} {n : Nat} (ha : DE X a ρ (.str z)) (hb : DE X b ρ (.int i)) (hl : z.length ≤ sizeLine) (hi : atI z.cps.toList i = some n) (hs : PlainIx b := by exact fun _ _ => rfl) : DE X (.Subscript a b pos) ρ (.str ⟨#[n]⟩) := fun B F H σ Q hh q => by
  refine ⟨tOp rIxS (WE X a) (WE X b), fun j => pe_ix ix_str (pe_w j) (pe_w j) hs, ?_⟩
  refine ha B F H σ _ hh fun x F1 H1 s1 v1 => hb B F1 H1 σ _ (hh.step s1) fun y F2 H2 s2 v2 => ?_
  cases v2
  cases v1
  exact ⟨z, i, n, rfl, rfl, hl, hi, q _ F2 H2 (s1.trans s2) (.str _)⟩

/-! ### calls of the text's own defs -/
/-- a def's answer: a value, or a new list -/
inductive Rs where
  | val (d : D) | new (ds : List D)
structure Wd (B F0 F H : Hp) : Prop where
  f0 : Ex F0 F
  fh : Ex F H
  bh : Ex B H
  nw : ∀ p o, F p = some o → F0 p = some o ∨ B p = none
theorem Wd.step {B F0 F H F' H' : Hp} (w : Wd B F0 F H) (s : Stp F H F' H') : Wd B F0 F' H' := ⟨w.f0.trans s.ff, s.fh, w.bh.trans s.hh, fun p o h => by
  rcases s.nw p o h with h | h
  · exact w.nw p o h
  · exact .inr (w.bh.back h)⟩
theorem Wd.stp {B F0 F H : Hp} (w : Wd B F0 F H) : Stp F0 B F H := ⟨w.f0, w.fh, w.bh, w.nw⟩
def Rv (K : PySem.W.Frag) (B F H : Hp) (v : V) : Rs → Prop
  | .val d => Dv K F v d
  | .new ds => ∃ p vs, v = .ref p ∧ B p = none ∧ F p = none ∧ H p = some (.lst vs) ∧ Dvs K F vs ds
/-- the promise of a def that raises nothing: φ ds R: called with ds it answers some r with R r -/
abbrev SpecD := List D → (Rs → Prop) → Prop
def spD (K : PySem.W.Frag) (φ : SpecD) : Sp := fun vs H Q _ => ∃ F ds R, Ex F H ∧ Dvs K F vs ds ∧ φ ds R ∧ ∀ r v F' H', R r → Wd H F F' H' → Rv K H F' H' v r → Q v H'
/-- a def of the text that keeps its promise, as a caller wants it -/
structure Has (X : Fam K) (x : Str) (φ : SpecD) : Prop where
  ex : ∃ (k : Nat) (f : Addr) (fd : FuncData) (ps : List Str), (∀ j, FnOk (X.X j).prog (X.X j).w K (X.X j).mg (X.X j).base CX0 k f fd ps (spD K φ)) ∧ (∀ j, Room k (X.X j).A) ∧ (∀ j, (X.X j).mg x = some (.ref f)) ∧
    PySem.W.keepIn K (.ref f) = true ∧ Binds K fd ps []
theorem Has.blk {x : Str} {φ : SpecD} {scope : Scope} (h : Has X x φ) : Has (X.blk scope) x φ := by
  obtain ⟨k, f, fd, ps, h1, h2, h3, h4, h5⟩ := h.ex
  exact ⟨k, f, fd, ps, fun j => h1 j.1, fun j => h2 j.1, fun j => h3 j.1, h4, h5⟩
theorem we_call {x : Str} {φ : SpecD} {es : List Expr} {ds : List D} {p : Pos} {R : Rs → Prop} (Fk : Has X x φ) (ha : DA X (e :: es) ρ ds) (hφ : φ ds R)
    (hg : ∀ j, Gl (X.X j) x := by intro _; rfl)
    (hdb : (x == ("__debug__" : Str)) = false := by decide) (he : ∀ j, starEach (e :: es) (X.X j).env = (false, eval e (X.X j).env) :: starEach es (X.X j).env := by intro _; rfl) (hpl : ∀ j, (backTo pos (starEach es (X.X j).env)).any (·.1) = false := by intro _; rfl)
    {B F H : Hp} {σ : L2.St} {Q : VK} (hh : Hd K B F H ρ σ) (q : ∀ r v F' H', R r → Stp F H F' H' → Rv K H F' H' v r → Q v H') :
    WE X (.Call (.Name x p) (e :: es) [] pos) σ H Q := by
  obtain ⟨k, f, fd, ps, h1, h2, h3, h4, h5⟩ := Fk.ex
  refine ⟨tCall (spD K φ) [] E0 (WA X _), fun j => pe_call (X := X.X j) (k := k) (f := f) (fd := fd) (ps := ps) ((X.hK j).symm ▸ h1 j) (h2 j) (hg j) (h3 j) ((X.hK j).symm ▸ h4) ((X.hK j).symm ▸ h5) .nil pass0 (pa_w j) hdb (he j) (hpl j), ?_⟩
  refine ha B F H σ _ hh fun vs F1 H1 s1 v1 => ⟨F1, ds, R, s1.fh, by rw [List.append_nil]; exact v1, hφ, fun r v F2 H2 hr w2 r2 => q r v F2 H2 hr (s1.trans w2.stp) ?_⟩
  cases r with
  | val d => exact r2
  | new ds =>
    obtain ⟨p, us, rfl, e1, e2, e3, e4⟩ := r2
    exact ⟨p, us, rfl, s1.hh.back e1, e2, e3, e4⟩
theorem de_call {x : Str} {φ : SpecD} {es : List Expr} {ds : List D} {p : Pos} (Fk : Has X x φ) (ha : DA X (e :: es) ρ ds) (hφ : φ ds fun r => r = .val d)
    (hg : ∀ j, Gl (X.X j) x := by intro _; rfl)
    (hdb : (x == ("__debug__" : Str)) = false := by decide) (he : ∀ j, starEach (e :: es) (X.X j).env = (false, eval e (X.X j).env) :: starEach es (X.X j).env := by intro _; rfl) (hpl : ∀ j, (backTo pos (starEach es (X.X j).env)).any (·.1) = false := by intro _; rfl) :
    DE X (.Call (.Name x p) (e :: es) [] pos) ρ d := fun B F H σ Q hh q => we_call Fk ha hφ hg hdb he hpl hh fun r v F' H' hr s rv => by
  subst hr; exact q v F' H' s rv
theorem dl_call {x : Str} {φ : SpecD} {es : List Expr} {ds os : List D} {p : Pos} (Fk : Has X x φ) (ha : DA X (e :: es) ρ ds) (hφ : φ ds fun r => r = .new os)
    (hg : ∀ j, Gl (X.X j) x := by intro _; rfl)
    (hdb : (x == ("__debug__" : Str)) = false := by decide) (he : ∀ j, starEach (e :: es) (X.X j).env = (false, eval e (X.X j).env) :: starEach es (X.X j).env := by intro _; rfl) (hpl : ∀ j, (backTo pos (starEach es (X.X j).env)).any (·.1) = false := by intro _; rfl) :
    DL X (.Call (.Name x p) (e :: es) [] pos) ρ os := fun B F H σ Q hh q => we_call Fk ha hφ hg hdb he hpl hh fun r v F' H' hr s rv => by
  subst hr
  obtain ⟨p, us, rfl, e1, e2, e3, e4⟩ := rv
  exact q p us F' H' s e1 e2 e3 e4
end
end Yp

namespace Yp
open PySem PySem.Spec PyProof.Rows L2

/-- an exception: its class; its class, a field and what it holds -/
inductive Xd where
  | plain (c : Value) | fld (c : Value) (f : Str) (d : D)
def Xv (K : PySem.W.Frag) (F : Hp) (cls : Value) (od : Option Addr) : Xd → Prop
  | .plain c => cls = c ∧ od = none
  | .fld c f d => cls = c ∧ ∃ dd v, od = some dd ∧ F dd = some (.xd [(f, v)]) ∧ Dv K F v d
inductive Out where
  | nx (ρ : List Sl) | rt (r : Rs) | bk (ρ : List Sl) | ct (ρ : List Sl) | ex (ρ : List Sl) (x : Xd)
section
variable {K : PySem.W.Frag}
structure Post (K : PySem.W.Frag) (B F0 : Hp) (R : Out → Prop) (W : WX) (D : Ends) : Prop where
  nx : ∀ ρ F H σ, R (.nx ρ) → Wd B F0 F H → Hd K B F H ρ σ → D.nx σ H
  rt : ∀ r v F H, R (.rt r) → Wd B F0 F H → Rv K B F H v r → D.rt v H
  bk : ∀ ρ F H σ, R (.bk ρ) → Wd B F0 F H → Hd K B F H ρ σ → D.bk σ H
  ct : ∀ ρ F H σ, R (.ct ρ) → Wd B F0 F H → Hd K B F H ρ σ → D.ct σ H
  ex : ∀ ρ x cls od F H σ, R (.ex ρ x) → Wd B F0 F H → Hd K B F H ρ σ → Xv K F cls od x → W cls od σ H
def DS (X : Fam K) (st : Stmt) (ρ : List Sl) (R : Out → Prop) : Prop := ∀ B F0 F H σ D, Wd B F0 F H → Hd K B F H ρ σ → Post K B F0 R X.W D → WS X st D σ H
def DSs (X : Fam K) (st : List Stmt) (ρ : List Sl) (R : Out → Prop) : Prop := ∀ B F0 F H σ D, Wd B F0 F H → Hd K B F H ρ σ → Post K B F0 R X.W D → WSs X st D σ H
/-- then the rest -/
def Thn (X : Fam K) (rest : List Stmt) (R : Out → Prop) : Out → Prop
  | .nx ρ => DSs X rest ρ R
  | .rt r => R (.rt r)
  | .bk ρ => R (.bk ρ)
  | .ct ρ => R (.ct ρ)
  | .ex ρ x => R (.ex ρ x)
variable {X : Fam K} {ρ : List Sl} {R R' : Out → Prop} {st : Stmt} {rest : List Stmt} {a b c e : Expr} {da db dc d : D} {pos : Pos}
theorem Post.imp {B F0 : Hp} {D : Ends} {W : WX} (p : Post K B F0 R W D) (h : ∀ o, R' o → R o) : Post K B F0 R' W D :=
  ⟨fun ρ F H σ r => p.nx ρ F H σ (h _ r), fun r v F H z => p.rt r v F H (h _ z), fun ρ F H σ r => p.bk ρ F H σ (h _ r), fun ρ F H σ r => p.ct ρ F H σ (h _ r), fun ρ x c od F H σ r => p.ex ρ x c od F H σ (h _ r)⟩
theorem DSs.imp {sts : List Stmt} (h : DSs X sts ρ R') (q : ∀ o, R' o → R o) : DSs X sts ρ R := fun B F0 F H σ D w hh p => h B F0 F H σ D w hh (p.imp q)
theorem DS.imp (h : DS X st ρ R') (q : ∀ o, R' o → R o) : DS X st ρ R := fun B F0 F H σ D w hh p => h B F0 F H σ D w hh (p.imp q)
theorem dss_nil (h : R (.nx ρ)) : DSs X [] ρ R := fun B F0 F H σ D w hh p => ⟨_, fun _ => pss_nil, p.nx ρ F H σ h w hh⟩
theorem dss_cons (h : DS X st ρ (Thn X rest R)) : DSs X (st :: rest) ρ R := fun B F0 F H σ D w hh p =>
  ⟨tSeq (WS X st) (WSs X rest), fun j => pss_cons (ps_w j) (pss_w j), h B F0 F H σ { D with nx := WSs X rest D } w hh
    ⟨fun ρ F H σ z w hh => z B F0 F H σ D w hh p, p.rt, p.bk, p.ct, p.ex⟩⟩
/-- the ways join: what holds of the slots behind the statement -/
theorem dss_cut (J : List Sl → Prop) (h : DS X st ρ fun o => match o with | .nx ρ => J ρ | o => R o) (h2 : ∀ ρ, J ρ → DSs X rest ρ R) : DSs X (st :: rest) ρ R :=
  dss_cons (h.imp fun o => match o with | .nx ρ => h2 ρ | .rt _ => id | .bk _ => id | .ct _ => id | .ex _ _ => id)
theorem Hd.fresh {B F H : Hp} {σ : L2.St} {p : Addr} (h : Hd K B F H ρ σ) (hp : H p = none) (j : Nat) (es : List D) (e : ρ[j]? = some (.own es)) : σ[j]? ≠ some (some (.ref p)) := fun z => by
  obtain ⟨q, vs, h1, _, _, h3, _⟩ := h.own j es e
  rw [z] at h1; cases h1
  rw [hp] at h3; cases h3

/-! ### x = e -/
theorem ds_set (i : Nat) {x : Str} {p' : Pos} (he : DE X e ρ d) (hR : R (.nx (ρ.set i (.val d)))) (hN : ∀ j, (X.X j).N.Nodup) (hi : ∀ j, (X.X j).N[i]? = some x := by intro _; rfl) (hx : ∀ j, Loc (X.X j).env.scope x := by first | exact fun _ => Or.inl rfl | exact fun _ => Or.inr rfl)
    (hs : ∀ j, swapsWith e (some (.Name x p')) pos.line (X.X j).env = pure false := by intro _; rfl) (hf : ∀ j, (X.X j).fn x = true ∨ (X.X j).env.scope.names.lookup x = some .local := by first | exact fun _ => .inl rfl | exact fun _ => .inr rfl) :
    DS X (.Assign [.Name x p'] e pos) ρ R := fun B F0 F H σ D w hh p =>
  ⟨tAsg (WE X e) (gName i), fun j => ps_set (hN j) (hi j) (hx j) (pe_w j) (hs j) (hf j), he B F H σ _ hh fun v F' H' s hv => p.nx _ F' H' _ hR (w.step s) ((hh.step s).set hv i)⟩
theorem ds_setL (i : Nat) {x : Str} {p' : Pos} {ds : List D} (he : DL X e ρ ds) (hR : R (.nx (ρ.set i (.own ds)))) (hN : ∀ j, (X.X j).N.Nodup) (hi : ∀ j, (X.X j).N[i]? = some x := by intro _; rfl) (hx : ∀ j, Loc (X.X j).env.scope x := by first | exact fun _ => Or.inl rfl | exact fun _ => Or.inr rfl)
    (hs : ∀ j, swapsWith e (some (.Name x p')) pos.line (X.X j).env = pure false := by intro _; rfl) (hf : ∀ j, (X.X j).fn x = true ∨ (X.X j).env.scope.names.lookup x = some .local := by first | exact fun _ => .inl rfl | exact fun _ => .inr rfl) :
    DS X (.Assign [.Name x p'] e pos) ρ R := fun B F0 F H σ D w hh p =>
  ⟨tAsg (WE X e) (gName i), fun j => ps_set (hN j) (hi j) (hx j) (pe_w j) (hs j) (hf j), he B F H σ _ hh fun q vs F' H' s e1 e2 e3 hv => p.nx _ F' H' _ hR (w.step s)
    ((hh.step s).setOwn (i := i) (w.bh.back e1) e2 e3 hv (fun j es ej _ => hh.fresh e1 j es ej) rfl)⟩
/-- a list of one's own becomes a value like others -/
theorem dss_freeze (i : Nat) {sts : List Stmt} {ds : List D} (hi : ρ[i]? = some (.own ds)) (h : DSs X sts (ρ.set i (.val (.lst ds))) R) : DSs X sts ρ R := fun B F0 F H σ D w hh p => by
  obtain ⟨q, vs, h1, hb, h2, h3, h4, hz⟩ := hh.freeze hi
  refine h B F0 _ H σ D ⟨w.f0.trans (Ex.new h2), hz.fh, w.bh, fun a o z => ?_⟩ hz p
  by_cases y : a = q
  · subst y; exact .inr hb
  · rw [upd_ne y] at z; exact w.nw a o z
/-! ### return -/
theorem ds_ret (he : DE X e ρ d) (hR : R (.rt (.val d))) : DS X (.Return (some e) pos) ρ R := fun B F0 F H σ D w hh p =>
  ⟨tRet (WE X e), fun j => ps_ret (pe_w j), he B F H σ _ hh fun v F' H' s hv => p.rt (.val d) v F' H' hR (w.step s) hv⟩
theorem ds_retL {ds : List D} (he : DL X e ρ ds) (hR : R (.rt (.new ds))) : DS X (.Return (some e) pos) ρ R := fun B F0 F H σ D w hh p =>
  ⟨tRet (WE X e), fun j => ps_ret (pe_w j), he B F H σ _ hh fun q vs F' H' s e1 e2 e3 hv => p.rt (.new ds) _ F' H' hR (w.step s) ⟨q, vs, rfl, w.bh.back e1, e2, e3, hv⟩⟩
theorem ds_retO (i : Nat) {x : Str} {p1 : Pos} {ds : List D} (hi : ρ[i]? = some (.own ds)) (hR : R (.rt (.new ds))) (hN : ∀ j, (X.X j).N[i]? = some x := by intro _; rfl)
    (hv : ∀ j, Vis (X.X j).env.scope x := by first | exact fun _ => Or.inl rfl | exact fun _ => Or.inr (Or.inl rfl) | exact fun _ => Or.inr (Or.inr rfl)) (hd : (x == ("__debug__" : Str)) = false := by decide)
    (hcd : (x == ("__classdict__" : Str)) = false := by decide) : DS X (.Return (some (.Name x p1)) pos) ρ R := fun B F0 F H σ D w hh p => by
  obtain ⟨q, vs, h1, hb, h2, h3, h4⟩ := hh.own i ds hi
  exact ⟨tRet (tVar i), fun j => ps_ret (pe_var (hN j) (hv j) hd hcd), _, h1, p.rt (.new ds) _ F H hR w ⟨q, vs, rfl, hb, h2, h3, h4⟩⟩
/-! ### small statements -/
theorem ds_pass (h : R (.nx ρ)) : DS X (.Pass pos) ρ R := fun B F0 F H σ D w hh p => ⟨_, fun _ => ps_pass, p.nx ρ F H σ h w hh⟩
theorem ds_break (h : R (.bk ρ)) : DS X (.Break pos) ρ R := fun B F0 F H σ D w hh p => ⟨_, fun _ => ps_break, p.bk ρ F H σ h w hh⟩
theorem ds_continue (h : R (.ct ρ)) : DS X (.Continue pos) ρ R := fun B F0 F H σ D w hh p => ⟨_, fun _ => ps_continue, p.ct ρ F H σ h w hh⟩
theorem ds_expr (he : DE X e ρ d) (h : R (.nx ρ)) (hs : ∀ j, swapsWith e none pos.line (X.X j).env = pure false := by intro _; rfl) : DS X (.Expr e pos) ρ R := fun B F0 F H σ D w hh p =>
  ⟨tDrop (WE X e), fun j => ps_expr (pe_w j) (hs j), he B F H σ _ hh fun v F' H' s hv => p.nx ρ F' H' σ h (w.step s) (hh.step s)⟩
theorem ds_if {k : Bool} {s1 s2 : List Stmt} (hc : DT X c ρ k) (h1 : k = true → DSs X s1 ρ R) (h2 : k = false → DSs X s2 ρ R) : DS X (.If c s1 s2 pos) ρ R := fun B F0 F H σ D w hh p =>
  ⟨tIfS (WT X c) (WSs X s1) (WSs X s2), fun j => ps_if (pt_w j) (pss_w j) (pss_w j), hc B F H σ _ hh fun F' H' s => by
    cases k with
    | true => exact iteT (h1 rfl B F0 F' H' σ D (w.step s) (hh.step s) p)
    | false => exact iteF (h2 rfl B F0 F' H' σ D (w.step s) (hh.step s) p)⟩
/-! ### x.append(e), x[i] = e, of a list of one's own -/
theorem pe_appendK {Y : Cx} (hk : Y.K = K) {o e : Expr} {to : TE} {t : TA} {apos cpos : Pos} (ho : PE Y o to) (ha : PA Y [e] t) (g1 : attributeBase o "append" Y.env (eval o Y.env) = eval o Y.env)
    (g2 : (((((backTo cpos (starEach [e] Y.env)).all fun x => !x.fst) && (backToKw cpos (keywordEach [] Y.env)).all fun x => x.fst.isSome) && decide (([e].length + ([] : List Keyword).length + if ([] : List Keyword).isEmpty = true then 0 else 1) < 30)) = true))
    (g3 : (apos.endLine == cpos.line) = true) (g4 : starEach [e] Y.env = (false, eval e Y.env) :: starEach [] Y.env) : PE Y (.Call (.Attribute o "append" apos) [e] [] cpos) (tBM K "list" rAppend to t) := by
  subst hk; exact pe_bm PySem.F.plainAttrs_list PySem.F.slot_list_append PySem.F.type_list_append mt_append ho ha g1 g2 g3 g4
theorem ds_append (i : Nat) {x : Str} {p1 apos cpos : Pos} {ds : List D} (hi : ρ[i]? = some (.own ds)) (he : DE X e ρ d) (hl : ds.length < 100000) (hR : R (.nx (ρ.set i (.own (ds ++ [d]))))) (hN : ∀ j, (X.X j).N[i]? = some x := by intro _; rfl)
    (hv : ∀ j, Vis (X.X j).env.scope x := by first | exact fun _ => Or.inl rfl | exact fun _ => Or.inr (Or.inl rfl) | exact fun _ => Or.inr (Or.inr rfl)) (hd : (x == ("__debug__" : Str)) = false := by decide)
    (hcd : (x == ("__classdict__" : Str)) = false := by decide)
    (g1 : ∀ j, attributeBase (.Name x p1) "append" (X.X j).env (eval (.Name x p1) (X.X j).env) = eval (.Name x p1) (X.X j).env := by intro _; rfl)
    (g2 : ∀ j, (((((backTo cpos (starEach [e] (X.X j).env)).all fun x => !x.fst) && (backToKw cpos (keywordEach [] (X.X j).env)).all fun x => x.fst.isSome) && decide (([e].length + ([] : List Keyword).length + if ([] : List Keyword).isEmpty = true then 0 else 1) < 30)) = true) := by intro _; rfl)
    (g3 : (apos.endLine == cpos.line) = true := by rfl)
    (g4 : ∀ j, starEach [e] (X.X j).env = (false, eval e (X.X j).env) :: starEach [] (X.X j).env := by intro _; rfl)
    (hs : ∀ j, swapsWith (.Call (.Attribute (.Name x p1) "append" apos) [e] [] cpos) none pos.line (X.X j).env = pure false := by intro _; rfl) :
    DS X (.Expr (.Call (.Attribute (.Name x p1) "append" apos) [e] [] cpos) pos) ρ R := fun B F0 F H σ D w hh p => by
  obtain ⟨q, vs, h1, hb, h2, h3, h4⟩ := hh.own i ds hi
  refine ⟨tDrop (tBM K "list" rAppend (tVar i) (tCons (WE X e) tNil)), fun j => ps_expr (pe_appendK (X.hK j) (pe_var (hN j) (hv j) hd hcd) (pa_cons (pe_w j) pa_nil (g4 j)) (g1 j) (g2 j) g3 (g4 j)) (hs j), ?_⟩
  refine ⟨_, h1, .inl ⟨rfl, _, .inl (.inl h3)⟩, he B F H σ _ hh fun v F' H' s hv' => ?_⟩
  have hh' := hh.step s
  have h3' := s.hh _ _ h3
  have hf' : F' q = none := by
    obtain ⟨q', _, z1, _, z2, _⟩ := hh'.own i ds hi
    rw [h1] at z1; cases z1; exact z2
  refine ⟨q, vs, v, rfl, rfl, h3', by rw [h4.length]; exact small_lt hl, ?_⟩
  refine p.nx _ F' _ σ hR ⟨w.f0.trans s.ff, fun a o z => ?_, fun a o z => ?_, (w.step s).nw⟩ (hh'.write hi h1 hf' ((h4.mono s.ff).snoc hv'))
  · rw [upd_ne (ne_of_none z hf')]; exact s.fh a o z
  · rw [upd_ne (ne_of_none z hb)]; exact s.hh _ _ (w.bh a o z)
theorem ds_put (i : Nat) {x : Str} {p1 ps : Pos} {ds : List D} {ix : Expr} {k : Int} {j0 : Nat} (hi : ρ[i]? = some (.own ds)) (he : DE X e ρ d) (hx : DE X ix ρ (.int k)) (hk : ixN ds.length k = some j0) (hR : R (.nx (ρ.set i (.own (ds.set j0 d))))) (hN : ∀ j, (X.X j).N[i]? = some x := by intro _; rfl)
    (hv : ∀ j, Vis (X.X j).env.scope x := by first | exact fun _ => Or.inl rfl | exact fun _ => Or.inr (Or.inl rfl) | exact fun _ => Or.inr (Or.inr rfl)) (hd : (x == ("__debug__" : Str)) = false := by decide)
    (hcd : (x == ("__classdict__" : Str)) = false := by decide)
    (ha : ∀ j v, assign (.Subscript (.Name x p1) ix ps) (X.X j).env v = (do
      let ov ← holding [v] (eval (.Name x p1) (X.X j).env)
      let iv ← holding [v, ov] (eval ix (X.X j).env)
      standAt ps
      holding [v, ov, iv] (setItem ov iv v)
      release [v, ov, iv] []) := by intro _ _; rfl)
    (g1 : ∀ j, swapsWithSole [.Subscript (.Name x p1) ix ps] e pos.line (X.X j).env = pure false := by intro _; rfl) (g2 : ∀ j, swappedStores [.Subscript (.Name x p1) ix ps] e (X.X j).env = pure none := by intro _; rfl)
    (g3 : ∀ j, (assignEach [.Subscript (.Name x p1) ix ps] (X.X j).env).map (·.2) = [assign (.Subscript (.Name x p1) ix ps) (X.X j).env] := by intro _; rfl) :
    DS X (.Assign [.Subscript (.Name x p1) ix ps] e pos) ρ R := fun B F0 F H σ D w hh p => by
  refine ⟨tAsg (WE X e) (gSub (tVar i) (WE X ix) rSetL), fun j => ps_asg (pe_w j) (pg_sub (pe_var (hN j) (hv j) hd hcd) (pe_w j) set_list (ha j)) (g1 j) (g2 j) (g3 j), ?_⟩
  refine he B F H σ _ hh fun v F1 H1 s1 hv1 => ?_
  have hh1 := hh.step s1
  obtain ⟨q, vs, h1, hb, h2, h3, h4⟩ := hh1.own i ds hi
  refine ⟨_, h1, hx B F1 H1 σ _ hh1 fun y F2 H2 s2 hv2 => ?_⟩
  cases hv2
  have hh2 := hh1.step s2
  have h3' := s2.hh _ _ h3
  have hf' : F2 q = none := by
    obtain ⟨q', _, z1, _, z2, _⟩ := hh2.own i ds hi
    rw [h1] at z1; cases z1; exact z2
  refine ⟨q, vs, k, j0, rfl, rfl, h3', by rw [h4.length]; exact hk, ?_⟩
  refine p.nx _ F2 _ σ hR ⟨w.f0.trans (s1.ff.trans s2.ff), fun a o z => ?_, fun a o z => ?_, ((w.step s1).step s2).nw⟩ (hh2.write hi h1 hf' ((h4.mono s2.ff).set (hv1.mono s2.ff) j0))
  · rw [upd_ne (ne_of_none z hf')]; exact s2.fh a o z
  · rw [upd_ne (ne_of_none z hb)]; exact s2.hh _ _ (s1.hh _ _ (w.bh a o z))
/-! ### x op= e -/
def IpD (X : Fam K) (op : Operator) (da db d : D) : Prop := ∃ r : R2, (∀ j, OpR (X.X j) (inplaceOp op) r) ∧ ∀ F H x y (Q : VK), Ex F H → Dv K F x da → Dv K F y db → (∀ v F' H', Stp F H F' H' → Dv K F' v d → Q v H') → r x y H Q
theorem ds_aug (i : Nat) {x : Str} {p' : Pos} {op : Operator} (hi : ρ[i]? = some (.val da)) (he : DE X e ρ db) (ho : IpD X op da db d) (hR : R (.nx (ρ.set i (.val d)))) (hN : ∀ j, (X.X j).N.Nodup) (hn : ∀ j, (X.X j).N[i]? = some x := by intro _; rfl) (hx : ∀ j, Loc (X.X j).env.scope x := by first | exact fun _ => Or.inl rfl | exact fun _ => Or.inr rfl)
    (hf : ∀ j, (X.X j).fn x = true ∨ (X.X j).env.scope.names.lookup x = some .local := by first | exact fun _ => .inl rfl | exact fun _ => .inr rfl) : DS X (.AugAssign (.Name x p') op e pos) ρ R := fun B F0 F H σ D w hh p => by
  obtain ⟨r, h1, h2⟩ := ho
  obtain ⟨v, e1, e2⟩ := hh.val i da hi
  refine ⟨tAug i (WE X e) r, fun j => ps_aug (hN j) (hn j) (hx j) (pe_w j) (h1 j) (hf j), v, e1, he B F H σ _ hh fun y F1 H1 s1 v1 => ?_⟩
  exact h2 F1 H1 v y _ s1.fh (e2.mono s1.ff) v1 fun z F2 H2 s2 v2 => p.nx _ F2 H2 _ hR ((w.step s1).step s2) (((hh.step s1).step s2).set v2 i)
theorem ipd_I {op : Operator} {C : Int → Int → Prop} {g : Int → Int → Int} (h : ∀ Y : Cx, OpR Y (inplaceOp op) (rI C fun i j => .int (g i j))) {i j : Int} (hc : C i j) : IpD X op (.int i) (.int j) (.int (g i j)) :=
  ⟨_, fun j => h _, fun F H x y Q e hx hy q => by cases hx; cases hy; exact ⟨i, j, rfl, rfl, hc, q _ F H (Stp.refl e) (.int _)⟩⟩
theorem ipd_I0 {op : Operator} {g : Int → Int → Int} (h : ∀ Y : Cx, OpR Y (inplaceOp op) (rI0 fun i j => .int (g i j))) {i j : Int} : IpD X op (.int i) (.int j) (.int (g i j)) :=
  ⟨_, fun j => h _, fun F H x y Q e hx hy q => by cases hx; cases hy; exact ⟨i, j, rfl, rfl, q _ F H (Stp.refl e) (.int _)⟩⟩
theorem ipd_add {i j : Int} : IpD X .Add (.int i) (.int j) (.int (i + j)) := ipd_I0 fun _ => iop_add
theorem ipd_sub {i j : Int} : IpD X .Sub (.int i) (.int j) (.int (i - j)) := ipd_I0 fun _ => iop_sub
theorem ipd_mul {i j : Int} (h : CMul i j) : IpD X .Mult (.int i) (.int j) (.int (i * j)) := ipd_I (fun _ => iop_mul) h
theorem ipd_div {i j : Int} (h : CDiv i j) : IpD X .FloorDiv (.int i) (.int j) (.int (i / j)) := ipd_I (fun _ => iop_fdiv) h
theorem ipd_mod {i j : Int} (h : 0 < j) : IpD X .Mod (.int i) (.int j) (.int (i % j)) := ipd_I (C := fun _ j => 0 < j) (fun _ => iop_mod) h

/-! ### targets -/
/-- all but the slots ts are as they were -/
def Same1 (ts : List Nat) (σ σ' : L2.St) : Prop := σ'.length = σ.length ∧ ∀ k, k ∉ ts → σ'[k]? = σ[k]?
def DG (X : Fam K) (tg : Expr) (d : D) (ρ : List Sl) (ts : List Nat) (S : List Sl → Prop) : Prop := ∀ B F H σ v (Q : L2.St → Hp → Prop), Hd K B F H ρ σ → Dv K F v d → (∀ ρ' σ', S ρ' → Hd K B F H ρ' σ' → Same1 ts σ σ' → Q σ' H) → WG X tg v σ H Q
def DGs (X : Fam K) (tg : List Expr) (d : List D) (ρ : List Sl) (ts : List Nat) (S : List Sl → Prop) : Prop := ∀ B F H σ v (Q : L2.St → Hp → Prop), Hd K B F H ρ σ → Dvs K F v d → (∀ ρ' σ', S ρ' → Hd K B F H ρ' σ' → Same1 ts σ σ' → Q σ' H) → WGs X tg v σ H Q
theorem dg_name (i : Nat) {x : Str} {S : List Sl → Prop} (hS : S (ρ.set i (.val d))) (hN : ∀ j, (X.X j).N.Nodup) (hi : ∀ j, (X.X j).N[i]? = some x := by intro _; rfl) (hx : ∀ j, Loc (X.X j).env.scope x := by first | exact fun _ => Or.inl rfl | exact fun _ => Or.inr rfl)
    (hf : ∀ j, (X.X j).fn x = true ∨ (X.X j).env.scope.names.lookup x = some .local := by first | exact fun _ => .inl rfl | exact fun _ => .inr rfl) : DG X (.Name x pos) d ρ [i] S := fun B F H σ v Q hh hv q =>
  ⟨gName i, fun j => pg_name (hN j) (hi j) (hx j) (hf j), q _ _ hS (hh.set hv i) ⟨List.length_set, fun k hk => List.getElem?_set_ne (fun e => hk (by rw [e]; exact List.mem_singleton.mpr rfl))⟩⟩
theorem dgs_nil {S : List Sl → Prop} (hS : S ρ) : DGs X [] [] ρ [] S := fun B F H σ v Q hh hv q => by
  cases hv
  exact ⟨gNil, fun _ => pgs_nil, rfl, q ρ σ hS hh ⟨rfl, fun _ _ => rfl⟩⟩
theorem dgs_cons {es : List Expr} {ds : List D} {S : List Sl → Prop} {t1 t2 : List Nat} (h : DG X e d ρ t1 fun ρ' => DGs X es ds ρ' t2 S) (hs : ∀ j, (assignEach (e :: es) (X.X j).env).map (·.2) = assign e (X.X j).env :: (assignEach es (X.X j).env).map (·.2) := by intro _; rfl) : DGs X (e :: es) (d :: ds) ρ (t1 ++ t2) S := fun B F H σ v Q hh hv q => by
  cases hv with
  | cons h1 h2 =>
    exact ⟨gCons (WG X e) (WGs X es), fun j => pgs_cons (pg_w j) (pgs_w j) (hs j), _, _, rfl, h B F H σ _ _ hh h1 fun ρ' σ' z hh' y => z B F H σ' _ Q hh' h2 fun ρ2 σ2 z2 hh2 y2 =>
      q ρ2 σ2 z2 hh2 ⟨y2.1.trans y.1, fun k hk => (y2.2 k fun m => hk (List.mem_append_right _ m)).trans (y.2 k fun m => hk (List.mem_append_left _ m))⟩⟩
theorem pg_tupK {Y : Cx} (hk : Y.K = K) {es : List Expr} {k : Nat} {t : TGs} {n : Nat} (hc : Y.calm = true) (h : PGs Y es t) (hn : (assignEach es Y.env).length = n) (hst : (assignEach es Y.env).findIdx? (·.1) = none) : PG Y (.Tuple es k pos) (gTup K n t) := by
  subst hk; exact pg_tup hc h hn hst
theorem dg_tup {es : List Expr} {ds : List D} {k : Nat} {S : List Sl → Prop} {ts : List Nat} (h : DGs X es ds ρ ts S) (hc : ∀ j, (X.X j).calm = true := by intro _; rfl) (hn : ∀ j, (assignEach es (X.X j).env).length = ds.length := by intro _; rfl) (hst : ∀ j, (assignEach es (X.X j).env).findIdx? (·.1) = none := by intro _; rfl) :
    DG X (.Tuple es k pos) (.tup ds) ρ ts S := fun B F H σ v Q hh hv q => by
  cases hv with
  | tup hs hv => exact ⟨gTup K ds.length (WGs X es), fun j => pg_tupK (X.hK j) (hc j) (pgs_w j) (hn j) (hst j), _, _, rfl, hh.fh.sqT hs, hv.length, h B F H σ _ Q hh hv q⟩
/-- target = value, any target -/
theorem ds_asg {tg : Expr} {ts : List Nat} (he : DE X e ρ d) (hg : DG X tg d ρ ts fun ρ' => R (.nx ρ')) (g1 : ∀ j, swapsWithSole [tg] e pos.line (X.X j).env = pure false := by intro _; rfl) (g2 : ∀ j, swappedStores [tg] e (X.X j).env = pure none := by intro _; rfl)
    (g3 : ∀ j, (assignEach [tg] (X.X j).env).map (·.2) = [assign tg (X.X j).env] := by intro _; rfl) : DS X (.Assign [tg] e pos) ρ R := fun B F0 F H σ D w hh p =>
  ⟨tAsg (WE X e) (WG X tg), fun j => ps_asg (pe_w j) (pg_w j) (g1 j) (g2 j) (g3 j), he B F H σ _ hh fun v F' H' s hv => hg B F' H' σ v _ (hh.step s) hv fun ρ' σ' z hh' _ => p.nx _ F' H' σ' z (w.step s) hh'⟩

/-! ### what is walked -/
structure Itd (K : PySem.W.Frag) (F1 : Hp) (J : It) (items : List D) : Prop where
  go : ∀ F H i, Ex F1 F → Ex F H → i < items.length → J.go i H
  yl : ∀ F H i x H' d, Ex F1 F → Ex F H → items[i]? = some d → J.yld i H x H' → ∃ F', Stp F H F' H' ∧ Dv K F' x d
  st : ∀ F H, Ex F1 F → Ex F H → J.stop items.length H
def DI (X : Fam K) (tg iter : Expr) (ρ : List Sl) (items : List D) : Prop := ∀ B F H σ (R : It → Hp → Prop), Hd K B F H ρ σ → (∀ J F' H', Stp F H F' H' → Itd K F' J items → R J H') → WI X tg iter σ H R
theorem DI.is {tg iter : Expr} {xs ys : List D} (h : DI X tg iter ρ xs) (e : xs = ys) : DI X tg iter ρ ys := e ▸ h
theorem pi_listK {Y : Cx} (hk : Y.K = K) {tg l : Expr} {tl : TE} (h : PE Y l tl) : PI Y tg l (iList K tl) := by subst hk; exact pi_list h
theorem pi_tupK {Y : Cx} (hk : Y.K = K) {tg l : Expr} {tl : TE} (h : PE Y l tl) : PI Y tg l (iTup K tl) := by subst hk; exact pi_tup h
theorem di_list {tg : Expr} {ds : List D} (h : DE X e ρ (.lst ds)) : DI X tg e ρ ds := fun B F H σ R hh q =>
  ⟨iList K (WE X e), fun j => pi_listK (X.hK j) (pe_w j), h B F H σ _ hh fun v F' H' s hv => by
    cases hv with
    | @lst a xs _ hs hv =>
      refine ⟨a, rfl, ⟨_, s.fh.sqL hs⟩, q _ F' H' s ⟨fun F2 H2 i e1 e2 hi => ?_, fun F2 H2 i x H3 d e1 e2 hd hy => ?_, fun F2 H2 e1 e2 => ⟨xs, (e1.trans e2).sqL hs, by rw [hv.length]; exact Nat.le_refl _⟩⟩⟩
      · have h1 : i < xs.length := by rw [hv.length]; exact hi
        exact ⟨xs, xs[i], (e1.trans e2).sqL hs, List.getElem?_eq_getElem h1⟩
      · obtain ⟨rfl, hz⟩ := hy
        obtain ⟨v, g1, g2⟩ := hv.get hd
        have := (hz xs ((e1.trans e2).sqL hs)).symm.trans g1
        cases this
        exact ⟨F2, Stp.refl e2, g2.mono e1⟩⟩
theorem di_tup {tg : Expr} {ds : List D} (h : DE X e ρ (.tup ds)) : DI X tg e ρ ds := fun B F H σ R hh q =>
  ⟨iTup K (WE X e), fun j => pi_tupK (X.hK j) (pe_w j), h B F H σ _ hh fun v F' H' s hv => by
    cases hv with
    | @tup a xs _ hs hv =>
      refine ⟨a, rfl, ⟨_, s.fh.sqT hs⟩, q _ F' H' s ⟨fun F2 H2 i e1 e2 hi => ?_, fun F2 H2 i x H3 d e1 e2 hd hy => ?_, fun F2 H2 e1 e2 => ⟨xs, (e1.trans e2).sqT hs, by rw [hv.length]; exact Nat.le_refl _⟩⟩⟩
      · have h1 : i < xs.length := by rw [hv.length]; exact hi
        exact ⟨xs, xs[i], (e1.trans e2).sqT hs, List.getElem?_eq_getElem h1⟩
      · obtain ⟨rfl, hz⟩ := hy
        obtain ⟨v, g1, g2⟩ := hv.get hd
        have := (hz xs ((e1.trans e2).sqT hs)).symm.trans g1
        cases this
        exact ⟨F2, Stp.refl e2, g2.mono e1⟩⟩
def rangeD (lo : Int) (n : Nat) : List D := (List.range n).map fun (k : Nat) => D.int (lo + (k : Int))
theorem rangeD_get {lo : Int} {n i : Nat} {d : D} (h : (rangeD lo n)[i]? = some d) : i < n ∧ d = .int (lo + (i : Int)) := by
  unfold rangeD at h
  rw [List.getElem?_map] at h
  cases q : (List.range n)[i]? with
  | none => rw [q] at h; cases h
  | some k =>
    rw [q] at h
    obtain ⟨h1, h2⟩ := List.getElem?_eq_some_iff.mp q
    rw [List.getElem_range] at h2
    rw [List.length_range] at h1
    subst h2
    exact ⟨h1, (Option.some.inj h).symm⟩
theorem rangeD_len {lo : Int} {n : Nat} : (rangeD lo n).length = n := by unfold rangeD; rw [List.length_map, List.length_range]
theorem itd_range {F1 : Hp} {lo : Int} {n : Nat} : Itd K F1 (Itr lo n) (rangeD lo n) :=
  ⟨fun F H i _ _ hi => by rw [rangeD_len] at hi; exact hi, fun F H i x H' d _ e2 hd hy => by
    obtain ⟨rfl, rfl⟩ := hy
    obtain ⟨_, rfl⟩ := rangeD_get hd
    exact ⟨F, Stp.refl e2, .int _⟩, fun F H _ _ => by rw [rangeD_len]; exact Nat.le_refl _⟩
theorem di_range1 {tg : Expr} {p : Pos} {n : Int} (h : DE X a ρ (.int n)) (hm : ∀ j, (X.X j).mg "range" = none) (b1 : -(2 ^ 62) ≤ n := by omega) (b2 : n < 2 ^ 62 := by omega) (hg : ∀ j, Gl (X.X j) "range" := by intro _; rfl) (hs : ∀ j, starEach [a] (X.X j).env = [(false, eval a (X.X j).env)] := by intro _; rfl) :
    DI X tg (.Call (.Name "range" p) [a] [] pos) ρ (rangeD 0 n.toNat) := fun B F H σ R hh q =>
  ⟨iRng1 (WA X [a]), fun j => pi_range1 (hg j) (hm j) (pa_w j) (hs j), da_cons h da_nil (fun j => (hs j).trans rfl) B F H σ _ hh fun vs F' H' s hv => by
    obtain ⟨x, rfl, hx⟩ := hv.one
    cases hx
    exact ⟨n, rfl, b1, b2, q _ F' H' s itd_range⟩⟩
theorem di_range2 {tg : Expr} {p : Pos} {m n : Int} (h : DE X a ρ (.int m)) (h2 : DE X b ρ (.int n)) (hm : ∀ j, (X.X j).mg "range" = none) (b1 : -(2 ^ 62) ≤ m := by omega) (b2 : m < 2 ^ 62 := by omega) (b3 : -(2 ^ 62) ≤ n := by omega) (b4 : n < 2 ^ 62 := by omega) (hg : ∀ j, Gl (X.X j) "range" := by intro _; rfl)
    (hs : ∀ j, starEach [a, b] (X.X j).env = [(false, eval a (X.X j).env), (false, eval b (X.X j).env)] := by intro _; rfl) (hs2 : ∀ j, starEach [b] (X.X j).env = [(false, eval b (X.X j).env)] := by intro _; rfl) :
    DI X tg (.Call (.Name "range" p) [a, b] [] pos) ρ (rangeD m (n - m).toNat) := fun B F H σ R hh q =>
  ⟨iRng2 (WA X [a, b]), fun j => pi_range2 (hg j) (hm j) (pa_w j) (hs j) (hs2 j), da_cons h (da_cons h2 da_nil (fun j => (hs2 j).trans rfl)) (fun j => by rw [hs j, hs2 j]) B F H σ _ hh fun vs F' H' s hv => by
    obtain ⟨x, y, rfl, hx, hy⟩ := hv.two
    cases hx; cases hy
    exact ⟨m, n, rfl, ⟨b1, b2, b3, b4⟩, q _ F' H' s itd_range⟩⟩
def signsD (z : Str) : List D := z.cps.toList.map fun n => D.str ⟨#[n]⟩
theorem di_str {tg : Expr} {z : Str} (h : DE X e ρ (.str z)) : DI X tg e ρ (signsD z) := fun B F H σ R hh q =>
  ⟨iStr (WE X e), fun j => pi_str (pe_w j), h B F H σ _ hh fun v F' H' s hv => by
    cases hv
    refine ⟨z, rfl, q _ F' H' s ⟨fun F H i _ _ hi => ?_, fun F H i x H' d _ e2 hd hy => ?_, fun F H _ _ => ?_⟩⟩
    · unfold signsD at hi
      rw [List.length_map, Array.length_toList] at hi
      exact hi
    · obtain ⟨rfl, n, hn, rfl⟩ := hy
      unfold signsD at hd
      rw [List.getElem?_map, Array.getElem?_toList, hn] at hd
      cases hd
      exact ⟨F, Stp.refl e2, .str _⟩
    · show z.cps.size ≤ _
      unfold signsD
      rw [List.length_map, Array.length_toList]
      exact Nat.le_refl _⟩

/-! ### for -/
theorem Wd.rebase {B F0 F1 H1 F H : Hp} (a : Wd B F0 F1 H1) (b : Wd B F1 F H) : Wd B F0 F H := ⟨a.f0.trans b.f0, b.fh, b.bh, fun p o z => by
  rcases b.nw p o z with z | z
  · exact a.nw p o z
  · exact .inr z⟩
/-- what a turn is to reach -/
def Turn1 (I : Nat → List Sl → Prop) (R : Out → Prop) (i : Nat) : Out → Prop
  | .nx ρ => I (i + 1) ρ
  | .ct ρ => I (i + 1) ρ
  | .bk ρ => R (.nx ρ)
  | .rt r => R (.rt r)
  | .ex ρ x => R (.ex ρ x)
theorem ds_for (ts : List Nat) {tg iter : Expr} {body : List Stmt} {items : List D} (I : Nat → List Sl → Prop) (hi : DI X tg iter ρ items) (h0 : I 0 ρ)
    (hs : ∀ i ρ' d, items[i]? = some d → I i ρ' → DG X tg d ρ' ts fun ρ2 => DSs X body ρ2 (Turn1 I R i)) (hd : ∀ ρ', I items.length ρ' → R (.nx ρ'))
    (hp : ∀ j, PassesOwn (model (X.X j).prog (X.X j).w) (X.X j).A (X.X j).env (X.X j).xe := by first | exact fun _ => PassesOwn.never | exact fun _ => passes_of rfl) (hc : ∀ j, (X.X j).calm = true := by intro _; rfl) (hf : ∀ j x, foldedSetIterable iter (X.X j).env x = pure x := by intro _ _; rfl) :
    DS X (.For tg iter body [] pos) ρ R := fun B F0 F H σ D w hh p => by
  refine ⟨tFor (WI X tg iter) (WG X tg) (WSs X body), fun j => ps_for (hp j) (hc j) (pi_w j) (pg_w j) (pss_w j) (hf j), ?_⟩
  refine hi B F H σ _ hh fun J F1 H1 s1 it => ?_
  have w1 := w.step s1
  refine ⟨fun i m σ' H' => ∃ ρ' F', i + m = items.length ∧ I i ρ' ∧ Wd B F1 F' H' ∧ Hd K B F' H' ρ' σ', ⟨items.length, ρ, F1, Nat.zero_add _, h0, ⟨Ex.refl _, s1.fh, w1.bh, fun _ _ z => .inl z⟩, hh.step s1⟩, ?_⟩
  rintro i m σ' H' ⟨ρ', F', him, hI, w', hh'⟩
  by_cases hlt : i < items.length
  · refine .inr ⟨it.go F' H' i w'.f0 w'.fh hlt, fun σ2 H2 => ∃ ρ2 F2, I (i + 1) ρ2 ∧ Wd B F1 F2 H2 ∧ Hd K B F2 H2 ρ2 σ2, fun σ2 H2 ⟨ρ2, F2, z1, z2, z3⟩ => ⟨m - 1, by omega, ρ2, F2, by omega, z1, z2, z3⟩, fun x H2 hy => ?_⟩
    obtain ⟨F2, s2, hv⟩ := it.yl F' H' i x H2 _ w'.f0 w'.fh (List.getElem?_eq_getElem hlt) hy
    refine hs i ρ' _ (List.getElem?_eq_getElem hlt) hI B F2 H2 σ' x _ (hh'.step s2) hv fun ρ3 σ3 z hh3 _ => ?_
    refine z B F1 F2 H2 σ3 _ (w'.step s2) hh3 ⟨fun ρ4 F4 H4 σ4 r4 w4 h4 => ⟨ρ4, F4, r4, w4, h4⟩, fun r v F4 H4 r4 w4 h4 => p.rt r v F4 H4 r4 (w1.rebase w4) h4, fun ρ4 F4 H4 σ4 r4 w4 h4 => p.nx ρ4 F4 H4 σ4 r4 (w1.rebase w4) h4, fun ρ4 F4 H4 σ4 r4 w4 h4 => ⟨ρ4, F4, r4, w4, h4⟩, fun ρ4 x c od F4 H4 σ4 r4 w4 h4 hx => p.ex ρ4 x c od F4 H4 σ4 r4 (w1.rebase w4) h4 hx⟩
  · have e : i = items.length := by omega
    subst e
    exact .inl ⟨it.st F' H' w'.f0 w'.fh, p.nx ρ' F' H' σ' (hd ρ' hI) (w1.rebase w') hh'⟩
theorem ds_while {body : List Stmt} (I : List Sl → Prop) (μ : List Sl → Nat) (h0 : I ρ)
    (hs : ∀ ρ', I ρ' → ∃ k, DT X c ρ' k ∧ (k = true → DSs X body ρ' fun o => match o with | .nx ρ2 => I ρ2 ∧ μ ρ2 < μ ρ' | .ct ρ2 => I ρ2 ∧ μ ρ2 < μ ρ' | .bk ρ2 => R (.nx ρ2) | .rt r => R (.rt r) | .ex ρ2 x => R (.ex ρ2 x)) ∧ (k = false → R (.nx ρ')))
    (hp : ∀ j, PassesOwn (model (X.X j).prog (X.X j).w) (X.X j).A (X.X j).env (X.X j).xe := by first | exact fun _ => PassesOwn.never | exact fun _ => passes_of rfl) : DS X (.While c body [] pos) ρ R := fun B F0 F H σ D w hh p => by
  refine ⟨tWhile (WT X c) (WSs X body), fun j => ps_while (hp j) (pt_w j) (pss_w j), ?_⟩
  refine ⟨fun m σ' H' => ∃ ρ' F', m = μ ρ' ∧ I ρ' ∧ Wd B F0 F' H' ∧ Hd K B F' H' ρ' σ', ⟨_, ρ, F, rfl, h0, w, hh⟩, ?_⟩
  rintro m σ' H' ⟨ρ', F', rfl, hI, w', hh'⟩
  obtain ⟨k, hk, h1, h2⟩ := hs ρ' hI
  refine hk B F' H' σ' _ hh' fun F2 H2 s2 => ?_
  cases k with
  | true =>
    refine iteT ⟨fun σ3 H3 => ∃ ρ3 F3, I ρ3 ∧ μ ρ3 < μ ρ' ∧ Wd B F0 F3 H3 ∧ Hd K B F3 H3 ρ3 σ3, fun σ3 H3 ⟨ρ3, F3, z1, z2, z3, z4⟩ => ⟨_, z2, ρ3, F3, rfl, z1, z3, z4⟩, ?_⟩
    refine h1 rfl B F0 F2 H2 σ' _ (w'.step s2) (hh'.step s2) ⟨fun ρ4 F4 H4 σ4 r4 w4 h4 => ⟨ρ4, F4, r4.1, r4.2, w4, h4⟩, fun r v F4 H4 r4 w4 h4 => p.rt r v F4 H4 r4 w4 h4, fun ρ4 F4 H4 σ4 r4 w4 h4 => p.nx ρ4 F4 H4 σ4 r4 w4 h4, fun ρ4 F4 H4 σ4 r4 w4 h4 => ⟨ρ4, F4, r4.1, r4.2, w4, h4⟩, fun ρ4 x c od F4 H4 σ4 r4 w4 h4 hx => p.ex ρ4 x c od F4 H4 σ4 r4 w4 h4 hx⟩
  | false => exact iteF (p.nx ρ' F2 H2 σ' (h2 rfl) (w'.step s2) (hh'.step s2))

/-! ### comprehensions -/
def wipeS (vs : List Nat) (ρ : List Sl) : List Sl := vs.foldr (fun i r => r.set i .any) ρ
theorem Hd.wipe {B F H : Hp} {σ : L2.St} (h : Hd K B F H ρ σ) : ∀ (vs : List Nat), Hd K B F H (wipeS vs ρ) (L2.wipe σ vs)
  | [] => h
  | v :: vs => (h.wipe vs).forget v none
theorem wipe_in {σ : L2.St} {i : Nat} : ∀ {vs : List Nat}, i ∈ vs → i < σ.length → (wipe σ vs)[i]? = some none
  | [], h, _ => nomatch h
  | v :: vs, h, hl => by
    show ((wipe σ vs).set v none)[i]? = some none
    by_cases e : v = i
    · subst e
      rw [List.getElem?_set_self (by rw [wipe_length]; exact hl)]
    · rw [List.getElem?_set_ne e]
      exact wipe_in (by rcases List.mem_cons.mp h with z | z; exact absurd z.symm e; exact z) hl
theorem wipe_same {σ σ' : L2.St} {ts vs : List Nat} (h : Same1 ts (wipe σ vs) σ') (hs : ∀ k, k ∈ ts → k ∈ vs) : wipe σ' vs = wipe σ vs := by
  have hl : σ'.length = σ.length := h.1.trans (wipe_length σ vs)
  apply List.ext_getElem?
  intro k
  by_cases hk : k ∈ vs
  · by_cases hlt : k < σ.length
    · rw [wipe_in hk (by rw [hl]; exact hlt), wipe_in hk hlt]
    · rw [List.getElem?_eq_none (by rw [wipe_length, hl]; omega), List.getElem?_eq_none (by rw [wipe_length]; omega)]
  · rw [wipe_out hk, h.2 k fun m => hk (hs k m)]
def WTs (X : Fam K) (e : List Expr) : TT := fun σ H Q => ∃ t, (∀ j, PTs (X.X j) e t) ∧ t σ H Q
theorem pts_w {es : List Expr} (j : X.ι) : PTs (X.X j) es (WTs X es) := ⟨fun pins s σ H Q I ⟨t, h, q⟩ => (h j).run pins s σ H Q I q⟩
def DTs (X : Fam K) (e : List Expr) (ρ : List Sl) (b : Bool) : Prop := ∀ B F H σ (Q : Bool → Hp → Prop), Hd K B F H ρ σ → (∀ F' H', Stp F H F' H' → Q b H') → WTs X e σ H Q
theorem dts_nil : DTs X [] ρ true := fun B F H σ Q hh q => ⟨_, fun _ => pts_nil, q F H (Stp.refl hh.fh)⟩
theorem dts_one {k : Bool} (h : DT X c ρ k) : DTs X [c] ρ k := fun B F H σ Q hh q => ⟨WT X c, fun j => pts_one (pt_w j), h B F H σ Q hh q⟩
theorem pe_lcF {X : Fam K} {elt tg iter : Expr} {ifs : List Expr} {scope : Scope} {own : List (Str × Nat)} (hc : ∀ j, (X.X j).calm = true) (hN : ∀ j, (X.X j).N.Nodup) (ok : ∀ j, BlkOk (X.X j).N (X.X j).env.scope scope own) (hs : ∀ j x, foldedSetIterable iter (X.X j).env x = pure x) (j : X.ι) :
    PE (X.X j) (.ListComp elt [⟨tg, iter, ifs, 0⟩] scope pos) (tLc (WI X tg iter) (WG (X.blk scope) tg) (WTs (X.blk scope) ifs) (WE (X.blk scope) elt) (own.map (·.2))) :=
  pe_lc (hc j) (hN j) (pi_w j) (ok j) (fun s H C cl fp => pg_w (X := X.blk scope) (j, s, H, C, cl, fp)) (fun s H C cl fp => pts_w (X := X.blk scope) (j, s, H, C, cl, fp)) (fun s H C cl fp => pe_w (X := X.blk scope) (j, s, H, C, cl, fp)) (hs j)
theorem tLc_data {α : Type} {xs : List α} {g f : α → D} {q : α → Bool} {X : Fam K} {elt tg iter : Expr} {ifs : List Expr} {scope : Scope} {vs ts : List Nat} (hi : DI X tg iter ρ (xs.map g)) (hts : ∀ k, k ∈ ts → k ∈ vs) (hlen : xs.length < 100000)
    (hs : ∀ x, x ∈ xs → DG (X.blk scope) tg (g x) (wipeS vs ρ) ts fun ρ2 => DTs (X.blk scope) ifs ρ2 (q x) ∧ (q x = true → DE (X.blk scope) elt ρ2 (f x)))
    (B F H : Hp) (σ : L2.St) (Q : VK) (hh : Hd K B F H ρ σ) (hq : ∀ p ws F' H', Stp F H F' H' → H p = none → F' p = none → H' p = some (.lst ws) → Dvs K F' ws ((xs.filter q).map f) → Q (.ref p) H') :
    tLc (WI X tg iter) (WG (X.blk scope) tg) (WTs (X.blk scope) ifs) (WE (X.blk scope) elt) vs σ H Q := by
  refine hi B F H σ _ hh fun J F1 H1 s1 it => ?_
  intro P hP
  have hh1 := hh.step s1
  refine ⟨fun i m H' => ∃ F' acc, i + m = xs.length ∧ Stp F1 H1 F' H' ∧ F' P = none ∧ H' P = some (.lst acc) ∧ Dvs K F' acc (((xs.take i).filter q).map f), ⟨xs.length, F1, [], Nat.zero_add _, Stp.own s1.fh hP, s1.fh.back hP, upd_same, .nil⟩, ?_⟩
  rintro i m H' ⟨F', acc, him, s', hfP, hHP, hacc⟩
  by_cases hlt : i < xs.length
  · have hgi : (xs.map g)[i]? = some (g xs[i]) := by rw [List.getElem?_map, List.getElem?_eq_getElem hlt]; rfl
    refine .inr ⟨it.go F' H' i s'.ff s'.fh (by rw [List.length_map]; exact hlt), fun H2 => ∃ F2 acc2, Stp F1 H1 F2 H2 ∧ F2 P = none ∧ H2 P = some (.lst acc2) ∧ Dvs K F2 acc2 (((xs.take (i + 1)).filter q).map f), fun H2 ⟨F2, acc2, z1, z2, z3, z4⟩ => ⟨m - 1, by omega, F2, acc2, by omega, z1, z2, z3, z4⟩, fun x H2 hy => ?_⟩
    obtain ⟨F2, s2, hv⟩ := it.yl F' H' i x H2 _ s'.ff s'.fh hgi hy
    have keepP : ∀ {Fa Ha Fb Hb : Hp}, Stp Fa Ha Fb Hb → Fa P = none → Ha P = some (.lst acc) → Fb P = none ∧ Hb P = some (.lst acc) := fun {Fa Ha Fb Hb} sp h1 h2 => by
      refine ⟨?_, sp.hh _ _ h2⟩
      cases z : Fb P with
      | none => rfl
      | some o =>
        rcases sp.nw P o z with y | y
        · rw [h1] at y; cases y
        · rw [h2] at y; cases y
    obtain ⟨f2, h2⟩ := keepP s2 hfP hHP
    have s12 := s'.trans s2
    have hw : Hd K B F2 H2 (wipeS vs ρ) (L2.wipe σ vs) := (hh1.step s12).wipe vs
    refine hs xs[i] (List.getElem_mem hlt) B F2 H2 _ x _ hw hv fun ρ3 σ3 z hh3 sm => ⟨wipe_same sm hts, ?_⟩
    refine z.1 B F2 H2 σ3 _ hh3 fun F3 H3 s3 => ?_
    obtain ⟨f3, h3⟩ := keepP s3 f2 h2
    have s13 := s12.trans s3
    have et : (xs.take (i + 1)).filter q = (xs.take i).filter q ++ (if q xs[i] = true then [xs[i]] else []) := by
      rw [List.take_succ, List.getElem?_eq_getElem hlt, List.filter_append]
      cases hqi : q xs[i] <;> simp [hqi]
    cases hqi : q xs[i] with
    | true =>
      refine iteT (z.2 hqi B F3 H3 σ3 _ (hh3.step s3) fun y F4 H4 s4 hy4 => ?_)
      obtain ⟨f4, h4⟩ := keepP s4 f3 h3
      have s14 := s13.trans s4
      have hal : acc.length < sizeLine := by
        rw [hacc.length, List.length_map]
        refine small_lt (Nat.lt_of_le_of_lt (List.length_filter_le _ _) ?_)
        rw [List.length_take]
        omega
      refine ⟨acc, h4, hal, F4, acc ++ [y], ⟨s14.ff, fun a o e => ?_, fun a o e => ?_, s14.nw⟩, f4, upd_same, ?_⟩
      · rw [upd_ne (ne_of_none e f4)]; exact s14.fh a o e
      · rw [upd_ne (ne_of_none e hP)]; exact s14.hh a o e
      · rw [et, hqi, if_pos rfl, List.map_append]
        exact (hacc.mono (s2.ff.trans (s3.ff.trans s4.ff))).snoc hy4
    | false =>
      refine iteF ⟨F3, acc, s13, f3, h3, ?_⟩
      rw [et, hqi, if_neg Bool.false_ne_true, List.append_nil]
      exact hacc.mono (s2.ff.trans s3.ff)
  · have e : i = xs.length := by omega
    subst e
    have hst := it.st F' H' s'.ff s'.fh
    rw [List.length_map] at hst
    rw [List.take_length] at hacc
    exact .inl ⟨hst, hq P acc F' H' (s1.trans s') (s1.hh.back hP) hfP hHP hacc⟩
/-- [elt for tg in iter if test], the block's own names by slot: own -/
theorem dl_lc {α : Type} {xs : List α} {g f : α → D} {q : α → Bool} {X : Fam K} {elt tg iter : Expr} {ifs : List Expr} {scope : Scope} (own : List (Str × Nat)) (hi : DI X tg iter ρ (xs.map g)) (hlen : xs.length < 100000)
    (hs : ∀ x, x ∈ xs → DG (X.blk scope) tg (g x) (wipeS (own.map (·.2)) ρ) (own.map (·.2)) fun ρ2 => DTs (X.blk scope) ifs ρ2 (q x) ∧ (q x = true → DE (X.blk scope) elt ρ2 (f x)))
    (hN : ∀ j, (X.X j).N.Nodup) (ok : ∀ j, BlkOk (X.X j).N (X.X j).env.scope scope own) (hc : ∀ j, (X.X j).calm = true := by intro _; rfl) (hf : ∀ j x, foldedSetIterable iter (X.X j).env x = pure x := by intro _ _; rfl) :
    DL X (.ListComp elt [⟨tg, iter, ifs, 0⟩] scope pos) ρ ((xs.filter q).map f) := fun B F H σ Q hh hq =>
  ⟨_, fun j => pe_lcF hc hN ok hf j, tLc_data hi (fun _ h => h) hlen hs B F H σ Q hh hq⟩
theorem dl_lc1 {α : Type} {xs : List α} {g f : α → D} {X : Fam K} {elt tg iter : Expr} {scope : Scope} (own : List (Str × Nat)) (hi : DI X tg iter ρ (xs.map g)) (hlen : xs.length < 100000)
    (hs : ∀ x, x ∈ xs → DG (X.blk scope) tg (g x) (wipeS (own.map (·.2)) ρ) (own.map (·.2)) fun ρ2 => DE (X.blk scope) elt ρ2 (f x))
    (hN : ∀ j, (X.X j).N.Nodup) (ok : ∀ j, BlkOk (X.X j).N (X.X j).env.scope scope own) (hc : ∀ j, (X.X j).calm = true := by intro _; rfl) (hf : ∀ j x, foldedSetIterable iter (X.X j).env x = pure x := by intro _ _; rfl) :
    DL X (.ListComp elt [⟨tg, iter, [], 0⟩] scope pos) ρ (xs.map f) := by
  have h := dl_lc (q := fun _ => true) (pos := pos) own hi hlen (fun x hx B F H σ v Q hh hv k => hs x hx B F H σ v Q hh hv fun ρ' σ' z => k ρ' σ' ⟨dts_nil, fun _ => z⟩) hN ok hc hf
  rw [List.filter_eq_self.mpr fun _ _ => rfl] at h
  exact h

/-! ### a def -/
theorem start_len (N : List Str) (vs : List V) (h : vs.length ≤ N.length) : (L2.start N vs).length = N.length := by
  unfold L2.start
  rw [List.length_append, List.length_map, List.length_replicate]
  omega
def startS (N : List Str) (ds : List D) : List Sl := ds.map Sl.val ++ List.replicate (N.length - ds.length) .any
theorem start_hd {N : List Str} {F H : Hp} {vs : List V} {ds : List D} (e : Ex F H) (h : Dvs K F vs ds) : Hd K H F H (startS N ds) (L2.start N vs) where
  fh := e
  val := fun i d q => by
    unfold startS at q
    by_cases hi : i < ds.length
    · rw [List.getElem?_append_left (by rw [List.length_map]; exact hi), List.getElem?_map, List.getElem?_eq_getElem hi] at q
      cases q
      obtain ⟨v, h1, h2⟩ := h.get (List.getElem?_eq_getElem hi)
      refine ⟨v, ?_, h2⟩
      unfold L2.start
      rw [List.getElem?_append_left (by rw [List.length_map, h.length]; exact hi), List.getElem?_map, h1]
      rfl
    · rw [List.getElem?_append_right (by rw [List.length_map]; omega), List.getElem?_replicate] at q
      split at q <;> cases q
  own := fun i d q => by
    unfold startS at q
    by_cases hi : i < ds.length
    · rw [List.getElem?_append_left (by rw [List.length_map]; exact hi), List.getElem?_map, List.getElem?_eq_getElem hi] at q
      cases q
    · rw [List.getElem?_append_right (by rw [List.length_map]; omega), List.getElem?_replicate] at q
      split at q <;> cases q
  sep := fun i _ d _ _ q => by
    unfold startS at q
    by_cases hi : i < ds.length
    · rw [List.getElem?_append_left (by rw [List.length_map]; exact hi), List.getElem?_map, List.getElem?_eq_getElem hi] at q
      cases q
    · rw [List.getElem?_append_right (by rw [List.length_map]; omega), List.getElem?_replicate] at q
      split at q <;> cases q
  len := by
    unfold startS L2.start
    rw [List.length_append, List.length_append, List.length_map, List.length_map, List.length_replicate, List.length_replicate, h.length]
  raw := fun i d P q => by
    unfold startS at q
    by_cases hi : i < ds.length
    · rw [List.getElem?_append_left (by rw [List.length_map]; exact hi), List.getElem?_map, List.getElem?_eq_getElem hi] at q
      cases q
    · rw [List.getElem?_append_right (by rw [List.length_map]; omega), List.getElem?_replicate] at q
      split at q <;> cases q
/-- what a body is to reach -/
def Ret (R : Rs → Prop) : Out → Prop
  | .rt r => R r
  | .nx _ => R (.val .non)
  | _ => False
theorem fn_data {P : Program} {w : World} {mg : Str → Option Value} {base : Heap} {x qual : Str} {st : Stmt} {f : Addr} {fd : FuncData} {N ps : List Str} {k : Nat} {φ : SpecD} (Fu : Fun K x qual st f fd) (S : FnScope N ps (defScope st)) (hl : ∀ ds R, φ ds R → ds.length = ps.length)
    (body : ∀ (cdv : Value) (A : Around) (outer : List Env) (s : Shared) (H : Hp) (E : XK), Room k (A.deeper (envOfC qual (defScope st) s.heap.objs.size f cdv)) → ∀ ds R, φ ds R →
      DSs (K := K) ⟨Unit, fun _ => (cxOf CX0 P w K mg base N qual (defScope st) f cdv A outer s H E).nox, fun _ => rfl, W0, fun _ => takes0⟩ (defBody st) (startS N ds) (Ret R)) : FnOk P w K mg base CX0 (k + 1) f fd ps (spD K φ) := by
  refine Fu.ok S (fun vs H Q E h => ?_) (fun cdv A outer s H vs Q E hr h => ?_)
  · obtain ⟨F, ds, r, e, hv, hφ, _⟩ := h
    rw [hv.length]; exact hl ds r hφ
  · obtain ⟨F, ds, R, e, hv, hφ, q⟩ := h
    obtain ⟨t, h1, h2⟩ := body cdv A outer s H E hr ds R hφ H F F H (L2.start N vs) { nx := fun _ H' => Q .non H', rt := Q } ⟨Ex.refl F, e, Ex.refl H, fun _ _ z => .inl z⟩ (start_hd e hv)
      ⟨fun ρ F' H' σ z w' hh => q (.val .non) _ F' H' z w' .non, fun r' v F' H' z w' hr' => q r' v F' H' z w' hr', fun _ _ _ _ z => z.elim, fun _ _ _ _ z => z.elim, fun _ _ _ _ _ _ _ z => z.elim⟩
    exact ⟨t, h1 (), h2⟩
/-- x = f(..), whatever it answers -/
theorem ds_setC (i : Nat) {x y : Str} {p' p : Pos} {φ : SpecD} {es : List Expr} {ds : List D} (Fk : Has X y φ) (ha : DA X (e :: es) ρ ds) (hφ : φ ds fun r => match r with | .val d => R (.nx (ρ.set i (.val d))) | .new os => R (.nx (ρ.set i (.own os)))) (hN : ∀ j, (X.X j).N.Nodup) {cpos : Pos} (hi : ∀ j, (X.X j).N[i]? = some x := by intro _; rfl) (hx : ∀ j, Loc (X.X j).env.scope x := by first | exact fun _ => Or.inl rfl | exact fun _ => Or.inr rfl)
    (hs : ∀ j, swapsWith (.Call (.Name y p) (e :: es) [] cpos) (some (.Name x p')) pos.line (X.X j).env = pure false := by intro _; rfl) (hf : ∀ j, (X.X j).fn x = true ∨ (X.X j).env.scope.names.lookup x = some .local := by first | exact fun _ => .inl rfl | exact fun _ => .inr rfl)
    (hg : ∀ j, Gl (X.X j) y := by intro _; rfl)
    (hdb : (y == ("__debug__" : Str)) = false := by decide) (he : ∀ j, starEach (e :: es) (X.X j).env = (false, eval e (X.X j).env) :: starEach es (X.X j).env := by intro _; rfl) (hpl : ∀ j, (backTo cpos (starEach es (X.X j).env)).any (·.1) = false := by intro _; rfl) :
    DS X (.Assign [.Name x p'] (.Call (.Name y p) (e :: es) [] cpos) pos) ρ R := fun B F0 F H σ D w hh p =>
  ⟨tAsg (WE X _) (gName i), fun j => ps_set (hN j) (hi j) (hx j) (pe_w j) (hs j) (hf j), we_call Fk ha hφ hg hdb he hpl hh fun r v F' H' hr s rv => by
    cases r with
    | val d => exact p.nx _ F' H' _ hr (w.step s) ((hh.step s).set rv i)
    | new os =>
      obtain ⟨q, vs, rfl, e1, e2, e3, e4⟩ := rv
      exact p.nx _ F' H' _ hr (w.step s) ((hh.step s).setOwn (i := i) (w.bh.back e1) e2 e3 e4 (fun j es ej _ => hh.fresh e1 j es ej) rfl)⟩
theorem ds_retC {y : Str} {p : Pos} {φ : SpecD} {es : List Expr} {ds : List D} (Fk : Has X y φ) (ha : DA X (e :: es) ρ ds) (hφ : φ ds fun r => R (.rt r)) {cpos : Pos}
    (hg : ∀ j, Gl (X.X j) y := by intro _; rfl)
    (hdb : (y == ("__debug__" : Str)) = false := by decide) (he : ∀ j, starEach (e :: es) (X.X j).env = (false, eval e (X.X j).env) :: starEach es (X.X j).env := by intro _; rfl) (hpl : ∀ j, (backTo cpos (starEach es (X.X j).env)).any (·.1) = false := by intro _; rfl) :
    DS X (.Return (some (.Call (.Name y p) (e :: es) [] cpos)) pos) ρ R := fun B F0 F H σ D w hh p =>
  ⟨tRet (WE X _), fun j => ps_ret (pe_w j), we_call Fk ha hφ hg hdb he hpl hh fun r v F' H' hr s rv => p.rt r v F' H' hr (w.step s) (by
    cases r with
    | val d => exact rv
    | new os =>
      obtain ⟨q, vs, rfl, e1, e2, e3, e4⟩ := rv
      exact ⟨q, vs, rfl, w.bh.back e1, e2, e3, e4⟩)⟩
end
end Yp

namespace Yp
open PySem PySem.Spec PyProof.Rows L2
section
variable {K : PySem.W.Frag} {X : Fam K} {ρ : List Sl} {R R' : Out → Prop} {st : Stmt} {rest : List Stmt} {a b c e : Expr} {da db dc d : D} {pos : Pos}
/-! ### isinstance -/
def tyName : D → String
  | .non => "NoneType" | .bl _ => "bool" | .int _ => "int" | .str _ => "str" | .lst _ => "list" | .tup _ => "tuple" | .dct _ => "dict"
def isTy (d : D) (T : String) : Bool := tyName d == T || (tyName d == "bool" && T == "int")
theorem kit_tab : ∀ a ∈ ["NoneType", "bool", "int", "str", "list", "tuple", "dict"], ∀ T ∈ ["int", "bool", "str", "list", "tuple"], kitB a T = some (a == T || (a == "bool" && T == "int")) := by decide +kernel
theorem kit_isTy (d : D) {T : String} (h : T ∈ ["int", "bool", "str", "list", "tuple"]) : kitB (tyName d) T = some (isTy d T) := by
  refine kit_tab (tyName d) ?_ T h
  cases d <;> simp [tyName]
theorem Dv.tyX {F H : Hp} {v : V} (e : Ex F H) (h : Dv K F v d) : TyX K H v (.type (tyName d)) := by
  cases h with
  | non => exact .base .non
  | bl b => exact .base (.bl b)
  | int i => exact .base (.int i)
  | str s => exact .base (.str s)
  | lst hs _ =>
    rcases e.sqL hs with (h | ⟨o, h⟩) | ⟨o, its, n, h1, h2, _⟩
    · exact .base (.lst h)
    · exact .base (.frz h)
    · exact .kList h1 h2
  | tup hs _ =>
    rcases e.sqT hs with (h | ⟨o, h⟩) | ⟨o, its, n, h1, h2, _⟩
    · exact .base (.tup h)
    · exact .fTuple h
    · exact .kTuple h1 h2
  | dct hs _ => exact .base (.dK (e _ _ hs))
theorem call_isiK2 {Y : Cx} (hk : Y.K = K) : CallR Y (.builtin "isinstance") (rIsi K) := by subst hk; exact call_isi
theorem de_isi {T : String} {x : Str} {p p2 : Pos} (ha : DE X a ρ d) (hm : ∀ j, (X.X j).mg "isinstance" = none) (hm2 : ∀ j, (X.X j).mg x = none) (hv : bootBuiltins x = some (.type T)) (hT : T ∈ ["int", "bool", "str", "list", "tuple"] := by decide)
    (hg : ∀ j, Gl (X.X j) "isinstance" := by intro _; rfl) (hg2 : ∀ j, Gl (X.X j) x := by intro _; rfl) (hn : x ≠ "__name__" := by decide) (hdb : (x == ("__debug__" : Str)) = false := by decide)
    (he : ∀ j, starEach [a, .Name x p2] (X.X j).env = (false, eval a (X.X j).env) :: starEach [.Name x p2] (X.X j).env := by intro _; rfl)
    (he2 : ∀ j, starEach [.Name x p2] (X.X j).env = (false, eval (.Name x p2) (X.X j).env) :: starEach [] (X.X j).env := by intro _; rfl)
    (hpl : ∀ j, (backTo pos (starEach [.Name x p2] (X.X j).env)).any (·.1) = false := by intro _; rfl) :
    DE X (.Call (.Name "isinstance" p) [a, .Name x p2] [] pos) ρ (.bl (isTy d T)) := fun B F H σ Q hh q =>
  ⟨tCB (rIsi K) (tCons (WE X a) (tCons (tC (.ty T)) tNil)), fun j => pe_callB (call_isiK2 (X.hK j)) (hg j) (hm j) (by decide +kernel) (pa_cons (pe_w j) (pa_cons (pe_bltn (hg2 j) (hm2 j) hv rfl hn hdb) pa_nil (he2 j)) (he j)) (by decide) (by decide) (he j) (hpl j),
    ha B F H σ _ hh fun v F' H' s hv' => ⟨v, .ty T, _, _, _, rfl, .ty T, hv'.tyX s.fh, kit_ty (kit_isTy d hT), q _ F' H' s (.bl _)⟩⟩

/-- the law itself, called with the script -/
theorem law_start {K : PySem.W.Frag} {H : Hp} {a : Addr} {ns : List Int} {E : XK} {φ : SpecD} (hS : SqL K H a (ns.map V.int)) (hφ : ∀ R : Rs → Prop, R (.val (.bl true)) → φ [.lst (ns.map .int)] R) : spD K φ [.ref a] H (fun v _ => v = .bl true) E :=
  ⟨H, _, fun r => r = .val (.bl true), Ex.refl H, .cons (.lst hS .of_ints) .nil, hφ _ rfl, fun r v F' H' hr w rv => by subst hr; cases rv; rfl⟩
end
end Yp

namespace Yp
open PySem PySem.Spec PyProof.Rows L2
section
variable {K : PySem.W.Frag} {X : Fam K} {ρ : List Sl} {R R' : Out → Prop} {st : Stmt} {rest : List Stmt} {a b c e : Expr} {da db dc d : D} {pos : Pos}
/-! ### the text's defs as facts -/
structure Df (K : PySem.W.Frag) (mg : Str → Option Value) (x : Str) (st : Stmt) (ps : List Str) : Prop where
  ex : ∃ f fd, Fun K x x st f fd ∧ Binds K fd ps [] ∧ mg x = some (.ref f)
theorem has_of {P : Program} {w : World} {mg : Str → Option Value} {base : Heap} {x : Str} {st : Stmt} {ps : List Str} {k : Nat} {φ : SpecD} (T : Df K mg x st ps) (h : ∀ f fd, Fun K x x st f fd → FnOk P w K mg base CX0 k f fd ps (spD K φ)) (hr : ∀ j, Room k (X.X j).A)
    (hX : ∀ j, (X.X j).prog = P ∧ (X.X j).w = w ∧ (X.X j).mg = mg ∧ (X.X j).base = base := by exact fun _ => ⟨rfl, rfl, rfl, rfl⟩) : Has X x φ := by
  obtain ⟨f, fd, F, b, g⟩ := T.ex
  refine ⟨k, f, fd, ps, fun j => ?_, hr, fun j => ?_, F.kp, b⟩
  · obtain ⟨h1, h2, h3, h4⟩ := hX j
    rw [h1, h2, h3, h4]; exact h f fd F
  · rw [(hX j).2.2.1]; exact g
/-! ### defs that may raise -/
abbrev SpecX := List D → (Rs → Prop) → (Xd → Prop) → Prop
def spX (K : PySem.W.Frag) (φ : SpecX) : Sp := fun vs H Q E => ∃ F ds R T, Ex F H ∧ Dvs K F vs ds ∧ φ ds R T ∧ (∀ r v F' H', R r → Wd H F F' H' → Rv K H F' H' v r → Q v H') ∧ ∀ x cls od F' H', T x → Wd H F F' H' → Xv K F' cls od x → E cls od H'
structure HasX (X : Fam K) (x : Str) (φ : SpecX) : Prop where
  ex : ∃ (k : Nat) (f : Addr) (fd : FuncData) (ps : List Str), (∀ j, FnOk (X.X j).prog (X.X j).w K (X.X j).mg (X.X j).base (L2.CX (X.X j).prog (X.X j).w) k f fd ps (spX K φ)) ∧ (∀ j, Room k (X.X j).A) ∧ (∀ j, (X.X j).mg x = some (.ref f)) ∧
    PySem.W.keepIn K (.ref f) = true ∧ Binds K fd ps []
theorem hasX_of {P : Program} {w : World} {mg : Str → Option Value} {base : Heap} {x : Str} {st : Stmt} {ps : List Str} {k : Nat} {φ : SpecX} (T : Df K mg x st ps) (h : ∀ f fd, Fun K x x st f fd → FnOk P w K mg base (L2.CX P w) k f fd ps (spX K φ)) (hr : ∀ j, Room k (X.X j).A)
    (hX : ∀ j, (X.X j).prog = P ∧ (X.X j).w = w ∧ (X.X j).mg = mg ∧ (X.X j).base = base := by exact fun _ => ⟨rfl, rfl, rfl, rfl⟩) : HasX X x φ := by
  obtain ⟨f, fd, F, b, g⟩ := T.ex
  refine ⟨k, f, fd, ps, fun j => ?_, hr, fun j => ?_, F.kp, b⟩
  · obtain ⟨h1, h2, h3, h4⟩ := hX j
    rw [h1, h2, h3, h4]; exact h f fd F
  · rw [(hX j).2.2.1]; exact g
theorem HasX.blk {x : Str} {φ : SpecX} {scope : Scope} (h : HasX X x φ) : HasX (X.blk scope) x φ := by
  obtain ⟨k, f, fd, ps, h1, h2, h3, h4, h5⟩ := h.ex
  exact ⟨k, f, fd, ps, fun j => h1 j.1, fun j => h2 j.1, fun j => h3 j.1, h4, h5⟩
theorem we_callX {x : Str} {φ : SpecX} {es : List Expr} {ds : List D} {p : Pos} {R : Rs → Prop} {T : Xd → Prop} (Fk : HasX X x φ) (ha : DA X (e :: es) ρ ds) (hφ : φ ds R T)
    (hg : ∀ j, Gl (X.X j) x := by intro _; rfl)
    (hdb : (x == ("__debug__" : Str)) = false := by decide) (he : ∀ j, starEach (e :: es) (X.X j).env = (false, eval e (X.X j).env) :: starEach es (X.X j).env := by intro _; rfl) (hpl : ∀ j, (backTo pos (starEach es (X.X j).env)).any (·.1) = false := by intro _; rfl)
    {B F H : Hp} {σ : L2.St} {Q : VK} (hh : Hd K B F H ρ σ) (q : ∀ r v F' H', R r → Stp F H F' H' → Rv K H F' H' v r → Q v H') (qx : ∀ x cls od F' H', T x → Stp F H F' H' → Xv K F' cls od x → X.W cls od σ H') :
    WE X (.Call (.Name x p) (e :: es) [] pos) σ H Q := by
  obtain ⟨k, f, fd, ps, h1, h2, h3, h4, h5⟩ := Fk.ex
  refine ⟨tCallS (spX K φ) (fun σ cls d H => X.W cls d σ H) (WA X _), fun j => pe_callS (X := X.X j) (k := k) (f := f) (fd := fd) (ps := ps) ((X.hK j).symm ▸ h1 j) (h2 j) (hg j) (h3 j) ((X.hK j).symm ▸ h4) ((X.hK j).symm ▸ h5) (fun σ => passAt (X.tk j) σ) (pa_w j) hdb (he j) (hpl j), ?_⟩
  refine ha B F H σ _ hh fun vs F1 H1 s1 v1 => ⟨F1, ds, R, T, s1.fh, v1, hφ, fun r v F2 H2 hr w2 r2 => q r v F2 H2 hr (s1.trans w2.stp) ?_, fun x cls od F2 H2 ht w2 hx => qx x cls od F2 H2 ht (s1.trans w2.stp) hx⟩
  cases r with
  | val d => exact r2
  | new ds =>
    obtain ⟨p, us, rfl, e1, e2, e3, e4⟩ := r2
    exact ⟨p, us, rfl, s1.hh.back e1, e2, e3, e4⟩
theorem de_callX {x : Str} {φ : SpecX} {es : List Expr} {ds : List D} {p : Pos} (Fk : HasX X x φ) (ha : DA X (e :: es) ρ ds) (hφ : φ ds (fun r => r = .val d) fun _ => False)
    (hg : ∀ j, Gl (X.X j) x := by intro _; rfl)
    (hdb : (x == ("__debug__" : Str)) = false := by decide) (he : ∀ j, starEach (e :: es) (X.X j).env = (false, eval e (X.X j).env) :: starEach es (X.X j).env := by intro _; rfl) (hpl : ∀ j, (backTo pos (starEach es (X.X j).env)).any (·.1) = false := by intro _; rfl) :
    DE X (.Call (.Name x p) (e :: es) [] pos) ρ d := fun B F H σ Q hh q => we_callX Fk ha hφ hg hdb he hpl hh (fun r v F' H' hr s rv => by
  subst hr; exact q v F' H' s rv) fun _ _ _ _ _ h => h.elim
/-- x = f(..), which may raise -/
theorem ds_setCX (i : Nat) {x y : Str} {p' p : Pos} {φ : SpecX} {es : List Expr} {ds : List D} (Fk : HasX X y φ) (ha : DA X (e :: es) ρ ds) (hφ : φ ds (fun r => match r with | .val d => R (.nx (ρ.set i (.val d))) | .new os => R (.nx (ρ.set i (.own os)))) fun x => R (.ex ρ x)) (hN : ∀ j, (X.X j).N.Nodup) {cpos : Pos} (hi : ∀ j, (X.X j).N[i]? = some x := by intro _; rfl) (hx : ∀ j, Loc (X.X j).env.scope x := by first | exact fun _ => Or.inl rfl | exact fun _ => Or.inr rfl)
    (hs : ∀ j, swapsWith (.Call (.Name y p) (e :: es) [] cpos) (some (.Name x p')) pos.line (X.X j).env = pure false := by intro _; rfl) (hf : ∀ j, (X.X j).fn x = true ∨ (X.X j).env.scope.names.lookup x = some .local := by first | exact fun _ => .inl rfl | exact fun _ => .inr rfl)
    (hg : ∀ j, Gl (X.X j) y := by intro _; rfl)
    (hdb : (y == ("__debug__" : Str)) = false := by decide) (he : ∀ j, starEach (e :: es) (X.X j).env = (false, eval e (X.X j).env) :: starEach es (X.X j).env := by intro _; rfl) (hpl : ∀ j, (backTo cpos (starEach es (X.X j).env)).any (·.1) = false := by intro _; rfl) :
    DS X (.Assign [.Name x p'] (.Call (.Name y p) (e :: es) [] cpos) pos) ρ R := fun B F0 F H σ D w hh p =>
  ⟨tAsg (Yp.WE X _) (gName i), fun j => ps_set (hN j) (hi j) (hx j) (pe_w j) (hs j) (hf j), we_callX Fk ha hφ hg hdb he hpl hh (fun r v F' H' hr s rv => by
    cases r with
    | val d => exact p.nx _ F' H' _ hr (w.step s) ((hh.step s).set rv i)
    | new os =>
      obtain ⟨q, vs, rfl, e1, e2, e3, e4⟩ := rv
      exact p.nx _ F' H' _ hr (w.step s) ((hh.step s).setOwn (i := i) (w.bh.back e1) e2 e3 e4 (fun j es ej _ => hh.fresh e1 j es ej) rfl)) fun x cls od F' H' hx s xv => p.ex ρ x cls od F' H' σ hx (w.step s) (hh.step s) xv⟩
/-- f(..) as a statement, which may raise -/
theorem ds_exprCX {y : Str} {p : Pos} {φ : SpecX} {es : List Expr} {ds : List D} (Fk : HasX X y φ) (ha : DA X (e :: es) ρ ds) (hφ : φ ds (fun _ => R (.nx ρ)) fun x => R (.ex ρ x)) {cpos : Pos}
    (hs : ∀ j, swapsWith (.Call (.Name y p) (e :: es) [] cpos) none pos.line (X.X j).env = pure false := by intro _; rfl)
    (hg : ∀ j, Gl (X.X j) y := by intro _; rfl)
    (hdb : (y == ("__debug__" : Str)) = false := by decide) (he : ∀ j, starEach (e :: es) (X.X j).env = (false, eval e (X.X j).env) :: starEach es (X.X j).env := by intro _; rfl) (hpl : ∀ j, (backTo cpos (starEach es (X.X j).env)).any (·.1) = false := by intro _; rfl) :
    DS X (.Expr (.Call (.Name y p) (e :: es) [] cpos) pos) ρ R := fun B F0 F H σ D w hh p =>
  ⟨tDrop (Yp.WE X _), fun j => ps_expr (pe_w j) (hs j), we_callX Fk ha hφ hg hdb he hpl hh (fun r v F' H' hr s rv => p.nx ρ F' H' σ hr (w.step s) (hh.step s)) fun x cls od F' H' hx s xv => p.ex ρ x cls od F' H' σ hx (w.step s) (hh.step s) xv⟩
theorem ds_retCX {y : Str} {p : Pos} {φ : SpecX} {es : List Expr} {ds : List D} (Fk : HasX X y φ) (ha : DA X (e :: es) ρ ds) (hφ : φ ds (fun r => R (.rt r)) fun x => R (.ex ρ x)) {cpos : Pos}
    (hg : ∀ j, Gl (X.X j) y := by intro _; rfl)
    (hdb : (y == ("__debug__" : Str)) = false := by decide) (he : ∀ j, starEach (e :: es) (X.X j).env = (false, eval e (X.X j).env) :: starEach es (X.X j).env := by intro _; rfl) (hpl : ∀ j, (backTo cpos (starEach es (X.X j).env)).any (·.1) = false := by intro _; rfl) :
    DS X (.Return (some (.Call (.Name y p) (e :: es) [] cpos)) pos) ρ R := fun B F0 F H σ D w hh p =>
  ⟨tRet (Yp.WE X _), fun j => ps_ret (pe_w j), we_callX Fk ha hφ hg hdb he hpl hh (fun r v F' H' hr s rv => p.rt r v F' H' hr (w.step s) (by
    cases r with
    | val d => exact rv
    | new os =>
      obtain ⟨q, vs, rfl, e1, e2, e3, e4⟩ := rv
      exact ⟨q, vs, rfl, w.bh.back e1, e2, e3, e4⟩)) fun x cls od F' H' hx s xv => p.ex ρ x cls od F' H' σ hx (w.step s) (hh.step s) xv⟩
def RetX (R : Rs → Prop) (T : Xd → Prop) : Out → Prop
  | .rt r => R r
  | .nx _ => R (.val .non)
  | .ex _ x => T x
  | _ => False
/-- the frame of a def that may raise -/
abbrev famX (P : Program) (w : World) (K : PySem.W.Frag) (mg : Str → Option Value) (base : Heap) (N : List Str) (qual : Str) (sc : Scope) (f : Addr) (cdv : Value) (A : Around) (outer : List Env) (s : Shared) (H : Hp) (E : XK) : Fam K :=
  ⟨Unit, fun _ => cxOf (L2.CX P w) P w K mg base N qual sc f cdv A outer s H E, fun _ => rfl, fun cls d _ H => E cls d H, fun _ => takes_of rfl rfl rfl rfl⟩
abbrev fam0 (P : Program) (w : World) (K : PySem.W.Frag) (mg : Str → Option Value) (base : Heap) (N : List Str) (qual : Str) (sc : Scope) (f : Addr) (cdv : Value) (A : Around) (outer : List Env) (s : Shared) (H : Hp) (E : XK) : Fam K :=
  ⟨Unit, fun _ => (cxOf CX0 P w K mg base N qual sc f cdv A outer s H E).nox, fun _ => rfl, W0, fun _ => takes0⟩
theorem fn_dataX {P : Program} {w : World} {mg : Str → Option Value} {base : Heap} {x qual : Str} {st : Stmt} {f : Addr} {fd : FuncData} {N ps : List Str} {k : Nat} {φ : SpecX} (Fu : Fun K x qual st f fd) (S : FnScope N ps (defScope st)) (hl : ∀ ds R T, φ ds R T → ds.length = ps.length)
    (body : ∀ (cdv : Value) (A : Around) (outer : List Env) (s : Shared) (H : Hp) (E : XK), Room k (A.deeper (envOfC qual (defScope st) s.heap.objs.size f cdv)) → ∀ ds R T, φ ds R T →
      DSs (famX P w K mg base N qual (defScope st) f cdv A outer s H E) (defBody st) (startS N ds) (RetX R T)) : FnOk P w K mg base (L2.CX P w) (k + 1) f fd ps (spX K φ) := by
  refine Fu.okX S (fun vs H Q E h => ?_) (fun cdv A outer s H vs Q E hr h => ?_)
  · obtain ⟨F, ds, R, T, e, hv, hφ, _⟩ := h
    rw [hv.length]; exact hl ds R T hφ
  · obtain ⟨F, ds, R, T, e, hv, hφ, q, qx⟩ := h
    obtain ⟨t, h1, h2⟩ := body cdv A outer s H E hr ds R T hφ H F F H (L2.start N vs) { nx := fun _ H' => Q .non H', rt := Q } ⟨Ex.refl F, e, Ex.refl H, fun _ _ z => .inl z⟩ (start_hd e hv)
      ⟨fun ρ F' H' σ z w' hh => q (.val .non) _ F' H' z w' .non, fun r' v F' H' z w' hr' => q r' v F' H' z w' hr', fun _ _ _ _ z => z.elim, fun _ _ _ _ z => z.elim, fun ρ x cls od F' H' σ z w' _ xv => qx x cls od F' H' z w' xv⟩
    exact ⟨t, h1 (), h2⟩
/-! ### raise -/
/-- what is known of an own exception class without an __init__ -/
structure Xc (K : PySem.W.Frag) (mg : Str → Option Value) (x : Str) (C : Addr) : Prop where
  g : mg x = some (.ref C)
  q : PySem.W.excIn K C [.type "ValueError", .type "Exception", .type "BaseException", .type "object"] "ValueError.__new__" = true
  k : PySem.W.keepIn K (.ref C) = true
  b : PySem.W.subIn K (.ref C) (.type "BaseException") = some true
  t : PySem.W.typeIn K (.ref C) = some (.type "type")
def WMk (X : Fam K) (e : Expr) : L2.St → Hp → XK → Prop := fun σ H Q => ∃ t, (∀ j, PMk (X.X j) e t) ∧ t σ H Q
theorem ds_raise {mg : Str → Option Value} {x : Str} {C : Addr} {p p2 : Pos} (T : Xc K mg x C) (he : DE X e ρ d) (hR : R (.ex ρ (.plain (.ref C)))) (hX : ∀ j, (X.X j).mg = mg := by intro _; rfl) (hc : ∀ j, (X.X j).calm = true := by intro _; rfl) (hg : ∀ j, Gl (X.X j) x := by intro _; rfl)
    (hs : ∀ j, starEach [e] (X.X j).env = (false, eval e (X.X j).env) :: starEach [] (X.X j).env := by intro _; rfl) (hdb : (x == ("__debug__" : Str)) = false := by decide) : DS X (.Raise (some (.Call (.Name x p) [e] [] p2)) none pos) ρ R := fun B F0 F H σ D w hh p =>
  ⟨_, fun j => ps_raise (hc j) (X.tk j) (SkE.pmk_own1 PySem.F.excBase_ValueError ((X.hK j).symm ▸ T.q) (by rw [hX j]; exact T.g) ((X.hK j).symm ▸ T.k) (raises_own ((X.hK j).symm ▸ T.b) ((X.hK j).symm ▸ T.t)) (hg j) (pe_w j) (hs j) hdb),
    he B F H σ _ hh fun v F' H' s hv => p.ex ρ _ _ _ F' H' σ hR (w.step s) (hh.step s) ⟨rfl, rfl⟩⟩
/-- a statement that is not come to -/
theorem ds_never {A : Prop} (h : False) : DS X st ρ R := h.elim
/-! ### f-strings -/
theorem de_fmtS {z : Str} (h : DE X e ρ (.str z)) (hl : z.length ≤ sizeLine) : DE X (.FormattedValue e (-1) none pos) ρ (.str z) := fun B F H σ Q hh q =>
  ⟨_, fun j => pe_fmt (pe_w j), h B F H σ _ hh fun v F' H' s hv => by cases hv; exact .inl ⟨z, rfl, hl, q _ F' H' s (.str _)⟩⟩
theorem de_fmtI {i : Int} (h : DE X e ρ (.int i)) (hl : i.natAbs.log2 < 1920) : DE X (.FormattedValue e (-1) none pos) ρ (.str (toString i)) := fun B F H σ Q hh q =>
  ⟨_, fun j => pe_fmt (pe_w j), h B F H σ _ hh fun v F' H' s hv => by cases hv; exact .inr ⟨i, rfl, hl, q _ F' H' s (.str _)⟩⟩
theorem de_fmtR {z : Str} (h : DE X e ρ (.str z)) (hl : (reprText z).length ≤ sizeLine) : DE X (.FormattedValue e 114 none pos) ρ (.str (reprText z)) := fun B F H σ Q hh q =>
  ⟨_, fun j => pe_fmtR (pe_w j), h B F H σ _ hh fun v F' H' s hv => by cases hv; exact .inl ⟨z, rfl, hl, q _ F' H' s (.str _)⟩⟩
/-! ### try: body except x as n: suite -/
structure TryIx (X : Fam K) (W : WX) where
  j : X.ι
  pn : List (Addr × Obj)
  xe : Value → Shared → Prop
  tk : Takes ((X.X j).tr pn xe) W
  po : PassesOwn (model (X.X j).prog (X.X j).w) (X.X j).A (X.X j).env xe
abbrev Fam.tr (X : Fam K) (W : WX) : Fam K := ⟨TryIx X W, fun i => (X.X i.j).tr i.pn i.xe, fun i => X.hK i.j, W, fun i => i.tk⟩
structure SuIx (X : Fam K) (cls : Value) (d : Option Addr) where
  j : X.ι
  oe : Obj
  pn : List (Addr × Obj)
  hz : Zc cls d oe
  hf : ∃ vs, oe.data = .fields vs
abbrev Fam.su (X : Fam K) (a : Addr) (cls : Value) (d : Option Addr) : Fam K := ⟨SuIx X cls d, fun i => (X.X i.j).suite a ((a, i.oe) :: i.pn), fun i => X.hK i.j, W0, fun _ => takes0⟩
def Xd.cls : Xd → Value
  | .plain c => c
  | .fld c _ _ => c
/-- what is known of the exception's own dict -/
def Xd.pers (K : PySem.W.Frag) (od : Option Addr) : Xd → Pers
  | .plain _ => ⟨fun _ => od = none, fun _ _ _ h => h⟩
  | .fld _ f d => ⟨fun F => ∃ dd v, od = some dd ∧ F dd = some (.xd [(f, v)]) ∧ Dv K F v d, fun F F' e h => by
      obtain ⟨dd, v, h1, h2, h3⟩ := h
      exact ⟨dd, v, h1, e _ _ h2, h3.mono e⟩⟩
/-- behind the suite the name is gone -/
def Gone (i : Nat) (R : Out → Prop) : Out → Prop
  | .nx ρ => R (.nx (ρ.set i .any))
  | .rt r => R (.rt r)
  | .bk ρ => R (.bk (ρ.set i .any))
  | .ct ρ => R (.ct (ρ.set i .any))
  | .ex _ _ => False
def Caught (X : Fam K) (c : Value) (i : Nat) (suite : List Stmt) (R : Out → Prop) : Out → Prop
  | .ex ρ x => ∃ b, PySem.W.exmOne K x.cls c = some b ∧ (b = true → ∀ a od, DSs (X.su a x.cls od) suite (ρ.set i (.raw (.ref a) (x.pers K od))) (Gone i R)) ∧ (b = false → R (.ex ρ x))
  | o => R o
theorem ps_try_asF {X : Fam K} {x n : Str} {c : Value} {i : Nat} {body suite : List Stmt} {b₀ : Stmt} {np pos pos' : Pos} (hs : ∀ j, (X.X j).stack = (X.X j).env :: (X.X j).outer) (hf : ∀ j, (X.X j).env.frame = some (X.X j).env.locals) (hN : ∀ j, (X.X j).N.Nodup) (hi : ∀ j, (X.X j).N[i]? = some n) (hln : ∀ j, (X.X j).env.kindOf n = some .local) (hc : ∀ j, Names (X.X j) x c) (j : X.ι) :
    PS (X.X j) (.Try body [.ExceptHandler (some (.Name x np)) (some n) (b₀ :: suite) pos'] [] [] pos) (fun D σ H => WSs (X.tr (wAs K c i (fun a cls d => WSs (X.su a cls d) (b₀ :: suite)) X.W D)) body D σ H) := by
  have h := ps_try_as (X := X.X j) (tb := fun W => WSs (X.tr W) body) (ts := fun a cls d => WSs (X.su a cls d) (b₀ :: suite)) (np := np) (pos := pos) (pos' := pos') (hs j) (hf j) (hN j) (hi j) (hln j) (hc j) (X.tk j)
    (fun W pn xe tk po => pss_w (X := X.tr W) ⟨j, pn, xe, tk, po⟩) (fun a oe cls d pn hz hf => pss_w (X := X.su a cls d) ⟨j, oe, pn, hz, hf⟩)
  rw [X.hK j] at h
  exact h
theorem ds_try_as (i : Nat) {x n : Str} {c : Value} {body suite : List Stmt} {b₀ : Stmt} {np pos' : Pos} (hb : ∀ W, DSs (X.tr W) body ρ (Caught X c i (b₀ :: suite) R)) (hN : ∀ j, (X.X j).N.Nodup) (hc : ∀ j, Names (X.X j) x c)
    (hs : ∀ j, (X.X j).stack = (X.X j).env :: (X.X j).outer := by intro _; rfl) (hf : ∀ j, (X.X j).env.frame = some (X.X j).env.locals := by intro _; rfl) (hi : ∀ j, (X.X j).N[i]? = some n := by intro _; rfl) (hln : ∀ j, (X.X j).env.kindOf n = some .local := by intro _; rfl) :
    DS X (.Try body [.ExceptHandler (some (.Name x np)) (some n) (b₀ :: suite) pos'] [] [] pos) ρ R := fun B F0 F H σ D w hh p => by
  refine ⟨_, fun j => ps_try_asF hs hf hN hi hln hc j, ?_⟩
  refine hb _ B F0 F H σ D w hh ⟨p.nx, p.rt, p.bk, p.ct, fun ρ' x cls od F' H' σ' r w' hh' xv => ?_⟩
  obtain ⟨b, hb1, hb2, hb3⟩ := r
  have ec : cls = x.cls := by cases x <;> exact xv.1
  subst ec
  have hp : (x.pers K od).p F' := by cases x <;> exact xv.2
  refine ⟨b, hb1, fun z a _ => ?_, fun z => p.ex ρ' x _ od F' H' σ' (hb3 z) w' hh' xv⟩
  refine hb2 z a od B F0 F' H' _ _ w' (hh'.setRaw (.ref a) (x.pers K od) hp i) ⟨fun ρ2 F2 H2 σ2 r2 w2 h2 => p.nx _ F2 H2 _ r2 w2 (h2.forget i none), p.rt, fun ρ2 F2 H2 σ2 r2 w2 h2 => p.bk _ F2 H2 _ r2 w2 (h2.forget i none), fun ρ2 F2 H2 σ2 r2 w2 h2 => p.ct _ F2 H2 _ r2 w2 (h2.forget i none), fun _ _ _ _ _ _ _ z => z.elim⟩
/-- isinstance(n, c), n the exception that the suite holds; a class without a dict of its own in the instance -/
theorem de_isE {a0 D : Addr} {od : Option Addr} {i : Nat} {k : Bool} {n x : Str} {p p1 p2 : Pos} {cv : V} {cu : Value} (hi : ρ[i]? = some (.raw (.ref a0) ⟨fun _ => od = none, fun _ _ _ h => h⟩)) (E : ExcC K D) (hc : ∀ u, RelV cv u → u = cu) (hk : PySem.W.kitOne K (.ref D) cu = some k)
    (hcl : ∀ j, PE ((X.su a0 (.ref D) od).X j) (.Name x p2) (tC cv)) (hm : ∀ j, (X.X j).mg "isinstance" = none)
    (hg : ∀ j, Gl (X.X j) "isinstance" := by intro _; rfl) (hN : ∀ j, (X.X j).N[i]? = some n := by intro _; rfl)
    (hv : ∀ j, Vis (X.X j).env.scope n := by first | exact fun _ => Or.inl rfl | exact fun _ => Or.inr (Or.inl rfl) | exact fun _ => Or.inr (Or.inr rfl)) (hd : (n == ("__debug__" : Str)) = false := by decide)
    (hcd : (n == ("__classdict__" : Str)) = false := by decide)
    (he : ∀ j, starEach [.Name n p1, .Name x p2] (X.X j).env = (false, eval (.Name n p1) (X.X j).env) :: starEach [.Name x p2] (X.X j).env := by intro _; rfl)
    (he2 : ∀ j, starEach [.Name x p2] (X.X j).env = (false, eval (.Name x p2) (X.X j).env) :: starEach [] (X.X j).env := by intro _; rfl)
    (hpl : ∀ j, (backTo pos (starEach [.Name x p2] (X.X j).env)).any (·.1) = false := by intro _; rfl) :
    DE (X.su a0 (.ref D) od) (.Call (.Name "isinstance" p) [.Name n p1, .Name x p2] [] pos) ρ (.bl k) := fun B F H σ Q hh q => by
  obtain ⟨h1, h2⟩ := hh.raw i _ _ hi
  have h2' : od = none := h2
  subst h2'
  refine ⟨tCB (rIsE K D a0) (tCons (tVar i) (tCons (tC cv) tNil)), fun j => ?_, ⟨_, h1, cv, cu, k, rfl, hc, hk, q _ F H (Stp.refl hh.fh) (.bl _)⟩⟩
  have hcall : CallR ((X.su a0 (.ref D) none).X j) (.builtin "isinstance") (rIsE K D a0) := by
    have z := call_isE (X := X.X j.j) (a := a0) (D := D) (oe := j.oe) (pn := j.pn) ((X.hK j.j).symm ▸ E) j.hz j.hf
    rw [X.hK j.j] at z
    exact z
  exact pe_callB hcall (hg j.j) (hm j.j) (by decide +kernel) (pa_cons (pe_var (hN j.j) (hv j.j) hd hcd) (pa_cons (hcl j) pa_nil (he2 j.j)) (he j.j)) (by decide) (by decide) (he j.j) (hpl j.j)
end
end Yp

namespace Yp
open PySem PySem.Spec PyProof.Rows L2
/-! ### zip of two sequences, each a list (true) or a tuple (false) -/
def Sq (l : Bool) (K : PySem.W.Frag) (H : Hp) (a : Addr) (xs : List V) : Prop := match l with | true => SqL K H a xs | false => SqT K H a xs
def ItA (l : Bool) (h : Heap) (it a : Addr) (i : Nat) : Prop := match l with | true => h.IsListIter it a i | false => h.IsTupleIter it a i
def SeqA (l : Bool) (h : Heap) (a : Addr) (items : Array Value) : Prop := match l with | true => h.IsList a items | false => h.IsTuple a items
theorem ItA.keep {l : Bool} {h h' : Heap} {it a : Addr} {i : Nat} (x : ItA l h it a i) (k : ∀ o, h.get? it = some o → h'.get? it = some o) : ItA l h' it a i := by
  cases l
  · exact Heap.IsTupleIter.at x k
  · exact Heap.IsListIter.at x k
theorem ItA.obj {l : Bool} {h : Heap} {it a : Addr} {i : Nat} (x : ItA l h it a i) : ∃ o, h.get? it = some o ∧ ∀ v, o.data ≠ .cell v := by
  cases l
  · obtain ⟨o, e, _, d⟩ := x
    exact ⟨o, e, fun v z => by rw [d] at z; cases z⟩
  · obtain ⟨o, e, _, d⟩ := x
    exact ⟨o, e, fun v z => by rw [d] at z; cases z⟩
theorem Sq.of {l : Bool} {X : Cx} {pins : List (Addr × Obj)} {σ : L2.St} {H : Hp} {s : Shared} {a : Addr} {xs : List V} (I : Inv X pins σ H s) (h : Sq l X.K H a xs) : ∃ its : List Value, Vals xs its ∧ SeqA l s.heap a its.toArray ∧ a < s.heap.objs.size := by
  cases l
  · obtain ⟨its, rv, p, _⟩ := I.tuple h
    have p' : s.heap.IsTuple a its.toArray := by
      obtain ⟨o, e, c, n, d⟩ := p
      exact ⟨o, e, c, n, d⟩
    obtain ⟨o, e, _⟩ := id p
    exact ⟨its, rv, p', Heap.lt_size e⟩
  · obtain ⟨its, rv, p, _⟩ := I.list h
    exact ⟨its, rv, p.isList, p.lt⟩
theorem draws_of {prog : Program} {w : World} {A : Around} (l : Bool) (hh : A.handled = none) (it a : Addr) (hne : a ≠ it) (items : Array Value) :
    Draws prog w A it [it, a] items.size (fun i v => items[i]? = some v) (fun i h => ItA l h it a i ∧ SeqA l h a items) := by
  cases l
  · exact Draws.tuple hh it a hne items
  · exact Draws.list hh it a hne items
def begO (l : Bool) (a : Addr) : Obj := match l with
  | true => { cls := .type "list_iterator", data := .fields #[.ref a, .int 0 0] }
  | false => { cls := .type "tuple_iterator", data := .fields #[.ref a, .int 0 0] }
theorem beg_of (l : Bool) (a : Addr) (items : Array Value) : Begins (.ref a) (begO l a) fun h => SeqA l h a items := by
  cases l
  · exact begins_tuple a items
  · exact begins_list a items
theorem beg_it {l : Bool} {h : Heap} {it a : Addr} (e : h.get? it = some (begO l a)) : ItA l h it a 0 := by
  cases l <;> exact ⟨_, e, rfl, rfl⟩
/-- pairs of the i-th items -/
def Itp (K : PySem.W.Frag) (l m : Bool) (a b : Addr) (xs ys : List V) : It :=
  ⟨fun i H => i < min xs.length ys.length ∧ Sq l K H a xs ∧ Sq m K H b ys, fun i H v H' => ∃ T x y, v = .ref T ∧ H T = none ∧ H' = upd H T (.tup [x, y]) ∧ xs[i]? = some x ∧ ys[i]? = some y,
    fun i H => i = min xs.length ys.length ∧ Sq l K H a xs ∧ Sq m K H b ys⟩
theorem turn_pairs {P : Program} {w : World} {K : PySem.W.Frag} {elts : List Expr} {kk : Nat} {tpos : Pos} {l m : Bool} {a b z TI TO i1 i2 : Addr} {xs ys : List V} (S : ZipSep2 z TI TO i1 i2 [i1, a] [i2, b]) (n1 : a ≠ i1) (n2 : b ≠ i2) :
    Turn P w K (.Tuple elts kk tpos) (Itp K l m a b xs ys) [z, TI, TO, i1, i2] z (fun i h => IsZip h z TI TO .none ∧ IsTupOf2 h TI (.ref i1) (.ref i2) ∧ (∃ x y, IsTupOf2 h TO x y) ∧ ItA l h i1 a i ∧ ItA m h i2 b i) where
  mem := List.mem_cons_self
  obj := fun i h st c hc => by
    obtain ⟨g1, g2, ⟨x, y, g3⟩, g4, g5⟩ := st
    have hc' : c = z ∨ c = TI ∨ c = TO ∨ c = i1 ∨ c = i2 := by simpa using hc
    rcases hc' with rfl | rfl | rfl | rfl | rfl
    · exact ⟨_, g1, fun _ q => nomatch q⟩
    · exact ⟨_, g2, fun _ q => nomatch q⟩
    · exact ⟨_, g3, fun _ q => nomatch q⟩
    · exact g4.obj
    · exact g5.obj
  keep := fun i h h' st k => by
    obtain ⟨g1, g2, ⟨x, y, g3⟩, g4, g5⟩ := st
    have k' : ∀ c, c = z ∨ c = TI ∨ c = TO ∨ c = i1 ∨ c = i2 → ∀ o, h.get? c = some o → h'.get? c = some o := fun c hc => k c (by simpa using hc)
    exact ⟨k' z (.inl rfl) _ g1, k' TI (.inr (.inl rfl)) _ g2, ⟨x, y, k' TO (.inr (.inr (.inl rfl))) _ g3⟩, g4.keep (k' i1 (.inr (.inr (.inr (.inl rfl))))), g5.keep (k' i2 (.inr (.inr (.inr (.inr rfl)))))⟩
  item := by
    intro X e1 e2 e3 hc i pins s σ H E I hf st hg
    subst e1 e2 e3
    obtain ⟨g1, g2, ⟨x0, y0, g3⟩, g4, g5⟩ := st
    obtain ⟨hi, qa, qb⟩ := hg
    obtain ⟨its, rv, sa, _⟩ := Sq.of I qa
    obtain ⟨jts, rw', sb, _⟩ := Sq.of I qb
    have lx := rv.length
    have ly := rw'.length
    have hh : X.A.in1.handled = none := I.ok.hd hc
    have G := GoesN.zip2 (elts := elts) (x1 := kk) (pos := tpos) S (draws_of (prog := X.prog) (w := X.w) l hh i1 a n1 its.toArray) (draws_of (prog := X.prog) (w := X.w) m hh i2 b n2 jts.toArray)
    refine wpAny_mono (G.goes i s (fun u s2 => ∃ x H', Inv X pins σ H' s2 ∧ RelV x u ∧ (Itp X.K l m a b xs ys).yld i H x H' ∧ (IsZip s2.heap z TI TO .none ∧ IsTupOf2 s2.heap TI (.ref i1) (.ref i2) ∧ (∃ x y, IsTupOf2 s2.heap TO x y) ∧ ItA l s2.heap i1 a (i + 1) ∧ ItA m s2.heap i2 b (i + 1)) ∧ ∀ c ∈ [z, TI, TO, i1, i2], H' c = none) E (by simp only [List.size_toArray]; omega) ⟨g1, g2, ⟨x0, y0, g3⟩, ⟨g4, sa⟩, ⟨g5, sb⟩⟩ fun v h' tk hY st' hk htk => ?_) (fun r s1 h1 => ?_) fun _ _ z => z
    · obtain ⟨T, u1, u2, rfl, hT, p1, p2, pT⟩ := hY
      obtain ⟨x, hx⟩ : ∃ x, xs[i]? = some x := ⟨_, List.getElem?_eq_getElem (by omega)⟩
      obtain ⟨y, hy⟩ : ∃ y, ys[i]? = some y := ⟨_, List.getElem?_eq_getElem (by omega)⟩
      obtain ⟨v1, e1, r1⟩ := rv.get hx
      obtain ⟨v2, e2, r2⟩ := rw'.get hy
      have q1 : u1 = v1 := by
        have : its.toArray[i]? = some v1 := by simpa using e1
        exact Option.some.inj (p1.symm.trans this)
      have q2 : u2 = v2 := by
        have : jts.toArray[i]? = some v2 := by simpa using e2
        exact Option.some.inj (p2.symm.trans this)
      subst q1 q2
      have new : ObjOk X.prog X.w (upd H T (.tup [x, y])) h' T (.tup [x, y]) := ⟨by show 2 ≤ sizeLine; decide, [u1, u2], .cons r1 (.cons r2 .nil), by
        obtain ⟨o, e, c, n, d⟩ := pT
        exact ⟨o, e, c, n, d⟩⟩
      have I1 : Inv X pins σ (upd H T (.tup [x, y])) { s with heap := h', toks := tk } := I.turnedNew (t' := tk) (ch := [z, TI, TO, i1, i2]) (fun c o hb q => hk c o (fun hm => hb (by
        have hm' : c = z ∨ c = TO ∨ c = i1 ∨ c = i2 := by simpa using hm
        rcases hm' with q | q | q | q <;> simp [q])) q) hf hT new
      refine ⟨.ref T, _, I1, rfl, ⟨T, x, y, rfl, I.hok.fresh hT, rfl, hx, hy⟩, ⟨st'.1, st'.2.1, st'.2.2.1, st'.2.2.2.1.1, st'.2.2.2.2.1⟩, fun c hcm => ?_⟩
      have hlt : c < s.heap.objs.size := by
        have hc' : c = z ∨ c = TI ∨ c = TO ∨ c = i1 ∨ c = i2 := by simpa using hcm
        rcases hc' with rfl | rfl | rfl | rfl | rfl
        · exact Heap.lt_size g1
        · exact Heap.lt_size g2
        · exact Heap.lt_size g3
        · obtain ⟨_, e, _⟩ := g4.obj; exact Heap.lt_size e
        · obtain ⟨_, e, _⟩ := g5.obj; exact Heap.lt_size e
      rw [upd_ne (Nat.ne_of_lt (Nat.lt_of_lt_of_le hlt hT))]
      exact (hf c hcm).1
    · obtain ⟨v, rfl, h2⟩ := h1
      exact ⟨v, rfl, h2⟩
  done := by
    intro X e1 e2 e3 hc i pins s σ H E I hf st hg
    subst e1 e2 e3
    obtain ⟨g1, g2, ⟨x0, y0, g3⟩, g4, g5⟩ := st
    obtain ⟨hi, qa, qb⟩ := hg
    obtain ⟨its, rv, sa, _⟩ := Sq.of I qa
    obtain ⟨jts, rw', sb, _⟩ := Sq.of I qb
    have lx := rv.length
    have ly := rw'.length
    have hh : X.A.in1.handled = none := I.ok.hd hc
    have G := GoesN.zip2 (elts := elts) (x1 := kk) (pos := tpos) S (draws_of (prog := X.prog) (w := X.w) l hh i1 a n1 its.toArray) (draws_of (prog := X.prog) (w := X.w) m hh i2 b n2 jts.toArray)
    have ei : i = min its.toArray.size jts.toArray.size := by simp only [List.size_toArray]; omega
    subst ei
    exact G.stops s _ E ⟨g1, g2, ⟨x0, y0, g3⟩, ⟨g4, sa⟩, ⟨g5, sb⟩⟩ fun h' tk hk htk => I.turnedL (t' := tk) (ch := [z, TI, TO, i1, i2]) (fun c o hb q => hk c o (fun hm => hb (by
        have hm' : c = z ∨ c = TO ∨ c = i1 ∨ c = i2 := by simpa using hm
        rcases hm' with q | q | q | q <;> simp [q])) q) hf
  self := fun A i s Q E st h => wpAny_pyIter_zip st.1 h
def iPairs (K : PySem.W.Frag) (ta : TA) : TI := fun σ H R => ta σ H fun vs H1 => ∃ l m a b xs ys, vs = [.ref a, .ref b] ∧ Sq l K H1 a xs ∧ Sq m K H1 b ys ∧ R (Itp K l m a b xs ys) H1
theorem pi_pairs {X : Cx} {e e2 : Expr} {ta : TA} {p pos tpos : Pos} {elts : List Expr} {kk : Nat} (hg : Gl X "zip") (hm : X.mg "zip" = none) (ha : PA X [e, e2] ta)
    (hs : starEach [e, e2] X.env = (false, eval e X.env) :: starEach [e2] X.env) (hpl : (backTo pos (starEach [e2] X.env)).any (·.1) = false) :
    PI X (.Tuple elts kk tpos) (.Call (.Name "zip" p) [e, e2] [] pos) (iPairs X.K ta) := by
  refine ⟨fun pins s σ H R I h => Call_ (ld_blt I hg hm PyProof.Rows.boot_zip (PyProof.Rows.callWith_type1 (thn (ha.run pos pins s σ H _ I h) fun us s1 hh => ?_) hs hpl))⟩
  obtain ⟨vs, H1, I1, r1, l, m, a, b, xs, ys, ex, qa, qb, q⟩ := hh
  subst ex
  obtain ⟨u1, u2, rfl, t1, t2⟩ := vals2 r1
  cases (show u1 = Value.ref a from t1)
  cases (show u2 = Value.ref b from t2)
  obtain ⟨its, rv, sa, la⟩ := Sq.of I1 qa
  obtain ⟨jts, rw', sb, lb⟩ := Sq.of I1 qb
  refine zip_begins2 (beg_of l a its.toArray) (beg_of m b jts.toArray) sa sb fun h' c1 c2 c3 c4 c5 c6 c7 => wpAny_pyIter_zip c1 ?_
  have I2 : Inv X pins σ H1 { s1 with heap := h' } := I1.kept (t' := s1.toks) c7
  have fr : ∀ c, c ∈ [s1.heap.objs.size + 4, s1.heap.objs.size + 2, s1.heap.objs.size + 3, s1.heap.objs.size, s1.heap.objs.size + 1] → FpOk X pins H1 c := fun c hcm => by
    have hle : s1.heap.objs.size ≤ c := by
      have e' : c = s1.heap.objs.size + 4 ∨ c = s1.heap.objs.size + 2 ∨ c = s1.heap.objs.size + 3 ∨ c = s1.heap.objs.size ∨ c = s1.heap.objs.size + 1 := by simpa using hcm
      have : ∀ n c : Nat, (c = n + 4 ∨ c = n + 2 ∨ c = n + 3 ∨ c = n ∨ c = n + 1) → n ≤ c := fun n c h => by omega
      exact this _ _ e'
    exact I1.fpOk hle (I1.hok.fresh hle)
  have sep : ∀ n a b : Nat, a < n → b < n → ZipSep2 (n + 4) (n + 2) (n + 3) n (n + 1) [n, a] [n + 1, b] := fun n a b ha hb =>
    have nm : ∀ {x y z : Nat}, x ≠ y → x ≠ z → x ∉ [y, z] := fun {x y z} h1 h2 h => by
      rcases List.mem_cons.mp h with q | q
      · exact h1 q
      · exact h2 (List.mem_singleton.mp q)
    { TIz := show (n + 2 : Nat) ≠ n + 4 by omega, TOz := show (n + 3 : Nat) ≠ n + 4 by omega, TITO := show (n + 2 : Nat) ≠ n + 3 by omega, TIi1 := show (n + 2 : Nat) ≠ n by omega, mem1 := List.mem_cons_self, zf1 := nm (show (n + 4 : Nat) ≠ n by omega) (show (n + 4 : Nat) ≠ a by omega),
      Tf1 := nm (show (n + 3 : Nat) ≠ n by omega) (show (n + 3 : Nat) ≠ a by omega), TIi2 := show (n + 2 : Nat) ≠ n + 1 by omega, mem2 := List.mem_cons_self, zf2 := nm (show (n + 4 : Nat) ≠ n + 1 by omega) (show (n + 4 : Nat) ≠ b by omega), Tf2 := nm (show (n + 3 : Nat) ≠ n + 1 by omega) (show (n + 3 : Nat) ≠ b by omega),
      sep1_2 := nm (show (n : Nat) ≠ n + 1 by omega) (show (n : Nat) ≠ b by omega), sep2_1 := nm (show (n + 1 : Nat) ≠ n by omega) (show (n + 1 : Nat) ≠ a by omega) }
  exact ⟨s1.heap.objs.size + 4, _, _, _, H1, rfl, I2, turn_pairs (sep _ a b la lb) (Nat.ne_of_lt la) (Nat.ne_of_lt (Nat.lt_succ_of_lt lb)), ⟨c1, c2, ⟨_, _, c3⟩, beg_it c4, beg_it c5⟩, fr, q⟩
section
variable {K : PySem.W.Frag} {X : Fam K} {ρ : List Sl} {a b c e : Expr} {da db dc d : D} {pos : Pos}
def SeqD (l : Bool) (ds : List D) : D := match l with | true => .lst ds | false => .tup ds
theorem Dv.sq {F H : Hp} {v : V} {l : Bool} {ds : List D} (e : Ex F H) (h : Dv K F v (SeqD l ds)) : ∃ a xs, v = .ref a ∧ (∀ F2, Ex F F2 → Sq l K F2 a xs) ∧ Dvs K F xs ds := by
  cases l
  · cases h with
    | tup hs hv => exact ⟨_, _, rfl, fun F2 e2 => e2.sqT hs, hv⟩
  · cases h with
    | lst hs hv => exact ⟨_, _, rfl, fun F2 e2 => e2.sqL hs, hv⟩
theorem pi_pairsK {Y : Cx} (hk : Y.K = K) {e e2 : Expr} {ta : TA} {p pos tpos : Pos} {elts : List Expr} {kk : Nat} (hg : Gl Y "zip") (hm : Y.mg "zip" = none) (ha : PA Y [e, e2] ta)
    (hs : starEach [e, e2] Y.env = (false, eval e Y.env) :: starEach [e2] Y.env) (hpl : (backTo pos (starEach [e2] Y.env)).any (·.1) = false) :
    PI Y (.Tuple elts kk tpos) (.Call (.Name "zip" p) [e, e2] [] pos) (iPairs K ta) := by subst hk; exact pi_pairs hg hm ha hs hpl
theorem di_zip (l m : Bool) {xs ys : List D} {p tpos : Pos} {elts : List Expr} {kk : Nat} (h : DE X a ρ (SeqD l xs)) (h2 : DE X b ρ (SeqD m ys)) (hm : ∀ j, (X.X j).mg "zip" = none) (hg : ∀ j, Gl (X.X j) "zip" := by intro _; rfl)
    (hs : ∀ j, starEach [a, b] (X.X j).env = (false, eval a (X.X j).env) :: starEach [b] (X.X j).env := by intro _; rfl) (hs2 : ∀ j, starEach [b] (X.X j).env = (false, eval b (X.X j).env) :: starEach [] (X.X j).env := by intro _; rfl) (hpl : ∀ j, (backTo pos (starEach [b] (X.X j).env)).any (·.1) = false := by intro _; rfl) :
    DI X (.Tuple elts kk tpos) (.Call (.Name "zip" p) [a, b] [] pos) ρ ((xs.zip ys).map fun q => .tup [q.1, q.2]) := fun B F H σ R hh q =>
  ⟨iPairs K (WA X [a, b]), fun j => pi_pairsK (X.hK j) (hg j) (hm j) (pa_w j) (hs j) (hpl j), da_cons h (da_cons h2 da_nil hs2) hs B F H σ _ hh fun vs F1 H1 s1 hv => by
    obtain ⟨x, y, rfl, hx, hy⟩ := hv.two
    obtain ⟨pa, us, rfl, sa, va⟩ := hx.sq s1.fh
    obtain ⟨pb, ws, rfl, sb, vb⟩ := hy.sq s1.fh
    have el : ((xs.zip ys).map fun q => D.tup [q.1, q.2]).length = min us.length ws.length := by rw [List.length_map, List.length_zip, va.length, vb.length]
    refine ⟨l, m, pa, pb, us, ws, rfl, sa H1 s1.fh, sb H1 s1.fh, q _ F1 H1 s1 ⟨fun F2 H2 i e1 e2 hi => ⟨by rw [el] at hi; exact hi, sa H2 (e1.trans e2), sb H2 (e1.trans e2)⟩, fun F2 H2 i x H3 d e1 e2 hd hy => ?_, fun F2 H2 e1 e2 => ⟨el, sa H2 (e1.trans e2), sb H2 (e1.trans e2)⟩⟩⟩
    obtain ⟨T, v1, v2, rfl, hT, rfl, g1, g2⟩ := hy
    obtain ⟨d1, k1, w1⟩ := va.of_get g1
    obtain ⟨d2, k2, w2⟩ := vb.of_get g2
    have ed : d = .tup [d1, d2] := by
      rw [List.getElem?_map, List.getElem?_zip_eq_some.mpr (⟨k1, k2⟩ : xs[i]? = some (d1, d2).1 ∧ ys[i]? = some (d1, d2).2)] at hd
      exact (Option.some.inj hd).symm
    subst ed
    refine ⟨upd F2 T (.tup [v1, v2]), Stp.new e2 hT, .tup (.inl (.inl upd_same)) ?_⟩
    have ex := e1.trans (Ex.new (o := .tup [v1, v2]) (e2.back hT))
    exact .cons (w1.mono ex) (.cons (w2.mono ex) .nil)⟩
/-- reversed(list) -/
theorem pi_revK {Y : Cx} (hk : Y.K = K) {tg e : Expr} {te : TE} {p pos : Pos} (hg : Gl Y "reversed") (hm : Y.mg "reversed" = none) (he : PE Y e te) (hs : starEach [e] Y.env = (false, eval e Y.env) :: starEach [] Y.env) : PI Y tg (.Call (.Name "reversed" p) [e] [] pos) (RT.iRevA K te) := by
  subst hk; exact RT.pi_revA hg hm he hs
theorem di_rev {tg : Expr} {p : Pos} {xs : List D} (h : DE X a ρ (.lst xs)) (hm : ∀ j, (X.X j).mg "reversed" = none) (hg : ∀ j, Gl (X.X j) "reversed" := by intro _; rfl)
    (hs : ∀ j, starEach [a] (X.X j).env = (false, eval a (X.X j).env) :: starEach [] (X.X j).env := by intro _; rfl) : DI X tg (.Call (.Name "reversed" p) [a] [] pos) ρ xs.reverse := fun B F H σ R hh q =>
  ⟨RT.iRevA K (WE X a), fun j => pi_revK (X.hK j) (hg j) (hm j) (pe_w j) (hs j), h B F H σ _ hh fun v F' H' s hv => by
    cases hv with
    | @lst p us _ hsq hv =>
      have hl := hv.length
      refine ⟨p, us, rfl, .inl ⟨s.fh.sqL hsq, q _ F' H' s ⟨fun F2 H2 i e1 e2 hi => ?_, fun F2 H2 i x H3 d e1 e2 hd hy => ?_, fun F2 H2 e1 e2 => ?_⟩⟩⟩
      · rw [List.length_reverse] at hi
        exact ⟨by omega, us, us[us.length - 1 - i]'(by omega), (e1.trans e2).sqL hsq, List.getElem?_eq_getElem (by omega)⟩
      · obtain ⟨rfl, hz⟩ := hy
        have hi : i < xs.length := by
          have := (List.getElem?_eq_some_iff.mp hd).1
          rw [List.length_reverse] at this; exact this
        rw [List.getElem?_reverse hi, ← hl] at hd
        obtain ⟨v, g1, g2⟩ := hv.get hd
        have := (hz us ((e1.trans e2).sqL hsq)).symm.trans g1
        cases this
        exact ⟨F2, Stp.refl e2, g2.mono e1⟩
      · show us.length ≤ _
        rw [List.length_reverse, hl]; exact Nat.le_refl _⟩
/-- xs[::-1] -/
theorem pe_revLK {Y : Cx} (hk : Y.K = K) {e : Expr} {te : TE} {k : Nat} {p1 p2 p3 pos : Pos} (he : PE Y e te) : PE Y (.Subscript e (.Slice none none (some (.UnaryOp .USub (.Constant (.int 1) k p1) p2)) p3) pos) (tRevL K te) := by
  subst hk; exact pe_revL he
theorem dl_back {xs : List D} {k : Nat} {p1 p2 p3 : Pos} (h : DE X a ρ (.lst xs)) : DL X (.Subscript a (.Slice none none (some (.UnaryOp .USub (.Constant (.int 1) k p1) p2)) p3) pos) ρ xs.reverse := fun B F H σ Q hh q =>
  ⟨tRevL K (WE X a), fun j => pe_revLK (X.hK j) (pe_w j), h B F H σ _ hh fun v F' H' s hv => by
    cases hv with
    | lst hs hv => exact ⟨_, _, rfl, s.fh.sqL hs, fun p hp => q p _ F' _ (s.trans (Stp.own s.fh hp)) (s.hh.back hp) (s.fh.back hp) upd_same hv.reverse⟩⟩
end
end Yp

namespace Yp
open PySem PySem.Spec PyProof.Rows L2
section
variable {K : PySem.W.Frag} {X : Fam K} {ρ : List Sl} {R R' : Out → Prop} {st : Stmt} {rest : List Stmt} {a b c e : Expr} {da db dc d : D} {pos : Pos}
/-! ### texts -/
theorem op_mulS {Y : Cx} : OpR Y (binaryOp .Mult) (fun x y H Q => ∃ z n, x = .str z ∧ y = .int n ∧ MulOk z n ∧ Q (.str (Txt.mul z n)) H) := by
  intro pins s σ H x y v u Q I rx ry h
  obtain ⟨z, n, rfl, rfl, ok, q⟩ := h
  obtain ⟨t, rfl⟩ := rx
  obtain ⟨t', rfl⟩ := ry
  exact SB.mul ok fun t' k => ⟨.str _, H, I.tok k, ⟨_, rfl⟩, q⟩
theorem opd_mulS {z : Str} {n : Int} (h : MulOk z n) : OpD X .Mult (.str z) (.int n) (.str (Txt.mul z n)) :=
  ⟨_, fun _ => op_mulS, fun F H x y Q e hx hy q => by cases hx; cases hy; exact ⟨z, n, rfl, rfl, h, q _ F H (Stp.refl e) (.str _)⟩⟩
/-! ### parts of slices -/
def WO (X : Fam K) (e : Option Expr) : TO := fun σ H Q => ∃ t, (∀ j, PO (X.X j) e t) ∧ t σ H Q
theorem po_w {e : Option Expr} (j : X.ι) : PO (X.X j) e (WO X e) := ⟨fun pins s σ H Q I ⟨t, h, q⟩ => (h j).run pins s σ H Q I q⟩
def DO (X : Fam K) (e : Option Expr) (ρ : List Sl) (o : Option Int) : Prop := ∀ B F H σ (Q : Option Int → Hp → Prop), Hd K B F H ρ σ → (∀ F' H', Stp F H F' H' → Q o H') → WO X e σ H Q
theorem do_none : DO X none ρ none := fun B F H σ Q hh q => ⟨_, fun _ => po_none, q F H (Stp.refl hh.fh)⟩
theorem do_some {i : Int} (h : DE X e ρ (.int i)) : DO X (some e) ρ (some i) := fun B F H σ Q hh q => ⟨_, fun j => po_some (pe_w j), h B F H σ _ hh fun v F' H' s hv => by cases hv; exact ⟨i, rfl, q F' H' s⟩⟩
theorem de_slS {z : Str} {lo hi : Option Expr} {l h : Option Int} {p2 : Pos} (ha : DE X a ρ (.str z)) (hl : DO X lo ρ l) (hh' : DO X hi ρ h) (hz : z.length ≤ sizeLine) : DE X (.Subscript a (.Slice lo hi none p2) pos) ρ (.str (cutS z l h)) := fun B F H σ Q hh q =>
  ⟨tSl rSlS (WE X a) (WO X lo) (WO X hi), fun j => pe_slice sl_str (pe_w j) (po_w j) (po_w j), ha B F H σ _ hh fun v F1 H1 s1 v1 => hl B F1 H1 σ _ (hh.step s1) fun F2 H2 s2 => hh' B F2 H2 σ _ ((hh.step s1).step s2) fun F3 H3 s3 => by
    cases v1
    exact ⟨z, rfl, hz, q _ F3 H3 ((s1.trans s2).trans s3) (.str _)⟩⟩
/-- the part of a list of data -/
def cutD (xs : List D) (lo hi : Option Int) : List D := (xs.drop (HT.sIx xs.length 0 lo)).take (HT.sIx xs.length xs.length hi - HT.sIx xs.length 0 lo)
theorem Dvs.cut {F : Hp} {vs : List V} {ds : List D} (h : Dvs K F vs ds) (lo hi : Option Int) : Dvs K F (cutV vs lo hi) (cutD ds lo hi) := by
  unfold cutV cutD
  rw [h.length]
  exact (h.drop _).take _
theorem sl_listK {Y : Cx} (hk : Y.K = K) : SlR Y (rSlL K) := by subst hk; exact sl_list
theorem sl_tupK {Y : Cx} (hk : Y.K = K) : SlR Y (rSlA K) := by subst hk; exact sl_tupA
theorem dl_sl {xs : List D} {lo hi : Option Expr} {l h : Option Int} {p2 : Pos} (ha : DE X a ρ (.lst xs)) (hl : DO X lo ρ l) (hh' : DO X hi ρ h) : DL X (.Subscript a (.Slice lo hi none p2) pos) ρ (cutD xs l h) := fun B F H σ Q hh q =>
  ⟨tSl (rSlL K) (WE X a) (WO X lo) (WO X hi), fun j => pe_slice (sl_listK (X.hK j)) (pe_w j) (po_w j) (po_w j), ha B F H σ _ hh fun v F1 H1 s1 v1 => hl B F1 H1 σ _ (hh.step s1) fun F2 H2 s2 => hh' B F2 H2 σ _ ((hh.step s1).step s2) fun F3 H3 s3 => by
    cases v1 with
    | lst hs hv =>
      have e := s2.ff.trans (s3.ff)
      exact ⟨_, _, rfl, (e.trans s3.fh).sqL hs, fun p hp => q p _ F3 _ (((s1.trans s2).trans s3).trans (Stp.own s3.fh hp)) (((s1.hh.trans s2.hh).trans s3.hh).back hp) (s3.fh.back hp) upd_same ((hv.mono e).cut l h)⟩⟩
theorem de_slT {xs : List D} {lo hi : Option Expr} {l h : Option Int} {p2 : Pos} (ha : DE X a ρ (.tup xs)) (hl : DO X lo ρ l) (hh' : DO X hi ρ h) : DE X (.Subscript a (.Slice lo hi none p2) pos) ρ (.tup (cutD xs l h)) := fun B F H σ Q hh q =>
  ⟨tSl (rSlA K) (WE X a) (WO X lo) (WO X hi), fun j => pe_slice (sl_tupK (X.hK j)) (pe_w j) (po_w j) (po_w j), ha B F H σ _ hh fun v F1 H1 s1 v1 => hl B F1 H1 σ _ (hh.step s1) fun F2 H2 s2 => hh' B F2 H2 σ _ ((hh.step s1).step s2) fun F3 H3 s3 => by
    cases v1 with
    | @tup ad us _ hs hv =>
      have e := s2.ff.trans (s3.ff)
      have s := (s1.trans s2).trans s3
      refine ⟨ad, us, rfl, (e.trans s3.fh).sqT hs, fun hw => q _ F3 H3 s (.tup (e.sqT hs) ?_), fun _ p hp => q _ (upd F3 p (.tup _)) _ (s.trans (Stp.new s3.fh hp)) (.tup (.inl (.inl upd_same)) (((hv.mono e).cut l h).mono (Ex.new (s3.fh.back hp))))⟩
      have ec : cutD xs l h = xs := by
        unfold cutD
        rw [hv.length] at hw
        rw [hw.1, hw.2, List.drop_zero, Nat.sub_zero, List.take_length]
      rw [ec]
      exact hv.mono e⟩
/-! ### t + u, xs + ys -/
theorem op_catK {Y : Cx} (hk : Y.K = K) : OpR Y (binaryOp .Add) (rCatA K) := by subst hk; exact op_catA
theorem opd_catT {xs ys : List D} (hl : xs.length + ys.length ≤ 100000) : OpD X .Add (.tup xs) (.tup ys) (.tup (xs ++ ys)) :=
  ⟨rCatA K, fun j => op_catK (X.hK j), fun F H x y Q e hx hy q => by
    cases hx with
    | @tup a1 us _ h1 v1 =>
      cases hy with
      | @tup a2 ws _ h2 v2 =>
        refine ⟨a1, a2, us, ws, rfl, rfl, e.sqT h1, e.sqT h2, small (by rw [v1.length, v2.length]; exact hl), fun z => ?_, fun _ z => ?_, fun _ _ p hp => ?_⟩
        · subst z
          cases v1
          exact q _ F H (Stp.refl e) (.tup h2 v2)
        · subst z
          cases v2
          rw [List.append_nil] at q
          exact q _ F H (Stp.refl e) (.tup h1 v1)
        · exact q _ (upd F p (.tup (us ++ ws))) _ (Stp.new e hp) (.tup (.inl (.inl upd_same)) ((v1.append v2).mono (Ex.new (e.back hp))))⟩
/-- a list that is tracked as it stands: a new one, or one's own -/
def DLr (X : Fam K) (e : Expr) (ρ : List Sl) (ds : List D) : Prop := ∀ B F H σ (Q : VK), Hd K B F H ρ σ → (∀ p vs F' H', Stp F H F' H' → H' p = some (.lst vs) → Dvs K F' vs ds → Q (.ref p) H') → WE X e σ H Q
theorem DL.r {ds : List D} (h : DL X e ρ ds) : DLr X e ρ ds := fun B F H σ Q hh q => h B F H σ Q hh fun p vs F' H' s _ _ e2 e3 => q p vs F' H' s e2 e3
theorem dlr_own (i : Nat) {x : Str} {ds : List D} (hi : ρ[i]? = some (.own ds)) (hN : ∀ j, (X.X j).N[i]? = some x := by intro _; rfl)
    (hv : ∀ j, Vis (X.X j).env.scope x := by first | exact fun _ => Or.inl rfl | exact fun _ => Or.inr (Or.inl rfl) | exact fun _ => Or.inr (Or.inr rfl)) (hd : (x == ("__debug__" : Str)) = false := by decide)
    (hcd : (x == ("__classdict__" : Str)) = false := by decide) : DLr X (.Name x pos) ρ ds := fun B F H σ Q hh q => by
  obtain ⟨p, vs, h1, _, _, h3, h4⟩ := hh.own i ds hi
  exact ⟨tVar i, fun j => pe_var (hN j) (hv j) hd hcd, _, h1, q p vs F H (Stp.refl hh.fh) h3 h4⟩
theorem dl_cat {xs ys : List D} (ha : DLr X a ρ xs) (hb : DLr X b ρ ys) (hl : xs.length + ys.length ≤ 100000) : DL X (.BinOp a .Add b pos) ρ (xs ++ ys) := fun B F H σ Q hh q =>
  ⟨tOp rCat (WE X a) (WE X b), fun j => pe_op op_cat (pe_w j) (pe_w j), ha B F H σ _ hh fun p us F1 H1 s1 e1 v1 => hb B F1 H1 σ _ (hh.step s1) fun r ws F2 H2 s2 e2 v2 =>
    ⟨p, r, us, ws, rfl, rfl, s2.hh _ _ e1, e2, small (by rw [v1.length, v2.length]; exact hl), fun t ht => q t _ F2 _ ((s1.trans s2).trans (Stp.own s2.fh ht)) ((s1.hh.trans s2.hh).back ht) (s2.fh.back ht) upd_same ((v1.mono s2.ff).append v2)⟩⟩
/-! ### items by place -/
theorem atI_get {α : Type} {xs : List α} {i : Int} {d : α} (h0 : 0 ≤ i) (h1 : i < xs.length) : atI xs i = some (xs.getD i.toNat d) := by
  have hl : i.toNat < xs.length := by omega
  have e : i = ((i.toNat : Nat) : Int) := by omega
  have z := atI_nat (xs := xs) (j := i.toNat) (List.getElem?_eq_getElem hl)
  rw [← e] at z
  rw [z, List.getD_eq_getElem?_getD, List.getElem?_eq_getElem hl]
  rfl
theorem atI_map {α : Type} {xs : List α} {f : α → D} {i : Int} (d : α) (h0 : 0 ≤ i) (h1 : i < xs.length) : atI (xs.map f) i = some (f (xs.getD i.toNat d)) := by
  have hl : i.toNat < xs.length := by omega
  rw [atI_get (d := f d) h0 (by rw [List.length_map]; exact h1)]
  rw [List.getD_eq_getElem?_getD, List.getD_eq_getElem?_getD, List.getElem?_map, List.getElem?_eq_getElem hl]
  rfl
theorem getD_mem {α : Type} {xs : List α} {i : Nat} {d : α} (h : i < xs.length) : xs.getD i d ∈ xs := by
  rw [List.getD_eq_getElem?_getD, List.getElem?_eq_getElem h]
  exact List.getElem_mem h
theorem map_get {α : Type} {xs : List α} {f : α → D} {i : Nat} {d : D} (h : (xs.map f)[i]? = some d) : ∃ x, xs[i]? = some x ∧ d = f x := by
  rw [List.getElem?_map] at h
  cases z : xs[i]? with
  | none => rw [z] at h; cases h
  | some x => rw [z] at h; exact ⟨x, rfl, (Option.some.inj h).symm⟩
theorem emod_nn {i : Int} {n : Int} (h : 0 < n) : 0 ≤ i % n := Int.emod_nonneg _ (by omega)
theorem emod_lt {i : Int} {n : Int} (h : 0 < n) : i % n < n := Int.emod_lt_of_pos _ h
theorem kit_ref {t : Value} {C : Addr} {r : Bool} (hd : PySem.W.hasDictIn K C = true) (ht : PySem.W.typeIn K (.ref C) = some (.type "type")) (h : PySem.W.subIn K t (.ref C) = some r) (hb : t = .ref C → r = true) : PySem.W.kitOne K t (.ref C) = some r := by
  unfold PySem.W.kitOne
  by_cases e : t = .ref C
  · rw [if_pos (by rw [e]; exact beq_self_eq_true _), hb e]
  · rw [if_neg (fun z => e (eq_of_beq z))]
    unfold PySem.W.hasDictIn at hd
    show (if ((PySem.W.clsIn K C).isSome && PySem.W.typeIn K (.ref C) == some (.type "type")) = true then PySem.W.subIn K t (.ref C) else none) = some r
    rw [if_pos, h]
    rw [ht]
    cases hc : PySem.W.clsIn K C with
    | none => rw [hc] at hd; cases hd
    | some cd => rfl
theorem kit_type {C : Addr} {T : String} (hm : PySem.W.kitMeta T = true) (h : PySem.W.subIn K (.ref C) (.type T) = some true) : PySem.W.kitOne K (.ref C) (.type T) = some true := by
  unfold PySem.W.kitOne
  rw [if_neg (show ¬ ((Value.ref C == Value.type T) = true) from Bool.false_ne_true)]
  show (if PySem.W.kitMeta T = true then PySem.W.subIn K (.ref C) (.type T) else none) = some true
  rw [if_pos hm, h]
end
end Yp

/-! list(reversed(xs)) -/
namespace Yp
open PySem
section
variable {prog : Program} {w : World} {A : Around} {E : Value → Shared → Prop} {s : Shared}
abbrev newL (xs : Array Value) (n : Nat) : Obj := { cls := .type "list", dict := none, data := .seq xs n, slots := #[] }
theorem fill_rev {R : Result → Shared → Prop} {S it l : Addr} {items : Array Value} {n0 : Nat} (hA : A.handled = none) (g1 : s.heap.IsRevIter it l ((items.size : Int) - 1)) (g2 : s.heap.IsList l items) (g3 : l ≠ it) (g4 : items.size ≤ sizeLine) (g5 : s.heap.get? S = some (newL #[] n0)) (g6 : S ≠ it) (g7 : S ≠ l)
    (fin : ∀ h' tk acc n1, (∀ b o, b ≠ S → b ≠ it → s.heap.get? b = some o → h'.get? b = some o) → h'.get? S = some (newL acc n1) → ItemsOf (fun i v => items[items.size - 1 - i]? = some v) acc items.size → R (.ok (.ret .none)) { s with heap := h', toks := tk }) :
    wpAny (model prog w) A.in1 (Builtin.List.listExtendWith (.ref S) (.ref it) .none) (fun f s' => match f with | .done f => R (.ok f) s' | .again c => c.quiet = true ∧ codeAny (model prog w) A c R s') (fun e s' => R (.error e) s') s := by
  have walk := (Walks.listRev (prog := prog) (w := w) (A := A.in1) hA it l g3 items).toS
  have apart : S ∉ [it, l] := fun m => by
    rcases List.mem_cons.mp m with q | q
    · exact g6 q
    · exact g7 (List.mem_singleton.mp q)
  have ty : s.TypeIs (.ref it) "list_reverseiterator" := g1.typeIs
  have other : Builtin.List.listSameRef (.ref S) (.ref it) = false := by simp [Builtin.List.listSameRef, g6]
  unfold Builtin.List.listExtendWith
  refine wpAny_bind (wpAny_typeOf ty ?_)
  rw [if_neg (by rw [other]; decide)]
  refine wpAny_bind (wpAny_pyIter_revIter g1 (wpAny_bind (wpAny_holding ?_)))
  unfold Builtin.List.listLengthHint
  refine wpAny_bind (wpAny_specialOf ty RT.nolen_lri ?_)
  refine wpAny_bind (wpAny_specialOf ty RT.hint_lri ?_)
  generalize hid : ("list_reverseiterator.__length_hint__" : String) = idh
  wp_delta
  rw [show splitId idh = some ("list_reverseiterator", "__length_hint__") by subst hid; decide +kernel]
  subst hid
  refine wpAny_bind (wpAny_isInstance (b := true) ty (by rw [isSubtype_type]; kernel_rfl) (wpAny_pure ?_))
  rw [if_neg (by decide)]
  have z0 : (items.size : Int) - 1 - ((0 : Nat) : Int) = (items.size : Int) - 1 := by omega
  refine wpAny_pure ⟨plainId_quiet F.plain_extend_loop _, codeAny_extend_loopS walk g4 S apart .none items.size 0 s #[] n0 rfl (Nat.zero_le _) ⟨Nat.zero_le _, by rw [z0]; exact g1, g2⟩ g5 (ItemsOf.nil _) fun s' acc n1 mv gS ga => ?_⟩
  rw [Moved.eq_with mv]
  refine fin s'.heap s'.toks acc n1 (fun b o n1 n2 e => mv.heap b o (fun m => ?_) e) gS ga
  rcases List.mem_cons.mp m with q | q
  · exact n1 q
  · exact n2 (List.mem_singleton.mp q)
theorem init_rev {R : Result → Shared → Prop} {S it l : Addr} {items : Array Value} (hA : A.handled = none) (g1 : s.heap.IsRevIter it l ((items.size : Int) - 1)) (g2 : s.heap.IsList l items) (g3 : l ≠ it) (g4 : items.size ≤ sizeLine) (g5 : s.heap.get? S = some (newL #[] 0)) (g6 : S ≠ it) (g7 : S ≠ l)
    (fin : ∀ h' tk acc n1, (∀ b o, b ≠ S → b ≠ it → s.heap.get? b = some o → h'.get? b = some o) → h'.get? S = some (newL acc n1) → ItemsOf (fun i v => items[items.size - 1 - i]? = some v) acc items.size → R (.ok (.ret .none)) { s with heap := h', toks := tk }) :
    wpAny (model prog w) A.in1 (Builtin.«list.__init__» ⟨[.ref S, .ref it], []⟩) (fun f s' => match f with | .done f => R (.ok f) s' | .again c => c.quiet = true ∧ codeAny (model prog w) A c R s') (fun e s' => R (.error e) s') s := by
  show wpAny _ _ (Builtin.List.listItems (.ref S) >>= fun old => Builtin.List.listUpdate (.ref S) (fun _ => #[]) >>= fun _ => letGo old.toList.reverse >>= fun _ => Builtin.List.listExtendWith (.ref S) (.ref it) .none) _ _ s
  unfold Builtin.List.listItems
  refine wpAny_bind (wpAny_bind (wpAny_seqItems g5 rfl (wpAny_pure ?_)))
  show wpAny _ _ (updateSeq S (fun _ => (#[] : Array Value)) >>= _) _ _ s
  refine wpAny_bind (wpAny_updateSeq g5 rfl ?_)
  have gS := Heap.get?_update_self (Obj.mapSeq (fun _ => (#[] : Array Value))) g5 rfl
  have kp : ∀ b o, b ≠ S → s.heap.get? b = some o → (s.heap.update S (Obj.mapSeq (fun _ => (#[] : Array Value)))).get? b = some o := fun b o nb e => (Heap.get?_update_other _ _ (Ne.symm nb)).trans e
  refine wpAny_bind (wpAny_letGo ?_)
  exact fill_rev (s := { s with heap := s.heap.update S (Obj.mapSeq (fun _ => (#[] : Array Value))) }) hA (g1.at fun o e => kp it o (Ne.symm g6) e) (g2.at fun o e => kp l o (Ne.symm g7) e) g3 g4 gS g6 g7 fun h' tk acc n1 k' e1 e2 => fin h' tk acc n1 (fun b o nb nc e => k' b o nb nc (kp b o nb e)) e1 e2
theorem call_list_rev {it l : Addr} {items : Array Value} {Q : Value → Shared → Prop} (hA : A.handled = none) (g1 : s.heap.IsRevIter it l ((items.size : Int) - 1)) (g2 : s.heap.IsList l items) (g3 : l ≠ it) (g4 : items.size ≤ sizeLine)
    (fin : ∀ h' tk acc n1, (∀ b o, b ≠ it → s.heap.get? b = some o → h'.get? b = some o) → h'.get? s.heap.objs.size = some (newL acc n1) → ItemsOf (fun i v => items[items.size - 1 - i]? = some v) acc items.size → Q (.ref s.heap.objs.size) { s with heap := h', toks := tk }) :
    wpAny (model prog w) A (call (.type "list") [.ref it]) Q E s := by
  obtain ⟨o1, h1, _⟩ := id g1
  obtain ⟨o2, h2, _⟩ := id g2
  refine callType_codes (Q₁ := fun obj s1 => obj = .ref s.heap.objs.size ∧ s1 = { s with heap := s.heap.push (newL #[] 0) }) F.called_list (F.typeCall_list_1 _) F.entry_list_init (code_list_new _ ⟨rfl, rfl⟩) fun obj s1 q => ?_
  obtain ⟨rfl, rfl⟩ := q
  have gS : (s.heap.push (newL #[] 0)).get? s.heap.objs.size = some (newL #[] 0) := Heap.get?_push_size _ rfl
  refine ⟨⟨_, gS, rfl⟩, F.args_list_init_2 _ _, init_rev (A := A.in1) (s := { s with heap := s.heap.push (newL #[] 0) }) hA (g1.at fun o e => Heap.get?_push_of_some _ e) (g2.push _) g3 g4 gS (Nat.ne_of_gt (Heap.lt_size h1)) (Nat.ne_of_gt (Heap.lt_size h2)) fun h' tk acc n1 k' e1 e2 => ⟨rfl, ?_⟩⟩
  exact fin h' tk acc n1 (fun b o nb e => k' b o (Nat.ne_of_lt (Heap.lt_size e)) nb (Heap.get?_push_of_some _ e)) e1 e2
end
open PySem.Spec PyProof.Rows L2
def tListRev (K : PySem.W.Frag) (te : TE) : TE := fun σ H Q => te σ H fun v H1 => ∃ a xs, v = .ref a ∧ SqL K H1 a xs ∧ ∀ p, H1 p = none → Q (.ref p) (upd H1 p (.lst xs.reverse))
theorem pe_listRev {X : Cx} {e : Expr} {te : TE} {p p2 pos pos2 : Pos} (hc : X.calm = true) (b1 : Gl X "list") (b2 : X.mg "list" = none) (b3 : Gl X "reversed") (b4 : X.mg "reversed" = none) (he : PE X e te) (s1 : starEach [e] X.env = (false, eval e X.env) :: starEach [] X.env)
    (s2 : starEach [.Call (.Name "reversed" p2) [e] [] pos2] X.env = (false, eval (.Call (.Name "reversed" p2) [e] [] pos2) X.env) :: starEach [] X.env) :
    PE X (.Call (.Name "list" p) [.Call (.Name "reversed" p2) [e] [] pos2] [] pos) (tListRev X.K te) := by
  refine ⟨fun pins s σ H Q I h => Call_ (ld_blt I b1 b2 (show bootBuiltins "list" = some (.type "list") by decide +kernel) (PyProof.Rows.callWith_type1 (args_cons (Call_ (ld_blt I b3 b4 PyProof.Rows.boot_reversed (PyProof.Rows.callWith_type1 (args_cons (thn (he.run pins s σ H _ I h) fun u t1 hh => args_nil ?_) s1) s1 rfl))) s2) s2 rfl))⟩
  obtain ⟨v, H1, I1, r1, a, xs, ev, hq, q⟩ := hh
  subst ev
  obtain rfl : u = Value.ref a := r1
  obtain ⟨its, rv, pl, hz⟩ := I1.list hq
  refine call_reversed_list pl.isList (args_nil ?_)
  have I2 : Inv X pins σ H1 { t1 with heap := t1.heap.push (revObj a ((its.toArray.size : Int) - 1)) } := I1.kept (t' := t1.toks) fun b o e => Heap.get?_push_of_some _ e
  obtain ⟨f0, f1, _, f3, f4, f5⟩ := I1.fpOk (H' := H1) (b := t1.heap.objs.size) (Nat.le_refl _) (I1.hok.fresh (Nat.le_refl _))
  have ne : a ≠ t1.heap.objs.size := by
    obtain ⟨ol, hol, _⟩ := id pl.isList
    exact Nat.ne_of_lt (Heap.lt_size hol)
  refine call_list_rev (s := { t1 with heap := t1.heap.push (revObj a ((its.toArray.size : Int) - 1)) }) (I1.ok.hd hc) ⟨_, Heap.get?_push_size _ rfl, rfl, rfl⟩ (pl.isList.push _) ne (by rw [List.size_toArray, ← rv.length]; exact hz) fun h' tk acc n1 k' gS ga => ?_
  have fr : H1 (t1.heap.push (revObj a ((its.toArray.size : Int) - 1))).objs.size = none := I2.hok.fresh (Nat.le_refl _)
  have I3 : Inv X pins σ H1 { t1 with heap := h', toks := tk } := I2.turned (t' := tk) (fun b o nb e => k' b o nb e) f0 f1 f3 f4 f5
  refine ⟨.ref _, upd H1 _ (.lst xs.reverse), ?_, rfl, q _ fr⟩
  have ok : ObjOk X.prog X.w (upd H1 (t1.heap.push (revObj a ((its.toArray.size : Int) - 1))).objs.size (.lst xs.reverse)) h' (t1.heap.push (revObj a ((its.toArray.size : Int) - 1))).objs.size (.lst xs.reverse) :=
    ⟨by rw [List.length_reverse]; exact hz, acc.toList, n1, RT.vals_rev rv ga, by rw [Array.toArray_toList]; exact gS⟩
  exact I2.turnedNew (t' := tk) (ch := [t1.heap.objs.size]) (fun b o nb e => k' b o (fun z => nb (List.mem_singleton.mpr z)) e) (fun b hb => by
    have eb : b = t1.heap.objs.size := List.mem_singleton.mp hb
    subst eb
    exact ⟨f0, f1, (I1.fpOk (H' := H1) (b := t1.heap.objs.size) (Nat.le_refl _) (I1.hok.fresh (Nat.le_refl _))).2.2.1, f3, f4, f5⟩) (Nat.le_refl _) ok
section
variable {K : PySem.W.Frag} {X : Fam K} {ρ : List Sl} {a e : Expr} {pos : Pos}
theorem pe_listRevK {Y : Cx} (hk : Y.K = K) {e : Expr} {te : TE} {p p2 pos pos2 : Pos} (hc : Y.calm = true) (b1 : Gl Y "list") (b2 : Y.mg "list" = none) (b3 : Gl Y "reversed") (b4 : Y.mg "reversed" = none) (he : PE Y e te) (s1 : starEach [e] Y.env = (false, eval e Y.env) :: starEach [] Y.env)
    (s2 : starEach [.Call (.Name "reversed" p2) [e] [] pos2] Y.env = (false, eval (.Call (.Name "reversed" p2) [e] [] pos2) Y.env) :: starEach [] Y.env) :
    PE Y (.Call (.Name "list" p) [.Call (.Name "reversed" p2) [e] [] pos2] [] pos) (tListRev K te) := by subst hk; exact pe_listRev hc b1 b2 b3 b4 he s1 s2
theorem dl_listRev {p p2 pos2 : Pos} {xs : List D} (h : DE X a ρ (.lst xs)) (b2 : ∀ j, (X.X j).mg "list" = none) (b4 : ∀ j, (X.X j).mg "reversed" = none) (hc : ∀ j, (X.X j).calm = true := by intro _; rfl) (b1 : ∀ j, Gl (X.X j) "list" := by intro _; rfl) (b3 : ∀ j, Gl (X.X j) "reversed" := by intro _; rfl)
    (s1 : ∀ j, starEach [a] (X.X j).env = (false, eval a (X.X j).env) :: starEach [] (X.X j).env := by intro _; rfl)
    (s2 : ∀ j, starEach [.Call (.Name "reversed" p2) [a] [] pos2] (X.X j).env = (false, eval (.Call (.Name "reversed" p2) [a] [] pos2) (X.X j).env) :: starEach [] (X.X j).env := by intro _; rfl) :
    DL X (.Call (.Name "list" p) [.Call (.Name "reversed" p2) [a] [] pos2] [] pos) ρ xs.reverse := fun B F H σ Q hh q =>
  ⟨tListRev K (WE X a), fun j => pe_listRevK (X.hK j) (hc j) (b1 j) (b2 j) (b3 j) (b4 j) (pe_w j) (s1 j) (s2 j), h B F H σ _ hh fun v F' H' s hv => by
    cases hv with
    | lst hs hv => exact ⟨_, _, rfl, s.fh.sqL hs, fun r hr => q r _ F' _ (s.trans (Stp.own s.fh hr)) (s.hh.back hr) (s.fh.back hr) upd_same hv.reverse⟩⟩
end
end Yp

namespace Yp
open PySem PySem.Spec PyProof.Rows L2
/-! ### == of data -/
mutual
def toPy : D → PyData
  | .non => .none
  | .bl b => .bool b
  | .int i => .int i
  | .str s => .str s
  | .lst xs => .list (toPys xs)
  | .tup xs => .tuple (toPys xs)
  | .dct _ => .dict []
def toPys : List D → List PyData
  | [] => []
  | x :: xs => toPy x :: toPys xs
end
mutual
def noDct : D → Bool
  | .dct _ => false
  | .lst xs => noDcts xs
  | .tup xs => noDcts xs
  | .non => true
  | .bl _ => true
  | .int _ => true
  | .str _ => true
def noDcts : List D → Bool
  | [] => true
  | x :: xs => noDct x && noDcts xs
end
section
variable {K : PySem.W.Frag} {F : Hp}
mutual
theorem Dv.py : ∀ {v : V} {d : D}, Dv K F v d → noDct d = true → Dp K F v (toPy d)
  | _, _, .non, _ => by rw [toPy]; exact .non
  | _, _, .bl b, _ => by rw [toPy]; exact .bl b
  | _, _, .int i, _ => by rw [toPy]; exact .int i
  | _, _, .str s, _ => by rw [toPy]; exact .str s
  | _, _, .lst h t, n => by rw [toPy]; exact .lst h (Dvs.py t (by rw [noDct] at n; exact n))
  | _, _, .tup h t, n => by rw [toPy]; exact .tup h (Dvs.py t (by rw [noDct] at n; exact n))
  | _, _, .dct h t, n => by rw [noDct] at n; cases n
theorem Dvs.py : ∀ {vs : List V} {ds : List D}, Dvs K F vs ds → noDcts ds = true → DpAll K F vs (toPys ds)
  | _, _, .nil, _ => by rw [toPys]; exact .nil
  | _, _, .cons h t, n => by
    rw [noDcts, Bool.and_eq_true] at n
    rw [toPys]
    exact .cons (Dv.py h n.1) (Dvs.py t n.2)
end
end
section
variable {K : PySem.W.Frag} {X : Fam K} {da db : D}
theorem op_eqDK {Y : Cx} (hk : Y.K = K) (hu : Y.A.units + 64 < cLine) : OpR Y (compareOp .Eq) (rEqD K) := by subst hk; exact op_eqD hu
theorem op_neDK {Y : Cx} (hk : Y.K = K) (hu : Y.A.units + 64 < cLine) : OpR Y (compareOp .NotEq) (rNeD K) := by subst hk; exact op_neD hu
theorem cm_eqD (hu : ∀ j, (X.X j).A.units + 64 < cLine) (n1 : noDct da = true) (n2 : noDct db = true) (s1 : SeqAt.shaped (toPy da) = true) (s2 : SeqAt.shaped (toPy db) = true) : CmD X .Eq da db (PyData.eqv (toPy da) (toPy db)) :=
  ⟨rEqD K, fun j => op_eqDK (X.hK j) (hu j), fun F H x y Q e hx hy q => ⟨_, _, (hx.mono e).py n1, (hy.mono e).py n2, s1, s2, q F H (Stp.refl e)⟩⟩
theorem cm_neD (hu : ∀ j, (X.X j).A.units + 64 < cLine) (n1 : noDct da = true) (n2 : noDct db = true) (s1 : SeqAt.shaped (toPy da) = true) (s2 : SeqAt.shaped (toPy db) = true) : CmD X .NotEq da db (!PyData.eqv (toPy da) (toPy db)) :=
  ⟨rNeD K, fun j => op_neDK (X.hK j) (hu j), fun F H x y Q e hx hy q => ⟨_, _, (hx.mono e).py n1, (hy.mono e).py n2, s1, s2, q F H (Stp.refl e)⟩⟩
end
example : PyData.eqv (toPy (.tup [.bl true, .bl true])) (toPy (.tup [.bl true, .bl true])) = true := by decide
example : SeqAt.shaped (toPy (.tup [.bl true, .bl true])) = true := by decide
example : noDct (.tup [.bl true, .bl true]) = true := by decide
end Yp

namespace Yp
open PySem PySem.Spec PyProof.Rows L2
/-! ### expressions of which only some things are known -/
section
variable {K : PySem.W.Frag} {X : Fam K} {ρ : List Sl} {R R' : Out → Prop} {a b c e : Expr} {da db dc d : D} {pos : Pos} {S S' : D → Prop}
def DEx (X : Fam K) (e : Expr) (ρ : List Sl) (S : D → Prop) : Prop := ∀ B F H σ (Q : VK), Hd K B F H ρ σ → (∀ d v F' H', S d → Stp F H F' H' → Dv K F' v d → Q v H') → WE X e σ H Q
def DAx (X : Fam K) (e : List Expr) (ρ : List Sl) (S : List D → Prop) : Prop := ∀ B F H σ (Q : List V → Hp → Prop), Hd K B F H ρ σ → (∀ ds vs F' H', S ds → Stp F H F' H' → Dvs K F' vs ds → Q vs H') → WA X e σ H Q
theorem DE.x (h : DE X e ρ d) (hs : S d) : DEx X e ρ S := fun B F H σ Q hh q => h B F H σ Q hh fun v F' H' s hv => q d v F' H' hs s hv
theorem DEx.imp (h : DEx X e ρ S) (q : ∀ d, S d → S' d) : DEx X e ρ S' := fun B F H σ Q hh k => h B F H σ Q hh fun d v F' H' hs s hv => k d v F' H' (q d hs) s hv
theorem dx_call {x : Str} {φ : SpecD} {es : List Expr} {ds : List D} {p : Pos} (Fk : Has X x φ) (ha : DA X (e :: es) ρ ds) (hφ : φ ds fun r => match r with | .val d => S d | .new os => S (.lst os))
    (hg : ∀ j, Gl (X.X j) x := by intro _; rfl)
    (hdb : (x == ("__debug__" : Str)) = false := by decide) (he : ∀ j, starEach (e :: es) (X.X j).env = (false, eval e (X.X j).env) :: starEach es (X.X j).env := by intro _; rfl) (hpl : ∀ j, (backTo pos (starEach es (X.X j).env)).any (·.1) = false := by intro _; rfl) :
    DEx X (.Call (.Name x p) (e :: es) [] pos) ρ S := fun B F H σ Q hh q => we_call Fk ha hφ hg hdb he hpl hh fun r v F' H' hr s rv => by
  cases r with
  | val d => exact q d v F' H' hr s rv
  | new os =>
    obtain ⟨p, us, rfl, e1, e2, e3, e4⟩ := rv
    refine q (.lst os) _ (upd F' p (.lst us)) H' hr ⟨s.ff.trans (Ex.new e2), fun a o z => ?_, s.hh, fun a o z => ?_⟩ (.lst (.inl (.inl upd_same)) (e4.mono (Ex.new e2)))
    · by_cases y : a = p
      · subst y; rw [upd_same] at z; cases z; exact e3
      · rw [upd_ne y] at z; exact s.fh a o z
    · by_cases y : a = p
      · subst y; exact .inr e1
      · rw [upd_ne y] at z; exact s.nw a o z
theorem dax_nil {S : List D → Prop} (h : S []) : DAx X [] ρ S := fun B F H σ Q hh q => ⟨_, fun _ => pa_nil, q [] [] F H h (Stp.refl hh.fh) .nil⟩
theorem dax_cons {es : List Expr} {S2 : D → List D → Prop} {S3 : List D → Prop} (h : DEx X e ρ S) (hr : ∀ d, S d → DAx X es ρ (S2 d)) (hS : ∀ d ds, S d → S2 d ds → S3 (d :: ds)) (hs : ∀ j, starEach (e :: es) (X.X j).env = (false, eval e (X.X j).env) :: starEach es (X.X j).env := by intro _; rfl) : DAx X (e :: es) ρ S3 := fun B F H σ Q hh q =>
  ⟨tCons (WE X e) (WA X es), fun j => pa_cons (pe_w j) (pa_w j) (hs j), h B F H σ _ hh fun d v F1 H1 h1 s1 v1 => hr d h1 B F1 H1 σ _ (hh.step s1) fun ds vs F2 H2 h2 s2 v2 => q (d :: ds) (v :: vs) F2 H2 (hS d ds h1 h2) (s1.trans s2) (.cons (v1.mono s2.ff) v2)⟩
theorem dx_tup {es : List Expr} {S2 : List D → Prop} {k : Nat} (h : DAx X es ρ S2) (hS : ∀ ds, S2 ds → ds.length ≤ 100000 ∧ S (.tup ds)) : DEx X (.Tuple es k pos) ρ S := fun B F H σ Q hh q =>
  ⟨tTup (WA X es), fun j => pe_tup (pa_w j), h B F H σ _ hh fun ds vs F1 H1 h1 s1 v1 => ⟨small (by rw [v1.length]; exact (hS ds h1).1), fun p hp =>
    q _ _ (upd F1 p (.tup vs)) _ (hS ds h1).2 (s1.trans (Stp.new s1.fh hp)) (.tup (.inl (.inl upd_same)) (v1.mono (Ex.new (s1.fh.back hp))))⟩⟩
theorem dx_callTy {T : String} {x : Str} {p : Pos} (h : DEx X e ρ S) (ho : ∀ d, S d → ∃ d', CaD X (.type T) [d] d' ∧ S' d') (hm : ∀ j, (X.X j).mg x = none) (hv : bootBuiltins x = some (.type T)) (hg : ∀ j, Gl (X.X j) x := by intro _; rfl)
    (hn : x ≠ "__name__" := by decide) (hdb : (x == ("__debug__" : Str)) = false := by decide) (he : ∀ j, starEach [e] (X.X j).env = (false, eval e (X.X j).env) :: starEach [] (X.X j).env := by intro _; rfl) (hpl : ∀ j, (backTo pos (starEach [] (X.X j).env)).any (·.1) = false := by intro _; rfl) : DEx X (.Call (.Name x p) [e] [] pos) ρ S' := fun B F H σ Q hh q => by
  -- the rule hangs on the value: the call is read for every rule at once
  refine ⟨tCB (fun vs H Q => ∃ r : List V → Hp → VK → Prop, (∀ j, CallR (X.X j) (.type T) r) ∧ r vs H Q) (WA X [e]), fun j => pe_callTy (fun pins s σ H xs us Q I rv ⟨r, hr, q⟩ => hr j pins s σ H xs us Q I rv q) (hg j) (hm j) hv (pa_w j) hn hdb (he j) (hpl j), ?_⟩
  refine (dax_cons (S2 := fun _ ds => ds = []) (S3 := fun ds => ∃ d, ds = [d] ∧ S d) h (fun d _ => dax_nil rfl) (fun d ds h1 h2 => ⟨d, by rw [h2], h1⟩) he) B F H σ _ hh fun ds vs F1 H1 h1 s1 v1 => ?_
  obtain ⟨d, rfl, hd⟩ := h1
  obtain ⟨d', ⟨r, r1, r2⟩, hd'⟩ := ho d hd
  exact ⟨r, r1, r2 F1 H1 vs Q s1.fh v1 fun v F2 H2 s2 v2 => q d' v F2 H2 hd' (s1.trans s2) v2⟩
theorem ds_setx (i : Nat) {x : Str} {p' : Pos} (he : DEx X e ρ S) (hR : ∀ d, S d → R (.nx (ρ.set i (.val d)))) (hN : ∀ j, (X.X j).N.Nodup) (hi : ∀ j, (X.X j).N[i]? = some x := by intro _; rfl) (hx : ∀ j, Loc (X.X j).env.scope x := by first | exact fun _ => Or.inl rfl | exact fun _ => Or.inr rfl)
    (hs : ∀ j, swapsWith e (some (.Name x p')) pos.line (X.X j).env = pure false := by intro _; rfl) (hf : ∀ j, (X.X j).fn x = true ∨ (X.X j).env.scope.names.lookup x = some .local := by first | exact fun _ => .inl rfl | exact fun _ => .inr rfl) :
    DS X (.Assign [.Name x p'] e pos) ρ R := fun B F0 F H σ D w hh p =>
  ⟨tAsg (WE X e) (gName i), fun j => ps_set (hN j) (hi j) (hx j) (pe_w j) (hs j) (hf j), he B F H σ _ hh fun d v F' H' hd s hv => p.nx _ F' H' _ (hR d hd) (w.step s) ((hh.step s).set hv i)⟩
end
end Yp

set_option maxHeartbeats 4000000
namespace K08
open PySem PySem.Spec PyProof.Rows L2 Yp
def topS (i : Nat) : Stmt := PySem.Challenge.pw_yesterpost_k08_numbered_guesses.main.body.getD i (.Pass ⟨0, 0, 0, 0⟩)
abbrev s_product_of : Stmt := topS 4
abbrev n_product_of : List Str := ["sizes", "product", "size"]
theorem c_product_of : FnScope n_product_of ["sizes"] (defScope s_product_of) := ⟨rfl, rfl, rfl, by decide +kernel, rfl, by decide +kernel, by decide +kernel⟩
abbrev s_open_posts : Stmt := topS 5
abbrev n_open_posts : List Str := ["house", "post"]
theorem c_open_posts : FnScope n_open_posts ["house"] (defScope s_open_posts) := ⟨rfl, rfl, rfl, by decide +kernel, rfl, by decide +kernel, by decide +kernel⟩
abbrev s_open_sizes : Stmt := topS 7
abbrev n_open_sizes : List Str := ["house", "post"]
theorem c_open_sizes : FnScope n_open_sizes ["house"] (defScope s_open_sizes) := ⟨rfl, rfl, rfl, by decide +kernel, rfl, by decide +kernel, by decide +kernel⟩
abbrev s_how_many : Stmt := topS 8
abbrev n_how_many : List Str := ["house"]
theorem c_how_many : FnScope n_how_many ["house"] (defScope s_how_many) := ⟨rfl, rfl, rfl, by decide +kernel, rfl, by decide +kernel, by decide +kernel⟩
abbrev s_is_guess : Stmt := topS 9
abbrev n_is_guess : List Str := ["house", "guess", "sizes", "letter", "size"]
theorem c_is_guess : FnScope n_is_guess ["house", "guess"] (defScope s_is_guess) := ⟨rfl, rfl, rfl, by decide +kernel, rfl, by decide +kernel, by decide +kernel⟩
abbrev s_number_of : Stmt := topS 10
abbrev n_number_of : List Str := ["house", "guess", "number", "letter", "size"]
theorem c_number_of : FnScope n_number_of ["house", "guess"] (defScope s_number_of) := ⟨rfl, rfl, rfl, by decide +kernel, rfl, by decide +kernel, by decide +kernel⟩
abbrev s_guess_at : Stmt := topS 11
abbrev n_guess_at : List Str := ["house", "number", "letters", "rest", "sizes", "size"]
theorem c_guess_at : FnScope n_guess_at ["house", "number"] (defScope s_guess_at) := ⟨rfl, rfl, rfl, by decide +kernel, rfl, by decide +kernel, by decide +kernel⟩
abbrev s_l_whole : Stmt := topS 13
abbrev n_l_whole : List Str := ["_law_found"]
theorem c_l_whole : FnScope n_l_whole ["_law_found"] (defScope s_l_whole) := ⟨rfl, rfl, rfl, by decide +kernel, rfl, by decide +kernel, by decide +kernel⟩
abbrev s_l_feed : Stmt := topS 14
abbrev n_l_feed : List Str := ["_law_script", "_law_feed_here", "_law_cell", "_law_left", "_law_turn", "_law_seed"]
theorem c_l_feed : FnScope n_l_feed ["_law_script"] (defScope s_l_feed) := ⟨rfl, rfl, rfl, by decide +kernel, rfl, by decide +kernel, by decide +kernel⟩
abbrev s_l_name : Stmt := topS 15
abbrev n_l_name : List Str := ["_law_pick", "_law_k", "_law_sign", "_law_at", "_law_words", "_law_some"]
theorem c_l_name : FnScope n_l_name ["_law_pick", "_law_k"] (defScope s_l_name) := ⟨rfl, rfl, rfl, by decide +kernel, rfl, by decide +kernel, by decide +kernel⟩
abbrev s_l_posts : Stmt := topS 16
abbrev n_l_posts : List Str := ["_law_feed_here", "_law_cap", "_law_pick", "_law_posts_here", "_law_product", "_law_k", "_law_size", "_law_way"]
theorem c_l_posts : FnScope n_l_posts ["_law_feed_here", "_law_cap"] (defScope s_l_posts) := ⟨rfl, rfl, rfl, by decide +kernel, rfl, by decide +kernel, by decide +kernel⟩
abbrev s_l_boxes : Stmt := topS 17
abbrev n_l_boxes : List Str := ["_law_feed_here", "_law_boxes_here", "_law_k", "_law_size"]
theorem c_l_boxes : FnScope n_l_boxes ["_law_feed_here"] (defScope s_l_boxes) := ⟨rfl, rfl, rfl, by decide +kernel, rfl, by decide +kernel, by decide +kernel⟩
abbrev s_l_sizes : Stmt := topS 18
abbrev n_l_sizes : List Str := ["_law_house", "_law_post"]
theorem c_l_sizes : FnScope n_l_sizes ["_law_house"] (defScope s_l_sizes) := ⟨rfl, rfl, rfl, by decide +kernel, rfl, by decide +kernel, by decide +kernel⟩
abbrev s_l_guess : Stmt := topS 19
abbrev n_l_guess : List Str := ["_law_sizes_here", "_law_number", "_law_letters", "_law_size"]
theorem c_l_guess : FnScope n_l_guess ["_law_sizes_here", "_law_number"] (defScope s_l_guess) := ⟨rfl, rfl, rfl, by decide +kernel, rfl, by decide +kernel, by decide +kernel⟩
abbrev s_l_many : Stmt := topS 20
abbrev n_l_many : List Str := ["_law_sizes_here", "_law_many_here", "_law_size"]
theorem c_l_many : FnScope n_l_many ["_law_sizes_here"] (defScope s_l_many) := ⟨rfl, rfl, rfl, by decide +kernel, rfl, by decide +kernel, by decide +kernel⟩
abbrev s_l_is_guess : Stmt := topS 21
abbrev n_l_is_guess : List Str := ["_law_found", "_law_due", "_law_k"]
theorem c_l_is_guess : FnScope n_l_is_guess ["_law_found", "_law_due"] (defScope s_l_is_guess) := ⟨rfl, rfl, rfl, by decide +kernel, rfl, by decide +kernel, by decide +kernel⟩
abbrev s_l_refused : Stmt := topS 22
abbrev n_l_refused : List Str := ["_law_house", "_law_number", "_law_kinds", "e"]
theorem c_l_refused : FnScope n_l_refused ["_law_house", "_law_number"] (defScope s_l_refused) := ⟨rfl, rfl, rfl, by decide +kernel, rfl, by decide +kernel, by decide +kernel⟩
abbrev s_law : Stmt := topS 23
abbrev n_law : List Str := ["_law_script", "_law_feed_here", "_law_house", "_law_sizes_here", "_law_many_here", "_law_count", "_law_k", "_law_number", "_law_due", "_law_found"]
theorem c_law : FnScope n_law ["_law_script"] (defScope s_law) := ⟨rfl, rfl, rfl, by decide +kernel, rfl, by decide +kernel, by decide +kernel⟩
structure Txt (K : PySem.W.Frag) (mg : Str → Option Value) (C_HouseError C_NoGuess : Addr) : Prop where
  d_product_of : Df K mg "product_of" s_product_of ["sizes"]
  d_open_posts : Df K mg "open_posts" s_open_posts ["house"]
  d_open_sizes : Df K mg "open_sizes" s_open_sizes ["house"]
  d_how_many : Df K mg "how_many" s_how_many ["house"]
  d_is_guess : Df K mg "is_guess" s_is_guess ["house", "guess"]
  d_number_of : Df K mg "number_of" s_number_of ["house", "guess"]
  d_guess_at : Df K mg "guess_at" s_guess_at ["house", "number"]
  d_l_whole : Df K mg "_law_whole" s_l_whole ["_law_found"]
  d_l_feed : Df K mg "_law_feed" s_l_feed ["_law_script"]
  d_l_name : Df K mg "_law_name" s_l_name ["_law_pick", "_law_k"]
  d_l_posts : Df K mg "_law_posts" s_l_posts ["_law_feed_here", "_law_cap"]
  d_l_boxes : Df K mg "_law_boxes" s_l_boxes ["_law_feed_here"]
  d_l_sizes : Df K mg "_law_sizes" s_l_sizes ["_law_house"]
  d_l_guess : Df K mg "_law_guess" s_l_guess ["_law_sizes_here", "_law_number"]
  d_l_many : Df K mg "_law_many" s_l_many ["_law_sizes_here"]
  d_l_is_guess : Df K mg "_law_is_guess" s_l_is_guess ["_law_found", "_law_due"]
  d_l_refused : Df K mg "_law_refused" s_l_refused ["_law_house", "_law_number"]
  m_ValueError : mg "ValueError" = none
  m_abs : mg "abs" = none
  m_all : mg "all" = none
  m_bool : mg "bool" = none
  m_int : mg "int" = none
  m_isinstance : mg "isinstance" = none
  m_len : mg "len" = none
  m_list : mg "list" = none
  m_min : mg "min" = none
  m_range : mg "range" = none
  m_reversed : mg "reversed" = none
  m_sum : mg "sum" = none
  m_tuple : mg "tuple" = none
  m_zip : mg "zip" = none
  x_HouseError : Xc K mg "HouseError" C_HouseError
  e_HouseError : ExcC K C_HouseError
  x_NoGuess : Xc K mg "NoGuess" C_NoGuess
  e_NoGuess : ExcC K C_NoGuess
  exm_NoGuess_HouseError : PySem.W.exmOne K (.ref C_NoGuess) (.ref C_HouseError) = some true
  kit_NoGuess_NoGuess : PySem.W.kitOne K (.ref C_NoGuess) (.ref C_NoGuess) = some true
  kit_NoGuess_ValueError : PySem.W.kitOne K (.ref C_NoGuess) (.type "ValueError") = some true
end K08

namespace K08
open PySem PySem.Spec PyProof.Rows L2 Yp
/-! ### the feed -/
def Rng (ns : List Int) : Prop := ∀ n ∈ ns, 0 ≤ n ∧ n < 55440
def Feed (ns : List Int) : Prop := 270 ≤ ns.length ∧ ns.length ≤ 1000 ∧ Rng ns
def fFeed : SpecD := fun ds R => ∃ xs : List Int, ds = [.lst (xs.map .int)] ∧ ∀ ns, Feed ns → R (.new (ns.map .int))
theorem Rng.snoc {ns : List Int} {n : Int} (h : Rng ns) (h1 : 0 ≤ n) (h2 : n < 55440) : Rng (ns ++ [n]) := fun m hm => by
  rcases List.mem_append.mp hm with z | z
  · exact h m z
  · rw [List.mem_singleton.mp z]; exact ⟨h1, h2⟩
theorem map_snoc {α : Type} {f : α → D} (ns : List α) (n : α) : ns.map f ++ [f n] = (ns ++ [n]).map f := by rw [List.map_append]; rfl
section
variable {P : Program} {w : World} {K : PySem.W.Frag} {mg : Str → Option Value} {base : Heap} {C_HouseError C_NoGuess : Addr}
theorem ok_feed (T : Txt K mg C_HouseError C_NoGuess) {k : Nat} (f : Addr) (fd : FuncData) (F : Fun K "_law_feed" "_law_feed" s_l_feed f fd) :
    FnOk P w K mg base CX0 (k + 1) f fd ["_law_script"] (spD K fFeed) := by
  refine fn_data F c_l_feed (fun ds R h => ?_) (fun cdv A outer s H E hr ds R h => ?_)
  · obtain ⟨xs, rfl, _⟩ := h; rfl
  · obtain ⟨xs, rfl, q⟩ := h
    have nd := c_l_feed.nd
    refine dss_cons (ds_setL 1 (dl_lst da_nil) ?_ (fun _ => nd))
    refine dss_cons (ds_for [2] (fun i ρ => ∃ (ns : List Int) (c2 c3 c4 c5 : Sl), ρ = [.val (.lst (xs.map .int)), .own (ns.map .int), c2, c3, c4, c5] ∧ ns.length ≤ 329 ∧ Rng ns) (di_list (de_var 0 rfl)) ⟨[], .any, .any, .any, .any, rfl, Nat.zero_le _, fun _ h => nomatch h⟩ ?_ ?_)
    · rintro i ρ' d hd ⟨ns, c2, c3, c4, c5, rfl, hl, hr'⟩
      obtain ⟨c, rfl⟩ : ∃ c, d = .int c := by
        rw [List.getElem?_map] at hd
        cases z : xs[i]? with
        | none => rw [z] at hd; cases hd
        | some c => rw [z] at hd; exact ⟨c, (Option.some.inj hd).symm⟩
      refine dg_name 2 ?_ (fun _ => nd)
      refine dss_cons (ds_if (dt_borrow 1 rfl (dt_cmp (de_callB ca_lenL (fun _ => T.m_len) PySem.boot_len (da_cons (de_var 1 rfl) da_nil)) de_int cm_lt)) (fun hk => ?_) (fun hk => ?_))
      · have hk' := of_decide_eq_true hk
        rw [List.length_map] at hk'
        have hlt : ns.length < 270 := by omega
        refine dss_cons (ds_set 3 (de_callB ca_abs (fun _ => T.m_abs) (by decide +kernel) (da_cons (de_var 2 rfl) da_nil)) ?_ (fun _ => nd))
        refine dss_cons (ds_if (dt_cmp (de_var 3 rfl) (de_bin de_int de_int (opd_pow ⟨by decide, by decide, by decide⟩)) cm_ge) (fun hb => ?_) (fun hb => ?_))
        · refine dss_cons (ds_for [4] (fun j ρ => ∃ (ds : List D) (ns : List Int) (l : Int) (c4 : Sl), ρ = [.val (.lst (xs.map .int)), .own ds, .val (.int c), .val (.int l), c4, c5] ∧ ds = ns.map .int ∧ ns.length ≤ 269 + j ∧ 0 ≤ l ∧ Rng ns) (di_range1 de_int (fun _ => T.m_range)) ⟨_, ns, _, c4, rfl, rfl, by omega, by split <;> omega, hr'⟩ ?_ ?_)
          · rintro j ρ' d hd ⟨_, ns, l, c4, rfl, rfl, hl, h0, hr'⟩
            obtain ⟨hj, rfl⟩ := rangeD_get hd
            have hj' : j < 60 := hj
            refine dg_name 4 ?_ (fun _ => nd)
            refine dss_cons (ds_if (dt_cmp (de_var 3 rfl) de_int cm_gt) (fun hp => ?_) (fun hp => ?_))
            · refine dss_cons (ds_append 1 rfl (de_bin (de_var 3 rfl) de_int (opd_mod (by decide))) (by rw [List.length_map]; omega) ?_)
              refine dss_cons (ds_set 3 (de_bin (de_var 3 rfl) de_int (opd_div ⟨by decide, by decide⟩)) ?_ (fun _ => nd))
              exact dss_nil (dss_nil ⟨_, _, _, _, rfl, map_snoc _ _, by rw [List.length_append]; show ns.length + 1 ≤ _; omega, by omega, hr'.snoc (by omega) (by omega)⟩)
            · exact dss_nil (dss_nil ⟨_, ns, l, _, rfl, rfl, by omega, h0, hr'⟩)
          · rintro ρ' ⟨_, ns, l, c4, rfl, rfl, hl, h0, hr'⟩
            rw [rangeD_len] at hl
            exact dss_nil (dss_nil (dss_nil ⟨ns, _, _, _, _, rfl, hl, hr'⟩))
        · refine dss_cons (ds_set 5 (de_bin (de_bin (de_bin (de_bin (de_bin de_int (de_var 3 rfl) (opd_mul (.inl ⟨by decide, by decide⟩))) (de_callTy ca_intB (fun _ => T.m_int) (by decide +kernel) (da_cons (de_cmp (de_var 2 rfl) de_int cm_lt) da_nil)) opd_add) de_int (opd_mul (.inr ⟨by decide, by decide⟩))) de_int opd_add) de_int (opd_mod (by decide))) ?_ (fun _ => nd))
          refine dss_cons (ds_for [4] (fun j ρ => ∃ (ds : List D) (ns : List Int) (sd : Int) (c4 : Sl), ρ = [.val (.lst (xs.map .int)), .own ds, .val (.int c), .val (.int (if c < 0 then -c else c)), c4, .val (.int sd)] ∧ ds = ns.map .int ∧ ns.length ≤ 269 + j ∧ Rng ns) (di_range1 de_int (fun _ => T.m_range)) ⟨_, ns, _, c4, rfl, rfl, by omega, hr'⟩ ?_ ?_)
          · rintro j ρ' d hd ⟨_, ns, sd, c4, rfl, rfl, hl, hr'⟩
            obtain ⟨hj, rfl⟩ := rangeD_get hd
            have hj' : j < 6 := hj
            refine dg_name 4 ?_ (fun _ => nd)
            refine dss_cons (ds_set 5 (de_bin (de_bin (de_bin (de_var 5 rfl) de_int (opd_mul (.inr ⟨by decide, by decide⟩))) de_int opd_add) de_int (opd_mod (by decide))) ?_ (fun _ => nd))
            refine dss_cons (ds_append 1 rfl (de_bin (de_bin (de_var 5 rfl) de_int (opd_div ⟨by decide, by decide⟩)) de_int (opd_mod (by decide))) (by rw [List.length_map]; omega) ?_)
            exact dss_nil ⟨_, _, _, _, rfl, map_snoc _ _, by rw [List.length_append]; show ns.length + 1 ≤ _; omega, hr'.snoc (by omega) (by omega)⟩
          · rintro ρ' ⟨_, ns, sd, c4, rfl, rfl, hl, hr'⟩
            rw [rangeD_len] at hl
            have hl' : ns.length ≤ 275 := hl
            exact dss_nil (dss_nil (dss_nil ⟨ns, _, _, _, _, rfl, by omega, hr'⟩))
      · exact dss_nil (dss_nil ⟨ns, _, _, _, _, rfl, hl, hr'⟩)
    · rintro ρ' ⟨ns, c2, c3, c4, c5, rfl, hl, hr'⟩
      refine dss_cons (ds_set 5 (de_borrow 1 rfl rfl (de_bin (de_bin de_int (de_callB ca_lenL (fun _ => T.m_len) PySem.boot_len (da_cons (de_var 1 rfl) da_nil)) opd_add) (de_callB (ca_sum (fun _ => rfl)) (fun _ => T.m_sum) (by decide +kernel) (da_cons (de_var 1 rfl) da_nil)) opd_add)) ?_ (fun _ => nd))
      refine dss_cons (ds_for [4] (fun j ρ => ∃ (ds : List D) (ms : List Int) (sd : Int) (c4 : Sl), ρ = [.val (.lst (xs.map .int)), .own ds, c2, c3, c4, .val (.int sd)] ∧ ds = ms.map .int ∧ ms.length = ns.length + j ∧ Rng ms) (di_range1 (de_bin de_int (de_borrow 1 rfl rfl (de_callB ca_lenL (fun _ => T.m_len) PySem.boot_len (da_cons (de_var 1 rfl) da_nil))) opd_sub) (fun _ => T.m_range) (by rw [List.length_map]; omega) (by omega)) ⟨_, ns, _, c4, rfl, rfl, rfl, hr'⟩ ?_ ?_)
      · rintro j ρ' d hd ⟨_, ms, sd, c4, rfl, rfl, hl2, hr2⟩
        obtain ⟨hj, rfl⟩ := rangeD_get hd
        rw [List.length_map] at hj
        have hj' : j < 270 := by omega
        refine dg_name 4 ?_ (fun _ => nd)
        refine dss_cons (ds_set 5 (de_bin (de_bin (de_bin (de_var 5 rfl) de_int (opd_mul (.inr ⟨by decide, by decide⟩))) de_int opd_add) de_int (opd_mod (by decide))) ?_ (fun _ => nd))
        refine dss_cons (ds_append 1 rfl (de_bin (de_bin (de_var 5 rfl) de_int (opd_div ⟨by decide, by decide⟩)) de_int (opd_mod (by decide))) (by rw [List.length_map]; omega) ?_)
        exact dss_nil ⟨_, _, _, _, rfl, map_snoc _ _, by rw [List.length_append]; show ms.length + 1 = _; omega, hr2.snoc (by omega) (by omega)⟩
      · rintro ρ' ⟨_, ms, sd, c4, rfl, rfl, hl2, hr2⟩
        rw [rangeD_len, List.length_map] at hl2
        exact dss_cons (ds_retO 1 rfl (q ms ⟨by omega, by omega, hr2⟩))
end
theorem feed_at {ns : List Int} (hf : Feed ns) (i : Int) (h0 : 0 ≤ i := by omega) (h1 : i < 270 := by omega) : ∃ n : Int, atI (ns.map D.int) i = some (.int n) ∧ 0 ≤ n ∧ n < 55440 := by
  have hl : i.toNat < ns.length := by have := hf.1; omega
  have e := atI_map (xs := ns) (f := D.int) (0 : Int) h0 (by have := hf.1; omega)
  exact ⟨_, e, hf.2.2 _ (Yp.getD_mem hl)⟩
/-! ### names -/
def alpha : Str := Str.ofString "abcdefghijklmnopqrstuvwxyz"
def mist : Str := Str.ofString "mistral"
def words8 : List Str := [Str.ofString "set", Str.ofString "back", Str.ofString "box", Str.ofString "post", Str.ofString "on", Str.ofString "copy", Str.ofString "turn", Str.ofString "a"]
def nSign (p k : Int) : Str := ⟨#[alpha.cps.toList.getD ((p / 32 + 11 * k) % 26).toNat 0]⟩
def nAt (p : Int) : Int := p / 4 % 8
def nameL (p k : Int) : List Str := [nSign p k, cutS mist none (some (nAt p)) ++ nSign p k ++ cutS mist (some (nAt p)) none, Txt.mul (nSign p k) (1 + (nAt p + 3 * k) % 8), words8.getD ((nAt p + k) % 8).toNat Str.empty]
def nameF (p k : Int) : Str := (nameL p k).getD (p % 4).toNat Str.empty
def fName : SpecD := fun ds R => ∃ p k : Int, ds = [.int p, .int k] ∧ 0 ≤ p ∧ 0 ≤ k ∧ R (.val (.str (nameF p k)))
theorem mulOk_small {z : Str} {n : Int} (h1 : 1 ≤ n) (h2 : n ≤ 8) (hz : z.length = 1) : MulOk z n := by
  refine ⟨?_, fun _ _ => ?_, fun _ _ => ?_⟩
  · rw [decide_eq_false (by omega), decide_eq_false (by omega)]; rfl
  · rw [hz]
    have h : n = 1 ∨ n = 2 ∨ n = 3 ∨ n = 4 ∨ n = 5 ∨ n = 6 ∨ n = 7 ∨ n = 8 := by omega
    rcases h with rfl | rfl | rfl | rfl | rfl | rfl | rfl | rfl <;> decide
  · rw [hz]
    have h : n = 1 ∨ n = 2 ∨ n = 3 ∨ n = 4 ∨ n = 5 ∨ n = 6 ∨ n = 7 ∨ n = 8 := by omega
    rcases h with rfl | rfl | rfl | rfl | rfl | rfl | rfl | rfl <;> decide +kernel
theorem cutS_len (z : Str) (lo hi : Option Int) : (cutS z lo hi).length ≤ z.length := by
  unfold cutS
  show ((z.cps.toList.drop _).take _).toArray.size ≤ _
  rw [List.size_toArray, List.length_take, List.length_drop, Array.length_toList]
  show _ ≤ z.cps.size
  omega
theorem app_len (x y : Str) : (x ++ y).length = x.length + y.length := Array.size_append
section
variable {P : Program} {w : World} {K : PySem.W.Frag} {mg : Str → Option Value} {base : Heap} {C_HouseError C_NoGuess : Addr}
theorem ok_name_ (T : Txt K mg C_HouseError C_NoGuess) {k : Nat} (f : Addr) (fd : FuncData) (F : Fun K "_law_name" "_law_name" s_l_name f fd) : FnOk P w K mg base CX0 (k + 1) f fd ["_law_pick", "_law_k"] (spD K fName) := by
  refine fn_data F c_l_name (fun ds R h => ?_) (fun cdv A outer s H E hr ds R h => ?_)
  · obtain ⟨_, _, rfl, _⟩ := h; rfl
  · obtain ⟨p, k, rfl, hp, hk, q⟩ := h
    have nd := c_l_name.nd
    have hs1 : (nSign p k).length = 1 := rfl
    have hm7 : mist.length = 7 := by decide +kernel
    have h8 : (0 : Int) ≤ nAt p ∧ nAt p < 8 := ⟨emod_nn (by decide), emod_lt (by decide)⟩
    refine dss_cons (ds_set 2 (de_ixS de_str (de_bin (de_bin (de_bin (de_var 0 rfl) de_int (opd_div ⟨by decide, by decide⟩)) (de_bin de_int (de_var 1 rfl) (opd_mul (.inl ⟨by decide, by decide⟩))) opd_add) de_int (opd_mod (by decide))) (by decide +kernel)
      (atI_get (d := 0) (emod_nn (by decide)) (Int.lt_of_lt_of_le (emod_lt (by decide)) (by decide +kernel)))) ?_ (fun _ => nd))
    refine dss_cons (ds_set 3 (de_bin (de_bin (de_var 0 rfl) de_int (opd_div ⟨by decide, by decide⟩)) de_int (opd_mod (by decide))) ?_ (fun _ => nd))
    refine dss_cons (ds_set 4 (dl_lst (da_cons de_str (da_cons de_str (da_cons de_str (da_cons de_str (da_cons de_str (da_cons de_str (da_cons de_str (da_cons de_str da_nil))))))))).de ?_ (fun _ => nd))
    refine dss_cons (ds_setL 5 (dl_lst (da_cons (de_var 2 rfl) (da_cons (de_bin (de_bin (de_slS de_str do_none (do_some (de_var 3 rfl)) (by decide +kernel)) (de_var 2 rfl) (opd_addS ?a)) (de_slS de_str (do_some (de_var 3 rfl)) do_none (by decide +kernel)) (opd_addS ?b)) (da_cons (de_bin (de_var 2 rfl) (de_bin de_int (de_bin (de_bin (de_var 3 rfl) (de_bin de_int (de_var 1 rfl) (opd_mul (.inl ⟨by decide, by decide⟩))) opd_add) de_int (opd_mod (by decide))) opd_add) (opd_mulS (mulOk_small ?c ?d hs1))) da_nil)))) ?_ (fun _ => nd))
    case a =>
      have z := cutS_len mist none (some (nAt p))
      exact small (by show (cutS mist none (some (nAt p))).length + 1 ≤ _; omega)
    case b =>
      have z := cutS_len mist none (some (nAt p))
      have z2 := cutS_len mist (some (nAt p)) none
      refine small ?_
      rw [app_len]
      show (cutS mist none (some (nAt p))).length + 1 + (cutS mist (some (nAt p)) none).length ≤ _
      omega
    case c =>
      have := emod_nn (i := nAt p + 3 * k) (n := 8) (by decide)
      show 1 ≤ 1 + (nAt p + 3 * k) % 8
      omega
    case d =>
      have := emod_lt (i := nAt p + 3 * k) (n := 8) (by decide)
      show 1 + (nAt p + 3 * k) % 8 ≤ 8
      omega
    have e8 : atI (words8.map D.str) ((nAt p + k) % 8) = some (.str (words8.getD ((nAt p + k) % 8).toNat Str.empty)) := atI_map _ (emod_nn (by decide)) (emod_lt (by decide))
    refine dss_cons (ds_ret (de_ixL (dl_cat (dlr_own 5 rfl) (dl_lst (da_cons (de_ixL (de_var 4 rfl) (de_bin (de_bin (de_var 3 rfl) (de_var 1 rfl) opd_add) de_int (opd_mod (by decide))) e8) da_nil)).r (by show 3 + 1 ≤ 100000; decide)).de (de_bin (de_var 0 rfl) de_int (opd_mod (by decide))) (d := .str (nameF p k)) ?_) q)
    exact atI_map (xs := nameL p k) (f := D.str) Str.empty (emod_nn (by decide)) (emod_lt (by decide))
end
end K08

namespace K08
open PySem PySem.Spec PyProof.Rows L2 Yp
/-! ### posts and boxes -/
structure Post where
  name : Str
  size : Int
  way : Str
  letter : Int
structure Box where
  name : Str
  size : Int
  start : Int
def Post.d (p : Post) : D := .tup [.str p.name, .int p.size, .str p.way, .int p.letter]
def Box.d (p : Box) : D := .tup [.str p.name, .int p.size, .int p.start]
abbrev wOn : Str := Str.ofString "on"
abbrev wBack : Str := Str.ofString "back"
abbrev wHeld : Str := Str.ofString "held"
structure Post.Ok (p : Post) : Prop where
  s1 : 1 ≤ p.size
  s9 : p.size ≤ 9
  wy : p.way = wOn ∨ p.way = wBack ∨ p.way = wHeld
  l0 : 0 ≤ p.letter
  ls : p.letter < p.size
structure Box.Ok (p : Box) : Prop where
  s1 : 1 ≤ p.size
  s9 : p.size ≤ 9
  l0 : 0 ≤ p.start
  ls : p.start < p.size
/-- the names are those of rising places -/
def Names (m : Nat) (zs : List Str) : Prop := ∃ (p : Int) (js : List Nat), 0 ≤ p ∧ js.Pairwise (· < ·) ∧ (∀ j ∈ js, j < m) ∧ zs = js.map fun (j : Nat) => nameF p (j : Int)
def prodI (xs : List Int) : Int := xs.foldl (· * ·) 1
theorem prodI_snoc (xs : List Int) (x : Int) : prodI (xs ++ [x]) = prodI xs * x := by unfold prodI; rw [List.foldl_append]; rfl
structure PostsOk (cap : Int) (ps : List Post) : Prop where
  len : ps.length ≤ 6
  ok : ∀ p ∈ ps, p.Ok
  prod : prodI (ps.map Post.size) ≤ cap
  nm : Names 6 (ps.map Post.name)
structure BoxesOk (bs : List Box) : Prop where
  len : bs.length ≤ 8
  ok : ∀ p ∈ bs, p.Ok
  nm : Names 8 (bs.map Box.name)
def fPosts : SpecD := fun ds R => ∃ (ns : List Int) (cap : Int), ds = [.lst (ns.map .int), .int cap] ∧ Feed ns ∧ 1 ≤ cap ∧ ∀ ps, PostsOk cap ps → R (.new (ps.map Post.d))
def fBoxes : SpecD := fun ds R => ∃ (ns : List Int), ds = [.lst (ns.map .int)] ∧ Feed ns ∧ ∀ bs, BoxesOk bs → R (.new (bs.map Box.d))
theorem pick3 {a b c i : Int} (h0 : 0 ≤ i) (h1 : i < 3) : ∃ x, atI [D.int a, D.int b, D.int c] i = some (.int x) ∧ (x = a ∨ x = b ∨ x = c) := by
  have e := atI_map (xs := [a, b, c]) (f := D.int) (0 : Int) h0 h1
  have m : [a, b, c].getD i.toNat 0 ∈ [a, b, c] := Yp.getD_mem (by show i.toNat < 3; omega)
  exact ⟨_, e, by simpa using m⟩
theorem pick_int {xs : List Int} {i : Int} (h0 : 0 ≤ i) (h1 : i < xs.length) : ∃ x, atI (xs.map D.int) i = some (.int x) ∧ x ∈ xs :=
  ⟨_, atI_map (xs := xs) (f := D.int) (0 : Int) h0 h1, Yp.getD_mem (by omega)⟩
theorem pick_str {xs : List Str} {i : Int} (h0 : 0 ≤ i) (h1 : i < xs.length) : ∃ x, atI (xs.map D.str) i = some (.str x) ∧ x ∈ xs :=
  ⟨_, atI_map (xs := xs) (f := D.str) Str.empty h0 h1, Yp.getD_mem (by omega)⟩
section
variable {P : Program} {w : World} {K : PySem.W.Frag} {mg : Str → Option Value} {base : Heap} {C_HouseError C_NoGuess : Addr}
theorem ok_posts (T : Txt K mg C_HouseError C_NoGuess) {k : Nat} (f : Addr) (fd : FuncData) (F : Fun K "_law_posts" "_law_posts" s_l_posts f fd) : FnOk P w K mg base CX0 (k + 2) f fd ["_law_feed_here", "_law_cap"] (spD K fPosts) := by
  refine fn_data F c_l_posts (fun ds R h => ?_) (fun cdv A outer s H E hr ds R h => ?_)
  · obtain ⟨_, _, rfl, _⟩ := h; rfl
  · obtain ⟨ns, cap, rfl, hf, hcap, q⟩ := h
    have nd := c_l_posts.nd
    obtain ⟨n37, e37, a37, b37⟩ := feed_at hf 37
    obtain ⟨n38, e38, a38, b38⟩ := feed_at hf 38
    obtain ⟨n39, e39, a39, b39⟩ := feed_at hf 39
    obtain ⟨n0, e0, a0, b0⟩ := feed_at hf 0
    obtain ⟨pk, epk, hpk⟩ := pick3 (a := n37) (b := n38) (c := n38) (i := n39 % 3) (emod_nn (by decide)) (emod_lt (by decide))
    have hpk0 : 0 ≤ pk := by rcases hpk with h | h | h <;> omega
    refine dss_cons (ds_set 2 (de_ixL (dl_lst (da_cons (de_ixL (de_var 0 rfl) de_int e37) (da_cons (de_ixL (de_var 0 rfl) de_int e38) (da_cons (de_ixL (de_var 0 rfl) de_int e38) da_nil)))).de (de_bin (de_ixL (de_var 0 rfl) de_int e39) de_int (opd_mod (by decide))) epk) ?_ (fun _ => nd))
    refine dss_cons (ds_setL 3 (dl_lst da_nil) ?_ (fun _ => nd))
    refine dss_cons (ds_set 4 de_int ?_ (fun _ => nd))
    refine dss_cons (ds_for [5] (fun i ρ => ∃ (ds : List D) (pr : Int) (ps : List Post) (js : List Nat) (c5 c6 c7 : Sl), ρ = [.val (.lst (ns.map .int)), .val (.int cap), .val (.int pk), .own ds, .val (.int pr), c5, c6, c7] ∧ ds = ps.map Post.d ∧ pr = prodI (ps.map Post.size) ∧ ps.length ≤ i ∧ (∀ p ∈ ps, p.Ok) ∧
        prodI (ps.map Post.size) ≤ cap ∧ 1 ≤ prodI (ps.map Post.size) ∧ js.Pairwise (· < ·) ∧ (∀ j ∈ js, j < i) ∧ ps.map Post.name = js.map fun (j : Nat) => nameF pk (j : Int))
      (di_range1 (de_bin (de_ixL (de_var 0 rfl) de_int e0) de_int (opd_mod (by decide))) (fun _ => T.m_range)) ⟨[], 1, [], [], .any, .any, .any, rfl, rfl, rfl, Nat.zero_le _, (fun _ h => nomatch h), hcap, by decide, .nil, (fun _ h => nomatch h), rfl⟩ ?_ ?_)
    · rintro i ρ' d hd ⟨_, _, ps, js, c5, c6, c7, rfl, rfl, rfl, hl, hok, hpc, hp1, hjs, hji, hnm⟩
      obtain ⟨hi, rfl⟩ := rangeD_get hd
      have hi' : i < 6 := by omega
      obtain ⟨n1, e1, _, _⟩ := feed_at hf (1 + (0 + (i : Int)))
      obtain ⟨n7, e7, _, _⟩ := feed_at hf (7 + (0 + (i : Int)))
      obtain ⟨n13, e13, _, _⟩ := feed_at hf (13 + (0 + (i : Int)))
      obtain ⟨sz, esz, hsz⟩ := pick_int (xs := [2, 3, 2, 4, 1, 2, 3, 5, 6, 7, 8, 9]) (i := n1 % 12) (emod_nn (by decide)) (emod_lt (by decide))
      have hs1 : 1 ≤ sz ∧ sz ≤ 9 := by
        have : ∀ x ∈ ([2, 3, 2, 4, 1, 2, 3, 5, 6, 7, 8, 9] : List Int), 1 ≤ x ∧ x ≤ 9 := by decide
        exact this sz hsz
      obtain ⟨wy, ewy, hwy⟩ := pick_str (xs := [wBack, wOn, wBack, wHeld, wBack]) (i := n7 % 5) (emod_nn (by decide)) (emod_lt (by decide))
      have hw3 : wy = wOn ∨ wy = wBack ∨ wy = wHeld := by
        simp only [List.mem_cons, List.not_mem_nil, or_false] at hwy
        rcases hwy with h | h | h | h | h
        · exact .inr (.inl h)
        · exact .inl h
        · exact .inr (.inl h)
        · exact .inr (.inr h)
        · exact .inr (.inl h)
      have hmul : CMul (prodI (ps.map Post.size)) sz := .inr ⟨by omega, by omega⟩
      refine dg_name 5 ?_ (fun _ => nd)
      refine dss_cons (ds_set 6 (de_ixL (dl_lst (da_cons de_int (da_cons de_int (da_cons de_int (da_cons de_int (da_cons de_int (da_cons de_int (da_cons de_int (da_cons de_int (da_cons de_int (da_cons de_int (da_cons de_int (da_cons de_int da_nil))))))))))))).de (de_bin (de_ixL (de_var 0 rfl) (de_bin de_int (de_var 5 rfl) opd_add) e1) de_int (opd_mod (by decide))) esz) ?_ (fun _ => nd))
      refine dss_cons (ds_if (dt_cmp (de_bin (de_var 4 rfl) (de_var 6 rfl) (opd_mul hmul)) (de_var 1 rfl) cm_le) (fun hk => ?_) (fun hk => ?_))
      · have hk' := of_decide_eq_true hk
        refine dss_cons (ds_set 4 (de_bin (de_var 4 rfl) (de_var 6 rfl) (opd_mul hmul)) ?_ (fun _ => nd))
        refine dss_cons (ds_set 7 (de_ixL (dl_lst (da_cons de_str (da_cons de_str (da_cons de_str (da_cons de_str (da_cons de_str da_nil)))))).de (de_bin (de_ixL (de_var 0 rfl) (de_bin de_int (de_var 5 rfl) opd_add) e7) de_int (opd_mod (by decide))) ewy) ?_ (fun _ => nd))
        refine dss_cons (ds_append 3 rfl (d := Post.d ⟨nameF pk (0 + (i : Int)), sz, wy, n13 % sz⟩) (de_tup (da_cons (de_call (has_of T.d_l_name (ok_name_ T (k := 0)) (fun _ => hr.mono (by omega))) (da_cons (de_var 2 rfl) (da_cons (de_var 5 rfl) da_nil)) ⟨_, _, rfl, hpk0, by omega, rfl⟩) (da_cons (de_var 6 rfl) (da_cons (de_var 7 rfl) (da_cons (de_bin (de_ixL (de_var 0 rfl) (de_bin de_int (de_var 5 rfl) opd_add) e13) (de_var 6 rfl) (opd_mod (by omega))) da_nil))))) (by rw [List.length_map]; omega) ?_)
        refine dss_nil (dss_nil ⟨_, _, ps ++ [⟨nameF pk (0 + (i : Int)), sz, wy, n13 % sz⟩], js ++ [i], _, _, _, rfl, map_snoc _ _, ?_, by rw [List.length_append]; show ps.length + 1 ≤ _; omega, ?_, ?_, ?_, ?_, ?_, ?_⟩)
        · rw [List.map_append, show List.map Post.size [(⟨nameF pk (0 + (i : Int)), sz, wy, n13 % sz⟩ : Post)] = [sz] from rfl, prodI_snoc]
        · intro p hp
          rcases List.mem_append.mp hp with z | z
          · exact hok p z
          · rw [List.mem_singleton.mp z]
            exact ⟨hs1.1, hs1.2, hw3, emod_nn (by omega), emod_lt (by omega)⟩
        · rw [List.map_append, show List.map Post.size [(⟨nameF pk (0 + (i : Int)), sz, wy, n13 % sz⟩ : Post)] = [sz] from rfl, prodI_snoc]; exact hk'
        · rw [List.map_append, show List.map Post.size [(⟨nameF pk (0 + (i : Int)), sz, wy, n13 % sz⟩ : Post)] = [sz] from rfl, prodI_snoc]
          have := Int.mul_le_mul hp1 hs1.1 (by omega) (by omega)
          omega
        · exact List.pairwise_append.mpr ⟨hjs, List.pairwise_singleton _ _, fun a ha b hb => by rw [List.mem_singleton.mp hb]; exact hji a ha⟩
        · intro j hj
          rcases List.mem_append.mp hj with z | z
          · have := hji j z; omega
          · rw [List.mem_singleton.mp z]; omega
        · rw [List.map_append, List.map_append, hnm]
          show _ ++ [nameF pk (0 + (i : Int))] = _ ++ [nameF pk (i : Int)]
          rw [Int.zero_add]
      · exact dss_nil (dss_nil ⟨_, _, ps, js, _, _, _, rfl, rfl, rfl, by omega, hok, hpc, hp1, hjs, fun j hj => by have := hji j hj; omega, hnm⟩)
    · rintro ρ' ⟨_, _, ps, js, c5, c6, c7, rfl, rfl, rfl, hl, hok, hpc, hp1, hjs, hji, hnm⟩
      rw [rangeD_len] at hl hji
      exact dss_cons (ds_retO 3 rfl (q ps ⟨by omega, hok, hpc, pk, js, hpk0, hjs, fun j hj => by have := hji j hj; omega, hnm⟩))
theorem ok_boxes (T : Txt K mg C_HouseError C_NoGuess) {k : Nat} (f : Addr) (fd : FuncData) (F : Fun K "_law_boxes" "_law_boxes" s_l_boxes f fd) : FnOk P w K mg base CX0 (k + 2) f fd ["_law_feed_here"] (spD K fBoxes) := by
  refine fn_data F c_l_boxes (fun ds R h => ?_) (fun cdv A outer s H E hr ds R h => ?_)
  · obtain ⟨_, rfl, _⟩ := h; rfl
  · obtain ⟨ns, rfl, hf, q⟩ := h
    have nd := c_l_boxes.nd
    obtain ⟨n37, e37, a37, b37⟩ := feed_at hf 37
    obtain ⟨n19, e19, a19, b19⟩ := feed_at hf 19
    refine dss_cons (ds_setL 1 (dl_lst da_nil) ?_ (fun _ => nd))
    refine dss_cons (ds_for [2] (fun i ρ => ∃ (ds : List D) (bs : List Box) (js : List Nat) (c2 c3 : Sl), ρ = [.val (.lst (ns.map .int)), .own ds, c2, c3] ∧ ds = bs.map Box.d ∧ bs.length ≤ i ∧ (∀ p ∈ bs, p.Ok) ∧ js.Pairwise (· < ·) ∧ (∀ j ∈ js, j < i) ∧ bs.map Box.name = js.map fun (j : Nat) => nameF n37 (j : Int))
      (di_range1 (de_bin (de_ixL (de_var 0 rfl) de_int e19) de_int (opd_mod (by decide))) (fun _ => T.m_range)) ⟨[], [], [], .any, .any, rfl, rfl, Nat.zero_le _, (fun _ h => nomatch h), .nil, (fun _ h => nomatch h), rfl⟩ ?_ ?_)
    · rintro i ρ' d hd ⟨_, bs, js, c2, c3, rfl, rfl, hl, hok, hjs, hji, hnm⟩
      obtain ⟨hi, rfl⟩ := rangeD_get hd
      have hi' : i < 8 := by omega
      obtain ⟨n20, e20, _, _⟩ := feed_at hf (20 + (0 + (i : Int)))
      obtain ⟨n28, e28, _, _⟩ := feed_at hf (28 + (0 + (i : Int)))
      have h9 := emod_nn (i := n20) (n := 9) (by decide)
      have h9' := emod_lt (i := n20) (n := 9) (by decide)
      refine dg_name 2 ?_ (fun _ => nd)
      refine dss_cons (ds_set 3 (de_bin de_int (de_bin (de_ixL (de_var 0 rfl) (de_bin de_int (de_var 2 rfl) opd_add) e20) de_int (opd_mod (by decide))) opd_add) ?_ (fun _ => nd))
      refine dss_cons (ds_append 1 rfl (d := Box.d ⟨nameF n37 (0 + (i : Int)), 1 + n20 % 9, n28 % (1 + n20 % 9)⟩) (de_tup (da_cons (de_call (has_of T.d_l_name (ok_name_ T (k := 0)) (fun _ => hr.mono (by omega))) (da_cons (de_ixL (de_var 0 rfl) de_int e37) (da_cons (de_var 2 rfl) da_nil)) ⟨_, _, rfl, a37, by omega, rfl⟩) (da_cons (de_var 3 rfl) (da_cons (de_bin (de_ixL (de_var 0 rfl) (de_bin de_int (de_var 2 rfl) opd_add) e28) (de_var 3 rfl) (opd_mod (by omega))) da_nil)))) (by rw [List.length_map]; omega) ?_)
      refine dss_nil ⟨_, bs ++ [⟨nameF n37 (0 + (i : Int)), 1 + n20 % 9, n28 % (1 + n20 % 9)⟩], js ++ [i], _, _, rfl, map_snoc _ _, by rw [List.length_append]; show bs.length + 1 ≤ _; omega, ?_, ?_, ?_, ?_⟩
      · intro p hp
        rcases List.mem_append.mp hp with z | z
        · exact hok p z
        · rw [List.mem_singleton.mp z]
          exact ⟨by show 1 ≤ 1 + n20 % 9; omega, by show 1 + n20 % 9 ≤ 9; omega, emod_nn (by omega), emod_lt (by omega)⟩
      · exact List.pairwise_append.mpr ⟨hjs, List.pairwise_singleton _ _, fun a ha b hb => by rw [List.mem_singleton.mp hb]; exact hji a ha⟩
      · intro j hj
        rcases List.mem_append.mp hj with z | z
        · have := hji j z; omega
        · rw [List.mem_singleton.mp z]; omega
      · rw [List.map_append, List.map_append, hnm]
        show _ ++ [nameF n37 (0 + (i : Int))] = _ ++ [nameF n37 (i : Int)]
        rw [Int.zero_add]
    · rintro ρ' ⟨_, bs, js, c2, c3, rfl, rfl, hl, hok, hjs, hji, hnm⟩
      rw [rangeD_len] at hl hji
      exact dss_cons (ds_retO 1 rfl (q bs ⟨by omega, hok, n37, js, a37, hjs, fun j hj => by have := hji j hj; omega, hnm⟩))
end
end K08

namespace K08
open PySem PySem.Spec PyProof.Rows L2 Yp
/-! ### open posts, guesses and their numbers: the program -/
abbrev hD (B : List D) (ps : List Post) (rows : List D) : D := .tup [.tup B, .tup (ps.map Post.d), .tup rows]
def isB (p : Post) : Bool := decide (p.way = wBack)
def oSizes (ps : List Post) : List Int := (ps.filter isB).map Post.size
def PsOk (ps : List Post) : Prop := ps.length ≤ 1000 ∧ ∀ p ∈ ps, p.Ok
theorem PostsOk.ps {cap : Int} {ps : List Post} (h : PostsOk cap ps) : PsOk ps := ⟨by have := h.len; omega, h.ok⟩
theorem oSizes_ok {ps : List Post} (h : PsOk ps) : ∀ s ∈ oSizes ps, 1 ≤ s ∧ s ≤ 9 := fun s hs => by
  obtain ⟨p, hp, rfl⟩ := List.mem_map.mp hs
  have := h.2 p (List.mem_filter.mp hp).1
  exact ⟨this.s1, this.s9⟩
theorem oSizes_len {ps : List Post} (h : PsOk ps) : (oSizes ps).length ≤ 1000 := by
  unfold oSizes
  rw [List.length_map]
  exact Nat.le_trans (List.length_filter_le _ _) h.1
def fProd : SpecD := fun ds R => ∃ ns : List Int, ds = [.lst (ns.map .int)] ∧ (∀ n ∈ ns, 1 ≤ n ∧ n ≤ 9) ∧ R (.val (.int (prodI ns)))
def fOpenPosts : SpecD := fun ds R => ∃ B ps rows, ds = [hD B ps rows] ∧ PsOk ps ∧ R (.new ((ps.filter isB).map Post.d))
def fOpenSizes : SpecD := fun ds R => ∃ B ps rows, ds = [hD B ps rows] ∧ PsOk ps ∧ R (.new ((oSizes ps).map .int))
def fHowMany : SpecD := fun ds R => ∃ B ps rows, ds = [hD B ps rows] ∧ PsOk ps ∧ R (.val (.int (prodI (oSizes ps))))
def okLS (q : Int × Int) : Bool := decide (0 ≤ q.1) && decide (q.1 < q.2)
def okG (g sz : List Int) : Bool := decide ((g.length : Int) = (sz.length : Int)) && ((g.zip sz).map okLS).all id
def fIsGuess : SpecD := fun ds R => ∃ B ps rows, ∃ g : List Int, ds = [hD B ps rows, .tup (g.map .int)] ∧ PsOk ps ∧ g.length ≤ 1000 ∧ R (.val (.bl (okG g (oSizes ps))))
def numStep (n : Int) (q : Int × Int) : Int := n * q.2 + q.1
def numF (g sz : List Int) : Int := (g.zip sz).foldl numStep 0
def stepG (a : List Int × Int) (s : Int) : List Int × Int := (a.1 ++ [a.2 % s], a.2 / s)
def guessF (sz : List Int) (n : Int) : List Int := (sz.reverse.foldl stepG ([], n)).1.reverse
theorem zip_ints (g sz : List Int) : (((g.map D.int).zip (sz.map D.int)).map fun q => D.tup [q.1, q.2]) = (g.zip sz).map fun q => D.tup [.int q.1, .int q.2] := by
  rw [List.zip_map, List.map_map]; rfl
theorem take_fold {α β : Type} (f : β → α → β) (b : β) {xs : List α} {i : Nat} {x : α} (h : xs[i]? = some x) : (xs.take (i + 1)).foldl f b = f ((xs.take i).foldl f b) x := by
  rw [List.take_add_one, h, List.foldl_append]; rfl
section
variable {P : Program} {w : World} {K : PySem.W.Frag} {mg : Str → Option Value} {base : Heap} {C_HouseError C_NoGuess : Addr}
theorem ok_product_of (T : Txt K mg C_HouseError C_NoGuess) {k : Nat} (f : Addr) (fd : FuncData) (F : Fun K "product_of" "product_of" s_product_of f fd) : FnOk P w K mg base CX0 (k + 1) f fd ["sizes"] (spD K fProd) := by
  refine fn_data F c_product_of (fun ds R h => ?_) (fun cdv A outer s H E hr ds R h => ?_)
  · obtain ⟨_, rfl, _⟩ := h; rfl
  · obtain ⟨ns, rfl, hn, q⟩ := h
    have nd := c_product_of.nd
    refine dss_cons (ds_set 1 de_int ?_ (fun _ => nd))
    refine dss_cons (ds_for [2] (fun i ρ => ∃ p c2, ρ = [.val (.lst (ns.map .int)), .val (.int p), c2] ∧ p = (ns.take i).foldl (· * ·) 1) (di_list (de_var 0 rfl)) ⟨1, .any, rfl, rfl⟩ ?_ ?_)
    · rintro i ρ' d hd ⟨_, c2, rfl, rfl⟩
      obtain ⟨x, hx, rfl⟩ := map_get hd
      have hb := hn x (List.mem_of_getElem? hx)
      refine dg_name 2 ?_ (fun _ => nd)
      refine dss_cons (ds_aug 1 rfl (de_var 2 rfl) (ipd_mul (.inr ⟨by omega, by omega⟩)) ?_ (fun _ => nd))
      exact dss_nil ⟨_, _, rfl, (take_fold _ _ hx).symm⟩
    · rintro ρ' ⟨_, c2, rfl, rfl⟩
      refine dss_cons (ds_ret (de_var 1 rfl) ?_)
      rw [List.length_map, List.take_length]; exact q
theorem ok_open_posts (T : Txt K mg C_HouseError C_NoGuess) {k : Nat} (f : Addr) (fd : FuncData) (F : Fun K "open_posts" "open_posts" s_open_posts f fd) : FnOk P w K mg base CX0 (k + 1) f fd ["house"] (spD K fOpenPosts) := by
  refine fn_data F c_open_posts (fun ds R h => ?_) (fun cdv A outer s H E hr ds R h => ?_)
  · obtain ⟨_, _, _, rfl, _⟩ := h; rfl
  · obtain ⟨B, ps, rows, rfl, hp, q⟩ := h
    have nd := c_open_posts.nd
    refine dss_cons (ds_retL (dl_lc (xs := ps) (g := Post.d) (f := Post.d) (q := isB) [("post", 1)] (di_tup (de_ixT (de_var 0 rfl) de_int rfl)) (by have := hp.1; omega) (fun p _ => dg_name 1 ?_ (fun _ => nd)) (fun _ => nd) (fun _ => blkOk_by (N := n_open_posts) (sc := defScope s_open_posts) (by decide +kernel))) q)
    exact ⟨dts_one (dt_cmp (de_ixT (de_var 1 rfl) de_int rfl) de_str cm_eqS), fun _ => de_var 1 rfl⟩
theorem ok_open_sizes (T : Txt K mg C_HouseError C_NoGuess) {k : Nat} (f : Addr) (fd : FuncData) (F : Fun K "open_sizes" "open_sizes" s_open_sizes f fd) : FnOk P w K mg base CX0 (k + 2) f fd ["house"] (spD K fOpenSizes) := by
  refine fn_data F c_open_sizes (fun ds R h => ?_) (fun cdv A outer s H E hr ds R h => ?_)
  · obtain ⟨_, _, _, rfl, _⟩ := h; rfl
  · obtain ⟨B, ps, rows, rfl, hp, q⟩ := h
    have nd := c_open_sizes.nd
    have hl : (ps.filter isB).length ≤ ps.length := List.length_filter_le _ _
    refine dss_cons (ds_retL ((dl_lc1 (xs := ps.filter isB) (g := Post.d) (f := fun p => .int p.size) [("post", 1)] (di_list (dl_call (has_of T.d_open_posts (ok_open_posts T (k := 0)) (fun _ => hr.mono (by omega))) (da_cons (de_var 0 rfl) da_nil) ⟨B, ps, rows, rfl, hp, rfl⟩).de) (by have := hp.1; omega) (fun p _ => dg_name 1 ?_ (fun _ => nd)) (fun _ => nd) (fun _ => blkOk_by (N := n_open_sizes) (sc := defScope s_open_sizes) (by decide +kernel))).is ?_) q)
    · exact de_ixT (de_var 1 rfl) de_int rfl
    · unfold oSizes; rw [List.map_map]; rfl
theorem ok_how_many (T : Txt K mg C_HouseError C_NoGuess) {k : Nat} (f : Addr) (fd : FuncData) (F : Fun K "how_many" "how_many" s_how_many f fd) : FnOk P w K mg base CX0 (k + 3) f fd ["house"] (spD K fHowMany) := by
  refine fn_data F c_how_many (fun ds R h => ?_) (fun cdv A outer s H E hr ds R h => ?_)
  · obtain ⟨_, _, _, rfl, _⟩ := h; rfl
  · obtain ⟨B, ps, rows, rfl, hp, q⟩ := h
    exact dss_cons (ds_ret (de_call (has_of T.d_product_of (ok_product_of T (k := 0)) (fun _ => hr.mono (by omega))) (da_cons (dl_call (has_of T.d_open_sizes (ok_open_sizes T (k := 0)) (fun _ => hr.mono (by omega))) (da_cons (de_var 0 rfl) da_nil) ⟨B, ps, rows, rfl, hp, rfl⟩).de da_nil) ⟨_, rfl, oSizes_ok hp, rfl⟩) q)
theorem ok_is_guess (T : Txt K mg C_HouseError C_NoGuess) {k : Nat} (f : Addr) (fd : FuncData) (F : Fun K "is_guess" "is_guess" s_is_guess f fd) : FnOk P w K mg base CX0 (k + 3) f fd ["house", "guess"] (spD K fIsGuess) := by
  refine fn_data F c_is_guess (fun ds R h => ?_) (fun cdv A outer s H E hr ds R h => ?_)
  · obtain ⟨_, _, _, _, rfl, _⟩ := h; rfl
  · obtain ⟨B, ps, rows, g, rfl, hp, hg, q⟩ := h
    have nd := c_is_guess.nd
    refine dss_cons (ds_setL 2 (dl_call (has_of T.d_open_sizes (ok_open_sizes T (k := 0)) (fun _ => hr.mono (by omega))) (da_cons (de_var 0 rfl) da_nil) ⟨B, ps, rows, rfl, hp, rfl⟩) ?_ (fun _ => nd))
    refine dss_freeze 2 rfl ?_
    refine dss_cons (ds_ret ((de_and (de_cmp (de_callB ca_lenT (fun _ => T.m_len) PySem.boot_len (da_cons (de_var 1 rfl) da_nil)) (de_callB ca_lenL (fun _ => T.m_len) PySem.boot_len (da_cons (de_var 2 rfl) da_nil)) cm_eqI)
      fun _ => de_one (de_callB (ca_all (ns := (g.zip (oSizes ps)).map okLS) (fun _ => rfl)) (fun _ => T.m_all) (by decide +kernel) (da_cons ((dl_lc1 (xs := g.zip (oSizes ps)) (f := fun q => .bl (okLS q)) [("letter", 3), ("size", 4)] ((di_zip false true (de_var 1 rfl) (de_var 2 rfl) (fun _ => T.m_zip)).is (zip_ints g (oSizes ps))) ?_
        (fun z _ => dg_tup (dgs_cons (dg_name 3 (dgs_cons (dg_name 4 (dgs_nil ?_) (fun _ => nd))) (fun _ => nd)))) (fun _ => nd) (fun _ => blkOk_by (N := n_is_guess) (sc := defScope s_is_guess) (by decide +kernel))).de.is ?_) da_nil))).is ?_) q)
    · rw [List.length_zip]; omega
    · exact de_chain de_int (de_var 3 rfl) cm_le (fun _ => de_var 4 rfl) (fun _ => cm_lt)
    · rw [List.map_map]; rfl
    · rw [List.length_map, List.length_map]; rfl
end
end K08

namespace K08
open PySem PySem.Spec PyProof.Rows L2 Yp
/-! ### numbers of guesses: mathematics -/
def dig : List Int → Int → List Int
  | [], _ => []
  | s :: r, n => n % s :: dig r (n / s)
def vl : List Int → List Int → Int
  | s :: r, d :: ds => vl r ds * s + d
  | _, _ => 0
theorem fold_dig : ∀ (rs : List Int) (acc : List Int) (n : Int), (rs.foldl stepG (acc, n)).1 = acc ++ dig rs n
  | [], acc, n => (List.append_nil acc).symm
  | s :: r, acc, n => by
    show (r.foldl stepG (acc ++ [n % s], n / s)).1 = acc ++ (n % s :: dig r (n / s))
    rw [fold_dig r, List.append_assoc]; rfl
theorem guessF_dig (sz : List Int) (n : Int) : guessF sz n = (dig sz.reverse n).reverse := by
  unfold guessF; rw [fold_dig]; rfl
theorem dig_len : ∀ (rs : List Int) (n : Int), (dig rs n).length = rs.length
  | [], _ => rfl
  | s :: r, n => by show (dig r (n / s)).length + 1 = r.length + 1; rw [dig_len r]
theorem guessF_len (sz : List Int) (n : Int) : (guessF sz n).length = sz.length := by rw [guessF_dig, List.length_reverse, dig_len, List.length_reverse]
theorem zip_rev {α β : Type} : ∀ (xs : List α) (ys : List β), xs.length = ys.length → xs.reverse.zip ys.reverse = (xs.zip ys).reverse
  | [], [], _ => rfl
  | x :: xs, y :: ys, h => by
    have h' : xs.length = ys.length := Nat.succ.inj h
    show _ = ((x, y) :: xs.zip ys).reverse
    rw [List.reverse_cons, List.reverse_cons, List.reverse_cons, List.zip_append (by rw [List.length_reverse, List.length_reverse]; exact h'), zip_rev xs ys h']; rfl
  | [], _ :: _, h => nomatch h
  | _ :: _, [], h => nomatch h
theorem numF_vl : ∀ (rs ds : List Int), ds.length = rs.length → numF ds.reverse rs.reverse = vl rs ds := fun rs ds h => by
  unfold numF
  rw [zip_rev ds rs h, List.foldl_reverse]
  induction rs generalizing ds with
  | nil => cases ds with
    | nil => rfl
    | cons d ds => cases h
  | cons s r ih => cases ds with
    | nil => cases h
    | cons d ds =>
      rw [List.zip_cons_cons, List.foldr_cons, ih ds (Nat.succ.inj h)]; rfl
theorem vl_dig : ∀ (rs : List Int) (n : Int), (∀ s ∈ rs, 1 ≤ s ∧ s ≤ 9) → 0 ≤ n → n < prodI rs.reverse → vl rs (dig rs n) = n
  | [], n, _, h0, h1 => by
    have : n < 1 := h1
    show (0 : Int) = n
    omega
  | s :: r, n, hs, h0, h1 => by
    have hs1 := hs s List.mem_cons_self
    rw [List.reverse_cons, prodI_snoc] at h1
    have hq : n / s < prodI r.reverse := Int.ediv_lt_of_lt_mul (by omega) h1
    have hn : 0 ≤ n / s := Int.ediv_nonneg h0 (by omega)
    show vl r (dig r (n / s)) * s + n % s = n
    rw [vl_dig r (n / s) (fun t ht => hs t (List.mem_cons_of_mem _ ht)) hn hq]
    exact Int.ediv_mul_add_emod n s
theorem num_guess {sz : List Int} {n : Int} (hs : ∀ s ∈ sz, 1 ≤ s ∧ s ≤ 9) (h0 : 0 ≤ n) (h1 : n < prodI sz) : numF (guessF sz n) sz = n := by
  have e : sz = sz.reverse.reverse := (List.reverse_reverse sz).symm
  rw [guessF_dig]
  conv => lhs; arg 2; rw [e]
  rw [numF_vl _ _ (dig_len _ _)]
  exact vl_dig _ _ (fun s h => hs s (List.mem_reverse.mp h)) h0 (by rw [List.reverse_reverse]; exact h1)
theorem dig_ok : ∀ (rs : List Int) (n : Int), (∀ s ∈ rs, 1 ≤ s ∧ s ≤ 9) → ∀ q ∈ (dig rs n).zip rs, okLS q = true
  | [], _, _, q, h => by cases h
  | s :: r, n, hs, q, h => by
    have hs1 := hs s List.mem_cons_self
    rcases List.mem_cons.mp (show q ∈ (n % s, s) :: (dig r (n / s)).zip r from h) with e | e
    · subst e
      show (decide (0 ≤ n % s) && decide (n % s < s)) = true
      rw [decide_eq_true (emod_nn (by omega)), decide_eq_true (emod_lt (by omega))]; rfl
    · exact dig_ok r (n / s) (fun t ht => hs t (List.mem_cons_of_mem _ ht)) q e
theorem okG_guess {sz : List Int} {n : Int} (hs : ∀ s ∈ sz, 1 ≤ s ∧ s ≤ 9) : okG (guessF sz n) sz = true := by
  unfold okG
  rw [guessF_len, decide_eq_true rfl, Bool.true_and, List.all_map, List.all_eq_true]
  intro q hq
  have e : sz = sz.reverse.reverse := (List.reverse_reverse sz).symm
  rw [guessF_dig] at hq
  conv at hq => arg 1; arg 2; rw [e]
  rw [zip_rev _ _ (dig_len _ _)] at hq
  exact dig_ok _ n (fun s h => hs s (List.mem_reverse.mp h)) q (List.mem_reverse.mp hq)
def fNumberOf (C : Addr) : SpecX := fun ds R T => ∃ B ps rows, ∃ g : List Int, ds = [hD B ps rows, .tup (g.map .int)] ∧ PsOk ps ∧ g.length ≤ 1000 ∧ (okG g (oSizes ps) = true → R (.val (.int (numF g (oSizes ps))))) ∧ (okG g (oSizes ps) = false → T (.plain (.ref C)))
def fGuessAt (C : Addr) : SpecX := fun ds R T => ∃ B ps rows, ∃ n : Int, ds = [hD B ps rows, .int n] ∧ PsOk ps ∧ (0 ≤ n ∧ n < prodI (oSizes ps) → R (.val (.tup ((guessF (oSizes ps) n).map .int)))) ∧ (¬ (0 ≤ n ∧ n < prodI (oSizes ps)) → T (.plain (.ref C)))
section
variable {P : Program} {w : World} {K : PySem.W.Frag} {mg : Str → Option Value} {base : Heap} {C_HouseError C_NoGuess : Addr}
theorem ok_number_of (T : Txt K mg C_HouseError C_NoGuess) {k : Nat} (f : Addr) (fd : FuncData) (F : Fun K "number_of" "number_of" s_number_of f fd) : FnOk P w K mg base (L2.CX P w) (k + 4) f fd ["house", "guess"] (spX K (fNumberOf C_NoGuess)) := by
  refine fn_dataX F c_number_of (fun ds R T h => ?_) (fun cdv A outer s H E hr ds R Tx h => ?_)
  · obtain ⟨_, _, _, _, rfl, _⟩ := h; rfl
  · obtain ⟨B, ps, rows, g, rfl, hp, hg, q, qx⟩ := h
    have nd := c_number_of.nd
    refine dss_cons (ds_if (dt_not (dt_val (de_call (has_of T.d_is_guess (ok_is_guess T (k := 0)) (fun _ => hr.mono (by omega))) (da_cons (de_var 0 rfl) (da_cons (de_var 1 rfl) da_nil)) ⟨B, ps, rows, g, rfl, hp, hg, rfl⟩))) (fun hk => ?_) (fun hk => ?_))
    · exact dss_cons (ds_raise T.x_NoGuess de_str (qx (by cases z : okG g (oSizes ps) with | true => rw [z] at hk; cases hk | false => rfl)))
    · have hok : okG g (oSizes ps) = true := by cases z : okG g (oSizes ps) with | true => rfl | false => rw [z] at hk; cases hk
      refine dss_nil (dss_cons (ds_set 2 de_int ?_ (fun _ => nd)))
      refine dss_cons (ds_for [3, 4] (fun i ρ => ∃ n c3 c4, ρ = [.val (hD B ps rows), .val (.tup (g.map .int)), .val (.int n), c3, c4] ∧ n = ((g.zip (oSizes ps)).take i).foldl numStep 0)
        ((di_zip false true (de_var 1 rfl) (dl_call (has_of T.d_open_sizes (ok_open_sizes T (k := 0)) (fun _ => hr.mono (by omega))) (da_cons (de_var 0 rfl) da_nil) ⟨B, ps, rows, rfl, hp, rfl⟩).de (fun _ => T.m_zip)).is (zip_ints g (oSizes ps))) ⟨0, .any, .any, rfl, rfl⟩ ?_ ?_)
      · rintro i ρ' d hd ⟨_, c3, c4, rfl, rfl⟩
        obtain ⟨z, hz, rfl⟩ := map_get hd
        have hs := oSizes_ok hp z.2 (List.of_mem_zip (List.mem_of_getElem? hz)).2
        refine dg_tup (dgs_cons (dg_name 3 (dgs_cons (dg_name 4 (dgs_nil ?_) (fun _ => nd))) (fun _ => nd)))
        refine dss_cons (ds_set 2 (de_bin (de_bin (de_var 2 rfl) (de_var 4 rfl) (opd_mul (.inr ⟨by omega, by omega⟩))) (de_var 3 rfl) opd_add) ?_ (fun _ => nd))
        exact dss_nil ⟨_, _, _, rfl, (take_fold numStep 0 hz).symm⟩
      · rintro ρ' ⟨_, c3, c4, rfl, rfl⟩
        refine dss_cons (ds_ret (de_var 2 rfl) ?_)
        rw [List.length_map, List.take_length]; exact q hok
theorem ok_guess_at (T : Txt K mg C_HouseError C_NoGuess) {k : Nat} (f : Addr) (fd : FuncData) (F : Fun K "guess_at" "guess_at" s_guess_at f fd) : FnOk P w K mg base (L2.CX P w) (k + 4) f fd ["house", "number"] (spX K (fGuessAt C_NoGuess)) := by
  refine fn_dataX F c_guess_at (fun ds R T h => ?_) (fun cdv A outer s H E hr ds R Tx h => ?_)
  · obtain ⟨_, _, _, _, rfl, _⟩ := h; rfl
  · obtain ⟨B, ps, rows, n, rfl, hp, q, qx⟩ := h
    have nd := c_guess_at.nd
    refine dss_cons (ds_if (dt_not (dt_chain de_int (de_var 1 rfl) cm_le (fun _ => de_call (has_of T.d_how_many (ok_how_many T (k := 0)) (fun _ => hr.mono (by omega))) (da_cons (de_var 0 rfl) da_nil) ⟨B, ps, rows, rfl, hp, rfl⟩) (fun _ => cm_lt))) (fun hk => ?_) (fun hk => ?_))
    · refine dss_cons (ds_raise T.x_NoGuess de_str (qx fun hh => ?_))
      rw [decide_eq_true hh.1, decide_eq_true hh.2] at hk; cases hk
    · have hin : 0 ≤ n ∧ n < prodI (oSizes ps) := by
        rw [Bool.not_eq_false', Bool.and_eq_true] at hk
        exact ⟨of_decide_eq_true hk.1, of_decide_eq_true hk.2⟩
      refine dss_nil (dss_cons (ds_setL 2 (dl_lst da_nil) ?_ (fun _ => nd)))
      refine dss_cons (ds_set 3 (de_var 1 rfl) ?_ (fun _ => nd))
      refine dss_cons (ds_setL 4 (dl_call (has_of T.d_open_sizes (ok_open_sizes T (k := 0)) (fun _ => hr.mono (by omega))) (da_cons (de_var 0 rfl) da_nil) ⟨B, ps, rows, rfl, hp, rfl⟩) ?_ (fun _ => nd))
      refine dss_freeze 4 rfl ?_
      refine dss_cons (ds_for [5] (fun i ρ => ∃ (ds : List D) (st : List Int × Int) (c5 : Sl), ρ = [.val (hD B ps rows), .val (.int n), .own ds, .val (.int st.2), .val (.lst ((oSizes ps).map .int)), c5] ∧ ds = st.1.map .int ∧ st = ((oSizes ps).reverse.take i).foldl stepG ([], n) ∧ st.1.length ≤ i)
        ((di_rev (de_var 4 rfl) (fun _ => T.m_reversed)).is List.map_reverse.symm) ⟨[], ([], n), .any, rfl, rfl, rfl, Nat.le_refl _⟩ ?_ ?_)
      · rintro i ρ' d hd ⟨_, st, c5, rfl, rfl, rfl, hl⟩
        obtain ⟨z, hz, rfl⟩ := map_get hd
        have hs := oSizes_ok hp z (List.mem_reverse.mp (List.mem_of_getElem? hz))
        have hi : i < (oSizes ps).reverse.length := (List.getElem?_eq_some_iff.mp hz).1
        have hi2 := oSizes_len hp
        rw [List.length_reverse] at hi
        refine dg_name 5 ?_ (fun _ => nd)
        refine dss_cons (ds_append 2 rfl (de_bin (de_var 3 rfl) (de_var 5 rfl) (opd_mod (by omega))) (by rw [List.length_map]; omega) ?_)
        refine dss_cons (ds_aug 3 rfl (de_var 5 rfl) (ipd_div ⟨by omega, by omega⟩) ?_ (fun _ => nd))
        refine dss_nil ⟨_, stepG (((oSizes ps).reverse.take i).foldl stepG ([], n)) z, _, rfl, map_snoc _ _, (take_fold _ _ hz).symm, ?_⟩
        show (_ ++ [_]).length ≤ _
        rw [List.length_append]
        exact Nat.succ_le_succ hl
      · rintro ρ' ⟨_, st, c5, rfl, rfl, rfl, hl⟩
        refine dss_freeze 2 rfl ?_
        refine dss_cons (ds_ret ((de_callTy ca_tupleL (fun _ => T.m_tuple) (by decide +kernel) (da_cons (dl_back (de_var 2 rfl)).de da_nil)).is ?_) (q hin))
        rw [List.length_map, List.take_length, ← List.map_reverse]; rfl
end
end K08

namespace K08
open PySem PySem.Spec PyProof.Rows L2 Yp
/-! ### the law's own helpers -/
def fWhole : SpecD := fun ds R => ∃ i : Int, ds = [.int i] ∧ R (.val (.bl true))
def fLSizes : SpecD := fOpenSizes
def fLGuess : SpecD := fun ds R => ∃ (sz : List Int) (n : Int), ds = [.lst (sz.map .int), .int n] ∧ (∀ s ∈ sz, 1 ≤ s ∧ s ≤ 9) ∧ sz.length ≤ 1000 ∧ R (.val (.tup ((guessF sz n).map .int)))
def fIsG : SpecD := fun ds R => ∃ g : List Int, ds = [.tup (g.map .int), .tup (g.map .int)] ∧ g.length ≤ 1000 ∧ R (.val (.bl true))
section
variable {P : Program} {w : World} {K : PySem.W.Frag} {mg : Str → Option Value} {base : Heap} {C_HouseError C_NoGuess : Addr}
theorem ok_whole (T : Txt K mg C_HouseError C_NoGuess) {k : Nat} (f : Addr) (fd : FuncData) (F : Fun K "_law_whole" "_law_whole" s_l_whole f fd) : FnOk P w K mg base CX0 (k + 1) f fd ["_law_found"] (spD K fWhole) := by
  refine fn_data F c_l_whole (fun ds R h => ?_) (fun cdv A outer s H E hr ds R h => ?_)
  · obtain ⟨_, rfl, _⟩ := h; rfl
  · obtain ⟨i, rfl, q⟩ := h
    exact dss_cons (ds_ret (de_and (de_isi (T := "int") (de_var 0 rfl) (fun _ => T.m_isinstance) (fun _ => T.m_int) (by decide +kernel)) fun _ => de_one (de_not (de_isi (T := "bool") (de_var 0 rfl) (fun _ => T.m_isinstance) (fun _ => T.m_bool) (by decide +kernel)))) q)
theorem ok_lsizes (T : Txt K mg C_HouseError C_NoGuess) {k : Nat} (f : Addr) (fd : FuncData) (F : Fun K "_law_sizes" "_law_sizes" s_l_sizes f fd) : FnOk P w K mg base CX0 (k + 1) f fd ["_law_house"] (spD K fLSizes) := by
  refine fn_data F c_l_sizes (fun ds R h => ?_) (fun cdv A outer s H E hr ds R h => ?_)
  · obtain ⟨_, _, _, rfl, _⟩ := h; rfl
  · obtain ⟨B, ps, rows, rfl, hp, q⟩ := h
    have nd := c_l_sizes.nd
    refine dss_cons (ds_retL ((dl_lc (xs := ps) (g := Post.d) (f := fun p => .int p.size) (q := isB) [("_law_post", 1)] (di_tup (de_ixT (de_var 0 rfl) de_int rfl)) (by have := hp.1; omega) (fun p _ => dg_name 1 ?_ (fun _ => nd)) (fun _ => nd) (fun _ => blkOk_by (N := n_l_sizes) (sc := defScope s_l_sizes) (by decide +kernel))).is ?_) q)
    · exact ⟨dts_one (dt_cmp (de_ixT (de_var 1 rfl) de_int rfl) de_str cm_eqS), fun _ => de_ixT (de_var 1 rfl) de_int rfl⟩
    · unfold oSizes; rw [List.map_map]; rfl
theorem ok_lguess (T : Txt K mg C_HouseError C_NoGuess) {k : Nat} (f : Addr) (fd : FuncData) (F : Fun K "_law_guess" "_law_guess" s_l_guess f fd) : FnOk P w K mg base CX0 (k + 1) f fd ["_law_sizes_here", "_law_number"] (spD K fLGuess) := by
  refine fn_data F c_l_guess (fun ds R h => ?_) (fun cdv A outer s H E hr ds R h => ?_)
  · obtain ⟨_, _, rfl, _⟩ := h; rfl
  · obtain ⟨sz, n, rfl, hsz, hlen, q⟩ := h
    have nd := c_l_guess.nd
    refine dss_cons (ds_setL 2 (dl_lst da_nil) ?_ (fun _ => nd))
    refine dss_cons (ds_for [3] (fun i ρ => ∃ (ds : List D) (st : List Int × Int) (c3 : Sl), ρ = [.val (.lst (sz.map .int)), .val (.int st.2), .own ds, c3] ∧ ds = st.1.map .int ∧ st = (sz.reverse.take i).foldl stepG ([], n) ∧ st.1.length ≤ i)
      ((di_rev (de_var 0 rfl) (fun _ => T.m_reversed)).is List.map_reverse.symm) ⟨[], ([], n), .any, rfl, rfl, rfl, Nat.le_refl _⟩ ?_ ?_)
    · rintro i ρ' d hd ⟨_, st, c3, rfl, rfl, rfl, hl⟩
      obtain ⟨z, hz, rfl⟩ := map_get hd
      have hs := hsz z (List.mem_reverse.mp (List.mem_of_getElem? hz))
      have hi : i < sz.reverse.length := (List.getElem?_eq_some_iff.mp hz).1
      rw [List.length_reverse] at hi
      refine dg_name 3 ?_ (fun _ => nd)
      refine dss_cons (ds_append 2 rfl (de_bin (de_var 1 rfl) (de_var 3 rfl) (opd_mod (by omega))) (by rw [List.length_map]; omega) ?_)
      refine dss_cons (ds_set 1 (de_bin (de_var 1 rfl) (de_var 3 rfl) (opd_div ⟨by omega, by omega⟩)) ?_ (fun _ => nd))
      refine dss_nil ⟨_, stepG ((sz.reverse.take i).foldl stepG ([], n)) z, _, rfl, map_snoc _ _, (take_fold stepG _ hz).symm, ?_⟩
      show (_ ++ [_]).length ≤ _
      rw [List.length_append]
      exact Nat.succ_le_succ hl
    · rintro ρ' ⟨_, st, c3, rfl, rfl, rfl, hl⟩
      refine dss_freeze 2 rfl ?_
      refine dss_cons (ds_ret ((de_callTy ca_tupleL (fun _ => T.m_tuple) (by decide +kernel) (da_cons (dl_listRev (de_var 2 rfl) (fun _ => T.m_list) (fun _ => T.m_reversed)).de da_nil)).is ?_) q)
      rw [List.length_map, List.take_length, ← List.map_reverse]; rfl
theorem ok_lmany (T : Txt K mg C_HouseError C_NoGuess) {k : Nat} (f : Addr) (fd : FuncData) (F : Fun K "_law_many" "_law_many" s_l_many f fd) : FnOk P w K mg base CX0 (k + 1) f fd ["_law_sizes_here"] (spD K fProd) := by
  refine fn_data F c_l_many (fun ds R h => ?_) (fun cdv A outer s H E hr ds R h => ?_)
  · obtain ⟨_, rfl, _⟩ := h; rfl
  · obtain ⟨ns, rfl, hn, q⟩ := h
    have nd := c_l_many.nd
    refine dss_cons (ds_set 1 de_int ?_ (fun _ => nd))
    refine dss_cons (ds_for [2] (fun i ρ => ∃ p c2, ρ = [.val (.lst (ns.map .int)), .val (.int p), c2] ∧ p = (ns.take i).foldl (· * ·) 1) (di_list (de_var 0 rfl)) ⟨1, .any, rfl, rfl⟩ ?_ ?_)
    · rintro i ρ' d hd ⟨_, c2, rfl, rfl⟩
      obtain ⟨x, hx, rfl⟩ := map_get hd
      have hb := hn x (List.mem_of_getElem? hx)
      refine dg_name 2 ?_ (fun _ => nd)
      refine dss_cons (ds_set 1 (de_bin (de_var 1 rfl) (de_var 2 rfl) (opd_mul (.inr ⟨by omega, by omega⟩))) ?_ (fun _ => nd))
      exact dss_nil ⟨_, _, rfl, (take_fold _ _ hx).symm⟩
    · rintro ρ' ⟨_, c2, rfl, rfl⟩
      refine dss_cons (ds_ret (de_var 1 rfl) ?_)
      rw [List.length_map, List.take_length]; exact q
theorem ok_isg (T : Txt K mg C_HouseError C_NoGuess) {k : Nat} (f : Addr) (fd : FuncData) (F : Fun K "_law_is_guess" "_law_is_guess" s_l_is_guess f fd) : FnOk P w K mg base CX0 (k + 2) f fd ["_law_found", "_law_due"] (spD K fIsG) := by
  refine fn_data F c_l_is_guess (fun ds R h => ?_) (fun cdv A outer s H E hr ds R h => ?_)
  · obtain ⟨_, rfl, _⟩ := h; rfl
  · obtain ⟨g, rfl, hl, q⟩ := h
    have nd := c_l_is_guess.nd
    refine dss_cons (ds_if (dw_or (dt_not (dt_val (de_isi (T := "tuple") (de_var 0 rfl) (fun _ => T.m_isinstance) (fun _ => T.m_tuple) (by decide +kernel)))) fun _ => dw_or1 (dt_cmp (de_callB ca_lenT (fun _ => T.m_len) PySem.boot_len (da_cons (de_var 0 rfl) da_nil)) (de_callB ca_lenT (fun _ => T.m_len) PySem.boot_len (da_cons (de_var 1 rfl) da_nil)) cm_neI)).dt (fun hk => ?_) (fun hk => ?_))
    · rw [decide_eq_true rfl] at hk; cases hk
    · refine dss_nil (dss_cons (ds_for [2] (fun i ρ => ∃ c2, ρ = [.val (.tup (g.map .int)), .val (.tup (g.map .int)), c2]) (di_range1 (de_callB ca_lenT (fun _ => T.m_len) PySem.boot_len (da_cons (de_var 1 rfl) da_nil)) (fun _ => T.m_range) (by omega) (by rw [List.length_map]; omega)) ⟨.any, rfl⟩ ?_ ?_))
      · rintro i ρ' d hd ⟨c2, rfl⟩
        obtain ⟨hi, rfl⟩ := rangeD_get hd
        rw [List.length_map] at hi
        obtain ⟨x, ex, _⟩ := pick_int (xs := g) (i := 0 + (i : Int)) (by omega) (by omega)
        refine dg_name 2 ?_ (fun _ => nd)
        refine dss_cons (ds_if (dw_or (dt_not (dt_val (de_call (has_of T.d_l_whole (ok_whole T (k := 0)) (fun _ => hr.mono (by omega))) (da_cons (de_ixT (de_var 0 rfl) (de_var 2 rfl) ex) da_nil) ⟨x, rfl, rfl⟩))) fun _ => dw_or1 (dt_cmp (de_ixT (de_var 0 rfl) (de_var 2 rfl) ex) (de_ixT (de_var 1 rfl) (de_var 2 rfl) ex) cm_neI)).dt (fun hk => ?_) (fun hk => ?_))
        · rw [decide_eq_true rfl] at hk; cases hk
        · exact dss_nil (dss_nil ⟨_, rfl⟩)
      · rintro ρ' ⟨c2, rfl⟩
        exact dss_cons (ds_ret de_bl q)
end
end K08

namespace K08
open PySem PySem.Spec PyProof.Rows L2 Yp
def fRefused : SpecD := fun ds R => ∃ B ps rows, ∃ n : Int, ds = [hD B ps rows, .int n] ∧ PsOk ps ∧ ¬ (0 ≤ n ∧ n < prodI (oSizes ps)) ∧ R (.val (.bl true))
def fLaw : SpecD := fun ds R => ∃ xs : List Int, ds = [.lst (xs.map .int)] ∧ R (.val (.bl true))
theorem prodI_pos {ns : List Int} (h : ∀ n ∈ ns, 1 ≤ n ∧ n ≤ 9) : 1 ≤ prodI ns := by
  unfold prodI
  suffices H : ∀ (ns : List Int) (b : Int), (∀ n ∈ ns, 1 ≤ n ∧ n ≤ 9) → 1 ≤ b → 1 ≤ ns.foldl (· * ·) b from H ns 1 h (by decide)
  intro ns
  induction ns with
  | nil => intro b _ hb; exact hb
  | cons x r ih =>
    intro b hn hb
    have hx := hn x List.mem_cons_self
    refine ih (b * x) (fun n hm => hn n (List.mem_cons_of_mem _ hm)) ?_
    have := Int.mul_le_mul hb hx.1 (by omega) (by omega)
    omega
section
variable {P : Program} {w : World} {K : PySem.W.Frag} {mg : Str → Option Value} {base : Heap} {C_HouseError C_NoGuess : Addr}
theorem ok_refused (T : Txt K mg C_HouseError C_NoGuess) {k : Nat} (f : Addr) (fd : FuncData) (F : Fun K "_law_refused" "_law_refused" s_l_refused f fd) : FnOk P w K mg base CX0 (k + 5) f fd ["_law_house", "_law_number"] (spD K fRefused) := by
  refine fn_data F c_l_refused (fun ds R h => ?_) (fun cdv A outer s H E hr ds R h => ?_)
  · obtain ⟨_, _, _, _, rfl, _⟩ := h; rfl
  · obtain ⟨B, ps, rows, n, rfl, hp, hn, q⟩ := h
    have nd := c_l_refused.nd
    refine dss_cons (ds_set 2 (de_tup (da_cons de_bl (da_cons de_bl da_nil))) ?_ (fun _ => nd))
    refine dss_cons (ds_try_as 3 (c := .ref C_HouseError) (fun W => ?_) (fun _ => nd) (fun _ => ⟨rfl, by decide, .inl T.x_HouseError.g⟩))
    refine dss_cons (ds_exprCX (hasX_of T.d_guess_at (ok_guess_at T (k := 0)) (fun _ => hr.mono (by omega))) (da_cons (de_var 0 rfl) (da_cons (de_var 1 rfl) da_nil)) ⟨B, ps, rows, n, rfl, hp, fun z => absurd z hn, fun _ => ?_⟩)
    refine ⟨true, T.exm_NoGuess_HouseError, fun _ a od => ?_, fun z => nomatch z⟩
    refine dss_cons (ds_set 2 (de_tup (da_cons (de_isE (i := 3) rfl T.e_NoGuess (cv := .ref C_NoGuess) (fun u r => r) T.kit_NoGuess_NoGuess (fun _ => pe_glob rfl T.x_NoGuess.g rfl) (fun _ => T.m_isinstance)) (da_cons (de_isE (i := 3) rfl T.e_NoGuess (cv := .ty "ValueError") (fun u r => r) T.kit_NoGuess_ValueError (fun _ => pe_bltn rfl T.m_ValueError (by decide +kernel) rfl) (fun _ => T.m_isinstance)) da_nil))) ?_ (fun _ => nd))
    refine dss_nil ?_
    exact dss_cons (ds_ret ((de_cmp (de_var 2 rfl) (de_tup (da_cons de_bl (da_cons de_bl da_nil))) (cm_eqD (fun _ => hr.units) (by decide) (by decide) (by decide) (by decide))).is (congrArg D.bl (by decide))) q)
theorem ok_law (T : Txt K mg C_HouseError C_NoGuess) {f : Addr} {fd : FuncData} (F : Fun K "law" "law" s_law f fd) : FnOk P w K mg base CX0 6 f fd ["_law_script"] (spD K fLaw) := by
  refine fn_data F c_law (fun ds R h => ?_) (fun cdv A outer s H E hr ds R h => ?_)
  · obtain ⟨_, rfl, _⟩ := h; rfl
  · obtain ⟨xs, rfl, q⟩ := h
    have nd := c_law.nd
    refine dss_cons (ds_setC 1 (has_of T.d_l_feed (ok_feed T (k := 0)) (fun _ => hr.mono (by omega))) (da_cons (de_var 0 rfl) da_nil) ⟨xs, rfl, fun ns hf => ?_⟩ (fun _ => nd))
    refine dss_freeze 1 rfl ?_
    refine dss_cons (ds_setx 2 (S := fun d => ∃ (bs : List Box) (ps : List Post), d = hD (bs.map Box.d) ps [] ∧ PostsOk 256 ps) (dx_tup (S2 := fun ds => ∃ bs ps, ds = [.tup (List.map Box.d bs), .tup (List.map Post.d ps), .tup []] ∧ PostsOk 256 ps)
      (dax_cons (S := fun d => ∃ bs, d = .tup (List.map Box.d bs)) (dx_callTy (S := fun d => ∃ bs, d = .lst (List.map Box.d bs)) (dx_call (has_of T.d_l_boxes (ok_boxes T (k := 0)) (fun _ => hr.mono (by omega))) (da_cons (de_var 1 rfl) da_nil) ⟨ns, rfl, hf, fun bs hb => ⟨bs, rfl⟩⟩) (fun d ⟨bs, e⟩ => by subst e; exact ⟨_, ca_tupleL, bs, rfl⟩) (fun _ => T.m_tuple) (by decide +kernel))
        (S2 := fun _ ds => ∃ ps, ds = [.tup (List.map Post.d ps), .tup []] ∧ PostsOk 256 ps) (fun _ _ => dax_cons (S := fun d => ∃ ps, d = .tup (List.map Post.d ps) ∧ PostsOk 256 ps) (dx_callTy (S := fun d => ∃ ps, d = .lst (List.map Post.d ps) ∧ PostsOk 256 ps) (dx_call (has_of T.d_l_posts (ok_posts T (k := 0)) (fun _ => hr.mono (by omega))) (da_cons (de_var 1 rfl) (da_cons de_int da_nil)) ⟨ns, 256, rfl, hf, by decide, fun ps hp => ⟨ps, rfl, hp⟩⟩) (fun d ⟨ps, e, hp⟩ => by subst e; exact ⟨_, ca_tupleL, ps, rfl, hp⟩) (fun _ => T.m_tuple) (by decide +kernel))
          (S2 := fun _ ds => ds = [.tup []]) (fun _ _ => dax_cons (S := fun d => d = .tup []) ((de_tup da_nil).x rfl) (S2 := fun _ ds => ds = []) (fun _ _ => dax_nil rfl) (fun d ds h1 h2 => by rw [h1, h2])) (fun d ds h1 h2 => by obtain ⟨ps, e, hp⟩ := h1; exact ⟨ps, by rw [e, h2], hp⟩))
        (fun d ds h1 h2 => by obtain ⟨bs, e⟩ := h1; obtain ⟨ps, e2, hp⟩ := h2; exact ⟨bs, ps, by rw [e, e2], hp⟩))
      (fun ds h => by obtain ⟨bs, ps, e, hp⟩ := h; subst e; exact ⟨by show 3 ≤ 100000; decide, bs, ps, rfl, hp⟩)) (fun d hd => ?_) (fun _ => nd))
    obtain ⟨bs, ps, rfl, hpo⟩ := hd
    have hp := hpo.ps
    have hsz := oSizes_ok hp
    have hszl := oSizes_len hp
    have hpos := prodI_pos hsz
    refine dss_cons (ds_setL 3 (dl_call (has_of T.d_l_sizes (ok_lsizes T (k := 0)) (fun _ => hr.mono (by omega))) (da_cons (de_var 2 rfl) da_nil) ⟨_, ps, _, rfl, hp, rfl⟩) ?_ (fun _ => nd))
    refine dss_freeze 3 rfl ?_
    refine dss_cons (ds_set 4 (de_call (has_of T.d_l_many (ok_lmany T (k := 0)) (fun _ => hr.mono (by omega))) (da_cons (de_var 3 rfl) da_nil) ⟨_, rfl, hsz, rfl⟩) ?_ (fun _ => nd))
    refine dss_cons (ds_set 5 (de_call (has_of T.d_how_many (ok_how_many T (k := 0)) (fun _ => hr.mono (by omega))) (da_cons (de_var 2 rfl) da_nil) ⟨_, ps, _, rfl, hp, rfl⟩) ?_ (fun _ => nd))
    refine dss_cons (ds_if (dw_or (dt_not (dt_val (de_call (has_of T.d_l_whole (ok_whole T (k := 0)) (fun _ => hr.mono (by omega))) (da_cons (de_var 5 rfl) da_nil) ⟨_, rfl, rfl⟩))) fun _ => dw_or1 (dt_cmp (de_var 5 rfl) (de_var 4 rfl) cm_neI)).dt (fun hk => ?_) (fun hk => ?_))
    · rw [decide_eq_true rfl] at hk; cases hk
    · refine dss_nil ?_
      obtain ⟨n40, e40, a40, b40⟩ := feed_at hf 40
      obtain ⟨n41, e41, a41, b41⟩ := feed_at hf 41
      obtain ⟨n42, e42, a42, b42⟩ := feed_at hf 42
      have hm40 : ∀ m : Int, 1 ≤ m → -(2 ^ 62) ≤ (if m < 40 then m else 40) ∧ (if m < 40 then m else 40) < 2 ^ 62 := fun m h => by split <;> omega
      refine dss_cons (ds_for [6] (fun i ρ => ∃ c6 c7 c8 c9, ρ = [.val (.lst (xs.map .int)), .val (.lst (ns.map .int)), .val (hD (bs.map Box.d) ps []), .val (.lst ((oSizes ps).map .int)), .val (.int (prodI (oSizes ps))), .val (.int (prodI (oSizes ps))), c6, c7, c8, c9])
        (di_range1 (de_callB (ca_min2 (fun _ => rfl)) (fun _ => T.m_min) (by decide +kernel) (da_cons de_int (da_cons (de_var 4 rfl) da_nil))) (fun _ => T.m_range) (hm40 _ hpos).1 (hm40 _ hpos).2) ⟨.any, .any, .any, .any, rfl⟩ ?_ ?_)
      · rintro i ρ' d hd ⟨c6, c7, c8, c9, rfl⟩
        obtain ⟨hi, rfl⟩ := rangeD_get hd
        refine dg_name 6 ?_ (fun _ => nd)
        refine dss_cons (ds_set 7 (de_bin (de_bin (de_ixL (de_var 1 rfl) de_int e40) (de_var 6 rfl) opd_add) (de_var 4 rfl) (opd_mod (by omega))) ?_ (fun _ => nd))
        have h0 := emod_nn (i := n40 + (0 + (i : Int))) (n := prodI (oSizes ps)) (by omega)
        have h1 := emod_lt (i := n40 + (0 + (i : Int))) (n := prodI (oSizes ps)) (by omega)
        have hgl : (guessF (oSizes ps) ((n40 + (0 + (i : Int))) % prodI (oSizes ps))).length ≤ 1000 := by rw [guessF_len]; exact hszl
        refine dss_cons (ds_set 8 (de_call (has_of T.d_l_guess (ok_lguess T (k := 0)) (fun _ => hr.mono (by omega))) (da_cons (de_var 3 rfl) (da_cons (de_var 7 rfl) da_nil)) ⟨_, _, rfl, hsz, hszl, rfl⟩) ?_ (fun _ => nd))
        refine dss_cons (ds_if (dt_not (dt_val (de_call (has_of T.d_l_is_guess (ok_isg T (k := 0)) (fun _ => hr.mono (by omega))) (da_cons (de_callX (hasX_of T.d_guess_at (ok_guess_at T (k := 0)) (fun _ => hr.mono (by omega))) (da_cons (de_var 2 rfl) (da_cons (de_var 7 rfl) da_nil)) ⟨_, ps, _, _, rfl, hp, fun _ => rfl, fun z => absurd ⟨h0, h1⟩ z⟩) (da_cons (de_var 8 rfl) da_nil)) ⟨_, rfl, hgl, rfl⟩))) (fun hk => by cases hk) (fun hk => ?_))
        refine dss_nil (dss_cons (ds_set 9 (de_callX (hasX_of T.d_number_of (ok_number_of T (k := 0)) (fun _ => hr.mono (by omega))) (da_cons (de_var 2 rfl) (da_cons (de_var 8 rfl) da_nil)) ⟨_, ps, _, _, rfl, hp, hgl, fun _ => rfl, fun z => ?_⟩) ?_ (fun _ => nd)))
        · rw [okG_guess hsz] at z; cases z
        refine dss_cons (ds_if (dw_or (dt_not (dt_val (de_call (has_of T.d_l_whole (ok_whole T (k := 0)) (fun _ => hr.mono (by omega))) (da_cons (de_var 9 rfl) da_nil) ⟨_, rfl, rfl⟩))) fun _ => dw_or1 (dt_cmp (de_var 9 rfl) (de_var 7 rfl) cm_neI)).dt (fun hk => ?_) (fun hk => ?_))
        · rw [num_guess hsz h0 h1, decide_eq_true rfl] at hk; cases hk
        · exact dss_nil (dss_nil ⟨_, _, _, _, rfl⟩)
      · rintro ρ' ⟨c6, c7, c8, c9, rfl⟩
        have hR := has_of (X := fam0 P w K mg base n_law "law" (defScope s_law) f cdv A outer s H E) T.d_l_refused (ok_refused (P := P) (w := w) (base := base) T (k := 0)) (fun _ => hr.mono (by omega))
        refine dss_cons (ds_if (dw_or (dt_not (dt_val (de_call hR (da_cons (de_var 2 rfl) (da_cons (de_neg de_int) da_nil)) ⟨_, ps, _, _, rfl, hp, by omega, rfl⟩))) fun _ => dw_or1 (dt_not (dt_val (de_call hR (da_cons (de_var 2 rfl) (da_cons (de_var 4 rfl) da_nil)) ⟨_, ps, _, _, rfl, hp, by omega, rfl⟩)))).dt (fun hk => by cases hk) (fun hk => ?_))
        exact dss_nil (dss_cons (ds_ret (de_and (de_call hR (da_cons (de_var 2 rfl) (da_cons (de_bin (de_neg de_int) (de_ixL (de_var 1 rfl) de_int e41) opd_sub) da_nil)) ⟨_, ps, _, _, rfl, hp, by omega, rfl⟩) fun _ => de_one (de_call hR (da_cons (de_var 2 rfl) (da_cons (de_bin (de_bin (de_var 4 rfl) de_int opd_add) (de_ixL (de_var 1 rfl) de_int e42) opd_add) da_nil)) ⟨_, ps, _, _, rfl, hp, by omega, rfl⟩)) q))
end
end K08

namespace K08
open PySem PySem.Spec PyProof.Rows L2 Yp
open PySem.W (exm_ref)
theorem all_mk {l : PySem.W.OpenLaw} {w : World} {K : PySem.W.Frag} {h : Heap} {mg : Str → Option Value} {fa : Addr} {f0 : Addr} {od0 an0 : Option Addr} {sl0 : Array (Option Value)} {oc0 kV0 dc0 pm0 cd0 ct0 : Value} {f1 : Addr} {od1 an1 : Option Addr} {sl1 : Array (Option Value)} {oc1 kV1 dc1 pm1 cd1 ct1 : Value} {f2 : Addr} {od2 an2 : Option Addr} {sl2 : Array (Option Value)} {oc2 kV2 dc2 pm2 cd2 ct2 : Value} {f3 : Addr} {od3 an3 : Option Addr} {sl3 : Array (Option Value)} {oc3 kV3 dc3 pm3 cd3 ct3 : Value} {f4 : Addr} {od4 an4 : Option Addr} {sl4 : Array (Option Value)} {oc4 kV4 dc4 pm4 cd4 ct4 : Value} {f5 : Addr} {od5 an5 : Option Addr} {sl5 : Array (Option Value)} {oc5 kV5 dc5 pm5 cd5 ct5 : Value} {f6 : Addr} {od6 an6 : Option Addr} {sl6 : Array (Option Value)} {oc6 kV6 dc6 pm6 cd6 ct6 : Value} {f7 : Addr} {od7 an7 : Option Addr} {sl7 : Array (Option Value)} {oc7 kV7 dc7 pm7 cd7 ct7 : Value} {f8 : Addr} {od8 an8 : Option Addr} {sl8 : Array (Option Value)} {oc8 kV8 dc8 pm8 cd8 ct8 : Value} {f9 : Addr} {od9 an9 : Option Addr} {sl9 : Array (Option Value)} {oc9 kV9 dc9 pm9 cd9 ct9 : Value} {f10 : Addr} {od10 an10 : Option Addr} {sl10 : Array (Option Value)} {oc10 kV10 dc10 pm10 cd10 ct10 : Value} {f11 : Addr} {od11 an11 : Option Addr} {sl11 : Array (Option Value)} {oc11 kV11 dc11 pm11 cd11 ct11 : Value} {f12 : Addr} {od12 an12 : Option Addr} {sl12 : Array (Option Value)} {oc12 kV12 dc12 pm12 cd12 ct12 : Value} {f13 : Addr} {od13 an13 : Option Addr} {sl13 : Array (Option Value)} {oc13 kV13 dc13 pm13 cd13 ct13 : Value} {f14 : Addr} {od14 an14 : Option Addr} {sl14 : Array (Option Value)} {oc14 kV14 dc14 pm14 cd14 ct14 : Value} {f15 : Addr} {od15 an15 : Option Addr} {sl15 : Array (Option Value)} {oc15 kV15 dc15 pm15 cd15 ct15 : Value} {f16 : Addr} {od16 an16 : Option Addr} {sl16 : Array (Option Value)} {oc16 kV16 dc16 pm16 cd16 ct16 : Value} {f17 : Addr} {od17 an17 : Option Addr} {sl17 : Array (Option Value)} {oc17 kV17 dc17 pm17 cd17 ct17 : Value} {C_HouseError : Addr} {C_NoGuess : Addr} (X : K.In h) (G : h.Ns mainGlobals mg) (hfa : mg "law" = some (.ref fa))
    (a0 : PySem.W.nsIn K mainGlobals "product_of" = some (some (.ref f0))) (l0 : K.lookup f0 = some ⟨oc0, od0, .func (PySem.W.fnOf "product_of" "product_of" (defArgs s_product_of) (defBody s_product_of) (defScope s_product_of) .none kV0 dc0 pm0 an0 cd0 ct0), sl0⟩) (c0 : PySem.W.codeIn K cd0 "product_of" = true) (k0 : PySem.W.keepIn K (.ref f0) = true)
    (a1 : PySem.W.nsIn K mainGlobals "open_posts" = some (some (.ref f1))) (l1 : K.lookup f1 = some ⟨oc1, od1, .func (PySem.W.fnOf "open_posts" "open_posts" (defArgs s_open_posts) (defBody s_open_posts) (defScope s_open_posts) .none kV1 dc1 pm1 an1 cd1 ct1), sl1⟩) (c1 : PySem.W.codeIn K cd1 "open_posts" = true) (k1 : PySem.W.keepIn K (.ref f1) = true)
    (a2 : PySem.W.nsIn K mainGlobals "open_sizes" = some (some (.ref f2))) (l2 : K.lookup f2 = some ⟨oc2, od2, .func (PySem.W.fnOf "open_sizes" "open_sizes" (defArgs s_open_sizes) (defBody s_open_sizes) (defScope s_open_sizes) .none kV2 dc2 pm2 an2 cd2 ct2), sl2⟩) (c2 : PySem.W.codeIn K cd2 "open_sizes" = true) (k2 : PySem.W.keepIn K (.ref f2) = true)
    (a3 : PySem.W.nsIn K mainGlobals "how_many" = some (some (.ref f3))) (l3 : K.lookup f3 = some ⟨oc3, od3, .func (PySem.W.fnOf "how_many" "how_many" (defArgs s_how_many) (defBody s_how_many) (defScope s_how_many) .none kV3 dc3 pm3 an3 cd3 ct3), sl3⟩) (c3 : PySem.W.codeIn K cd3 "how_many" = true) (k3 : PySem.W.keepIn K (.ref f3) = true)
    (a4 : PySem.W.nsIn K mainGlobals "is_guess" = some (some (.ref f4))) (l4 : K.lookup f4 = some ⟨oc4, od4, .func (PySem.W.fnOf "is_guess" "is_guess" (defArgs s_is_guess) (defBody s_is_guess) (defScope s_is_guess) .none kV4 dc4 pm4 an4 cd4 ct4), sl4⟩) (c4 : PySem.W.codeIn K cd4 "is_guess" = true) (k4 : PySem.W.keepIn K (.ref f4) = true)
    (a5 : PySem.W.nsIn K mainGlobals "number_of" = some (some (.ref f5))) (l5 : K.lookup f5 = some ⟨oc5, od5, .func (PySem.W.fnOf "number_of" "number_of" (defArgs s_number_of) (defBody s_number_of) (defScope s_number_of) .none kV5 dc5 pm5 an5 cd5 ct5), sl5⟩) (c5 : PySem.W.codeIn K cd5 "number_of" = true) (k5 : PySem.W.keepIn K (.ref f5) = true)
    (a6 : PySem.W.nsIn K mainGlobals "guess_at" = some (some (.ref f6))) (l6 : K.lookup f6 = some ⟨oc6, od6, .func (PySem.W.fnOf "guess_at" "guess_at" (defArgs s_guess_at) (defBody s_guess_at) (defScope s_guess_at) .none kV6 dc6 pm6 an6 cd6 ct6), sl6⟩) (c6 : PySem.W.codeIn K cd6 "guess_at" = true) (k6 : PySem.W.keepIn K (.ref f6) = true)
    (a7 : PySem.W.nsIn K mainGlobals "_law_whole" = some (some (.ref f7))) (l7 : K.lookup f7 = some ⟨oc7, od7, .func (PySem.W.fnOf "_law_whole" "_law_whole" (defArgs s_l_whole) (defBody s_l_whole) (defScope s_l_whole) .none kV7 dc7 pm7 an7 cd7 ct7), sl7⟩) (c7 : PySem.W.codeIn K cd7 "_law_whole" = true) (k7 : PySem.W.keepIn K (.ref f7) = true)
    (a8 : PySem.W.nsIn K mainGlobals "_law_feed" = some (some (.ref f8))) (l8 : K.lookup f8 = some ⟨oc8, od8, .func (PySem.W.fnOf "_law_feed" "_law_feed" (defArgs s_l_feed) (defBody s_l_feed) (defScope s_l_feed) .none kV8 dc8 pm8 an8 cd8 ct8), sl8⟩) (c8 : PySem.W.codeIn K cd8 "_law_feed" = true) (k8 : PySem.W.keepIn K (.ref f8) = true)
    (a9 : PySem.W.nsIn K mainGlobals "_law_name" = some (some (.ref f9))) (l9 : K.lookup f9 = some ⟨oc9, od9, .func (PySem.W.fnOf "_law_name" "_law_name" (defArgs s_l_name) (defBody s_l_name) (defScope s_l_name) .none kV9 dc9 pm9 an9 cd9 ct9), sl9⟩) (c9 : PySem.W.codeIn K cd9 "_law_name" = true) (k9 : PySem.W.keepIn K (.ref f9) = true)
    (a10 : PySem.W.nsIn K mainGlobals "_law_posts" = some (some (.ref f10))) (l10 : K.lookup f10 = some ⟨oc10, od10, .func (PySem.W.fnOf "_law_posts" "_law_posts" (defArgs s_l_posts) (defBody s_l_posts) (defScope s_l_posts) .none kV10 dc10 pm10 an10 cd10 ct10), sl10⟩) (c10 : PySem.W.codeIn K cd10 "_law_posts" = true) (k10 : PySem.W.keepIn K (.ref f10) = true)
    (a11 : PySem.W.nsIn K mainGlobals "_law_boxes" = some (some (.ref f11))) (l11 : K.lookup f11 = some ⟨oc11, od11, .func (PySem.W.fnOf "_law_boxes" "_law_boxes" (defArgs s_l_boxes) (defBody s_l_boxes) (defScope s_l_boxes) .none kV11 dc11 pm11 an11 cd11 ct11), sl11⟩) (c11 : PySem.W.codeIn K cd11 "_law_boxes" = true) (k11 : PySem.W.keepIn K (.ref f11) = true)
    (a12 : PySem.W.nsIn K mainGlobals "_law_sizes" = some (some (.ref f12))) (l12 : K.lookup f12 = some ⟨oc12, od12, .func (PySem.W.fnOf "_law_sizes" "_law_sizes" (defArgs s_l_sizes) (defBody s_l_sizes) (defScope s_l_sizes) .none kV12 dc12 pm12 an12 cd12 ct12), sl12⟩) (c12 : PySem.W.codeIn K cd12 "_law_sizes" = true) (k12 : PySem.W.keepIn K (.ref f12) = true)
    (a13 : PySem.W.nsIn K mainGlobals "_law_guess" = some (some (.ref f13))) (l13 : K.lookup f13 = some ⟨oc13, od13, .func (PySem.W.fnOf "_law_guess" "_law_guess" (defArgs s_l_guess) (defBody s_l_guess) (defScope s_l_guess) .none kV13 dc13 pm13 an13 cd13 ct13), sl13⟩) (c13 : PySem.W.codeIn K cd13 "_law_guess" = true) (k13 : PySem.W.keepIn K (.ref f13) = true)
    (a14 : PySem.W.nsIn K mainGlobals "_law_many" = some (some (.ref f14))) (l14 : K.lookup f14 = some ⟨oc14, od14, .func (PySem.W.fnOf "_law_many" "_law_many" (defArgs s_l_many) (defBody s_l_many) (defScope s_l_many) .none kV14 dc14 pm14 an14 cd14 ct14), sl14⟩) (c14 : PySem.W.codeIn K cd14 "_law_many" = true) (k14 : PySem.W.keepIn K (.ref f14) = true)
    (a15 : PySem.W.nsIn K mainGlobals "_law_is_guess" = some (some (.ref f15))) (l15 : K.lookup f15 = some ⟨oc15, od15, .func (PySem.W.fnOf "_law_is_guess" "_law_is_guess" (defArgs s_l_is_guess) (defBody s_l_is_guess) (defScope s_l_is_guess) .none kV15 dc15 pm15 an15 cd15 ct15), sl15⟩) (c15 : PySem.W.codeIn K cd15 "_law_is_guess" = true) (k15 : PySem.W.keepIn K (.ref f15) = true)
    (a16 : PySem.W.nsIn K mainGlobals "_law_refused" = some (some (.ref f16))) (l16 : K.lookup f16 = some ⟨oc16, od16, .func (PySem.W.fnOf "_law_refused" "_law_refused" (defArgs s_l_refused) (defBody s_l_refused) (defScope s_l_refused) .none kV16 dc16 pm16 an16 cd16 ct16), sl16⟩) (c16 : PySem.W.codeIn K cd16 "_law_refused" = true) (k16 : PySem.W.keepIn K (.ref f16) = true)
    (a17 : PySem.W.nsIn K mainGlobals "law" = some (some (.ref f17))) (l17 : K.lookup f17 = some ⟨oc17, od17, .func (PySem.W.fnOf "law" "law" (defArgs s_law) (defBody s_law) (defScope s_law) .none kV17 dc17 pm17 an17 cd17 ct17), sl17⟩) (c17 : PySem.W.codeIn K cd17 "law" = true) (k17 : PySem.W.keepIn K (.ref f17) = true)
    (z_ValueError : PySem.W.nsIn K mainGlobals "ValueError" = some none)
    (z_abs : PySem.W.nsIn K mainGlobals "abs" = some none)
    (z_all : PySem.W.nsIn K mainGlobals "all" = some none)
    (z_bool : PySem.W.nsIn K mainGlobals "bool" = some none)
    (z_int : PySem.W.nsIn K mainGlobals "int" = some none)
    (z_isinstance : PySem.W.nsIn K mainGlobals "isinstance" = some none)
    (z_len : PySem.W.nsIn K mainGlobals "len" = some none)
    (z_list : PySem.W.nsIn K mainGlobals "list" = some none)
    (z_min : PySem.W.nsIn K mainGlobals "min" = some none)
    (z_range : PySem.W.nsIn K mainGlobals "range" = some none)
    (z_reversed : PySem.W.nsIn K mainGlobals "reversed" = some none)
    (z_sum : PySem.W.nsIn K mainGlobals "sum" = some none)
    (z_tuple : PySem.W.nsIn K mainGlobals "tuple" = some none)
    (z_zip : PySem.W.nsIn K mainGlobals "zip" = some none)
    (g_HouseError : PySem.W.nsIn K mainGlobals "HouseError" = some (some (.ref C_HouseError)))
    (q_HouseError : PySem.W.excIn K C_HouseError [.type "ValueError", .type "Exception", .type "BaseException", .type "object"] "ValueError.__new__" = true) (kp_HouseError : PySem.W.keepIn K (.ref C_HouseError) = true) (b_HouseError : PySem.W.subIn K (.ref C_HouseError) (.type "BaseException") = some true) (t_HouseError : PySem.W.typeIn K (.ref C_HouseError) = some (.type "type"))
    (e1_HouseError : PySem.W.findIn K (.ref C_HouseError) "__getattribute__" = some (some (.builtin "BaseException.__getattribute__"))) (e2_HouseError : PySem.W.findIn K (.ref C_HouseError) "__getattr__" = some none) (e4_HouseError : PySem.W.hasDictIn K C_HouseError = true) (e5_HouseError : PySem.W.findIn K (.ref C_HouseError) "__class__" = some (some (.builtin "object.__class__"))) (e6_HouseError : PySem.W.specialIn K (.builtin "object.__class__") "__get__" = some (some (.builtin "getset_descriptor.__get__"))) (e7_HouseError : PySem.W.takesIn K (.builtin "object.__class__") = some true) (e8_HouseError : PySem.W.mroIn K C_HouseError (.type "object") = some true)
    (g_NoGuess : PySem.W.nsIn K mainGlobals "NoGuess" = some (some (.ref C_NoGuess)))
    (q_NoGuess : PySem.W.excIn K C_NoGuess [.type "ValueError", .type "Exception", .type "BaseException", .type "object"] "ValueError.__new__" = true) (kp_NoGuess : PySem.W.keepIn K (.ref C_NoGuess) = true) (b_NoGuess : PySem.W.subIn K (.ref C_NoGuess) (.type "BaseException") = some true) (t_NoGuess : PySem.W.typeIn K (.ref C_NoGuess) = some (.type "type"))
    (e1_NoGuess : PySem.W.findIn K (.ref C_NoGuess) "__getattribute__" = some (some (.builtin "BaseException.__getattribute__"))) (e2_NoGuess : PySem.W.findIn K (.ref C_NoGuess) "__getattr__" = some none) (e4_NoGuess : PySem.W.hasDictIn K C_NoGuess = true) (e5_NoGuess : PySem.W.findIn K (.ref C_NoGuess) "__class__" = some (some (.builtin "object.__class__"))) (e6_NoGuess : PySem.W.specialIn K (.builtin "object.__class__") "__get__" = some (some (.builtin "getset_descriptor.__get__"))) (e7_NoGuess : PySem.W.takesIn K (.builtin "object.__class__") = some true) (e8_NoGuess : PySem.W.mroIn K C_NoGuess (.type "object") = some true)
    (s_NoGuess_HouseError : PySem.W.subIn K (.ref C_NoGuess) (.ref C_HouseError) = some true)
    (s_NoGuess_NoGuess : PySem.W.subIn K (.ref C_NoGuess) (.ref C_NoGuess) = some true)
    (s_NoGuess_ValueError : PySem.W.subIn K (.ref C_NoGuess) (.type "ValueError") = some true) :
    ∃ fd : FuncData, (∀ (s : Shared) (v : Value), BindsTo s fd ⟨[v], []⟩ [("_law_script", v)]) ∧ ∀ base : Heap, K.In base → base.Ns mainGlobals mg → FnOk l.prog w K mg base CX0 6 fa fd ["_law_script"] (spD K fLaw) := by
  have e := hfa.symm.trans (PySem.W.mg_of X G a17)
  cases e
  have F0 := fun_mk (st := s_product_of) l0 c0 k0
  have b0 := F0.binds (ps := ["sizes"]) fun _ _ _ _ _ _ us hl => match us, hl with | [_], _ => rfl
  have F1 := fun_mk (st := s_open_posts) l1 c1 k1
  have b1 := F1.binds (ps := ["house"]) fun _ _ _ _ _ _ us hl => match us, hl with | [_], _ => rfl
  have F2 := fun_mk (st := s_open_sizes) l2 c2 k2
  have b2 := F2.binds (ps := ["house"]) fun _ _ _ _ _ _ us hl => match us, hl with | [_], _ => rfl
  have F3 := fun_mk (st := s_how_many) l3 c3 k3
  have b3 := F3.binds (ps := ["house"]) fun _ _ _ _ _ _ us hl => match us, hl with | [_], _ => rfl
  have F4 := fun_mk (st := s_is_guess) l4 c4 k4
  have b4 := F4.binds (ps := ["house", "guess"]) fun _ _ _ _ _ _ us hl => match us, hl with | [_, _], _ => rfl
  have F5 := fun_mk (st := s_number_of) l5 c5 k5
  have b5 := F5.binds (ps := ["house", "guess"]) fun _ _ _ _ _ _ us hl => match us, hl with | [_, _], _ => rfl
  have F6 := fun_mk (st := s_guess_at) l6 c6 k6
  have b6 := F6.binds (ps := ["house", "number"]) fun _ _ _ _ _ _ us hl => match us, hl with | [_, _], _ => rfl
  have F7 := fun_mk (st := s_l_whole) l7 c7 k7
  have b7 := F7.binds (ps := ["_law_found"]) fun _ _ _ _ _ _ us hl => match us, hl with | [_], _ => rfl
  have F8 := fun_mk (st := s_l_feed) l8 c8 k8
  have b8 := F8.binds (ps := ["_law_script"]) fun _ _ _ _ _ _ us hl => match us, hl with | [_], _ => rfl
  have F9 := fun_mk (st := s_l_name) l9 c9 k9
  have b9 := F9.binds (ps := ["_law_pick", "_law_k"]) fun _ _ _ _ _ _ us hl => match us, hl with | [_, _], _ => rfl
  have F10 := fun_mk (st := s_l_posts) l10 c10 k10
  have b10 := F10.binds (ps := ["_law_feed_here", "_law_cap"]) fun _ _ _ _ _ _ us hl => match us, hl with | [_, _], _ => rfl
  have F11 := fun_mk (st := s_l_boxes) l11 c11 k11
  have b11 := F11.binds (ps := ["_law_feed_here"]) fun _ _ _ _ _ _ us hl => match us, hl with | [_], _ => rfl
  have F12 := fun_mk (st := s_l_sizes) l12 c12 k12
  have b12 := F12.binds (ps := ["_law_house"]) fun _ _ _ _ _ _ us hl => match us, hl with | [_], _ => rfl
  have F13 := fun_mk (st := s_l_guess) l13 c13 k13
  have b13 := F13.binds (ps := ["_law_sizes_here", "_law_number"]) fun _ _ _ _ _ _ us hl => match us, hl with | [_, _], _ => rfl
  have F14 := fun_mk (st := s_l_many) l14 c14 k14
  have b14 := F14.binds (ps := ["_law_sizes_here"]) fun _ _ _ _ _ _ us hl => match us, hl with | [_], _ => rfl
  have F15 := fun_mk (st := s_l_is_guess) l15 c15 k15
  have b15 := F15.binds (ps := ["_law_found", "_law_due"]) fun _ _ _ _ _ _ us hl => match us, hl with | [_, _], _ => rfl
  have F16 := fun_mk (st := s_l_refused) l16 c16 k16
  have b16 := F16.binds (ps := ["_law_house", "_law_number"]) fun _ _ _ _ _ _ us hl => match us, hl with | [_, _], _ => rfl
  have F17 := fun_mk (st := s_law) l17 c17 k17
  have T : Txt K mg C_HouseError C_NoGuess := {
    d_product_of := ⟨_, _, F0, b0, PySem.W.mg_of X G a0⟩,
    d_open_posts := ⟨_, _, F1, b1, PySem.W.mg_of X G a1⟩,
    d_open_sizes := ⟨_, _, F2, b2, PySem.W.mg_of X G a2⟩,
    d_how_many := ⟨_, _, F3, b3, PySem.W.mg_of X G a3⟩,
    d_is_guess := ⟨_, _, F4, b4, PySem.W.mg_of X G a4⟩,
    d_number_of := ⟨_, _, F5, b5, PySem.W.mg_of X G a5⟩,
    d_guess_at := ⟨_, _, F6, b6, PySem.W.mg_of X G a6⟩,
    d_l_whole := ⟨_, _, F7, b7, PySem.W.mg_of X G a7⟩,
    d_l_feed := ⟨_, _, F8, b8, PySem.W.mg_of X G a8⟩,
    d_l_name := ⟨_, _, F9, b9, PySem.W.mg_of X G a9⟩,
    d_l_posts := ⟨_, _, F10, b10, PySem.W.mg_of X G a10⟩,
    d_l_boxes := ⟨_, _, F11, b11, PySem.W.mg_of X G a11⟩,
    d_l_sizes := ⟨_, _, F12, b12, PySem.W.mg_of X G a12⟩,
    d_l_guess := ⟨_, _, F13, b13, PySem.W.mg_of X G a13⟩,
    d_l_many := ⟨_, _, F14, b14, PySem.W.mg_of X G a14⟩,
    d_l_is_guess := ⟨_, _, F15, b15, PySem.W.mg_of X G a15⟩,
    d_l_refused := ⟨_, _, F16, b16, PySem.W.mg_of X G a16⟩,
    m_ValueError := PySem.W.mg_none_of X G z_ValueError,
    m_abs := PySem.W.mg_none_of X G z_abs,
    m_all := PySem.W.mg_none_of X G z_all,
    m_bool := PySem.W.mg_none_of X G z_bool,
    m_int := PySem.W.mg_none_of X G z_int,
    m_isinstance := PySem.W.mg_none_of X G z_isinstance,
    m_len := PySem.W.mg_none_of X G z_len,
    m_list := PySem.W.mg_none_of X G z_list,
    m_min := PySem.W.mg_none_of X G z_min,
    m_range := PySem.W.mg_none_of X G z_range,
    m_reversed := PySem.W.mg_none_of X G z_reversed,
    m_sum := PySem.W.mg_none_of X G z_sum,
    m_tuple := PySem.W.mg_none_of X G z_tuple,
    m_zip := PySem.W.mg_none_of X G z_zip,
    x_HouseError := ⟨PySem.W.mg_of X G g_HouseError, q_HouseError, kp_HouseError, b_HouseError, t_HouseError⟩,
    e_HouseError := ⟨e1_HouseError, e2_HouseError, b_HouseError, e4_HouseError, e5_HouseError, e6_HouseError, e7_HouseError, e8_HouseError⟩,
    x_NoGuess := ⟨PySem.W.mg_of X G g_NoGuess, q_NoGuess, kp_NoGuess, b_NoGuess, t_NoGuess⟩,
    e_NoGuess := ⟨e1_NoGuess, e2_NoGuess, b_NoGuess, e4_NoGuess, e5_NoGuess, e6_NoGuess, e7_NoGuess, e8_NoGuess⟩,
    exm_NoGuess_HouseError := exm_ref b_HouseError e4_HouseError t_HouseError s_NoGuess_HouseError,
    kit_NoGuess_NoGuess := kit_ref e4_NoGuess t_NoGuess s_NoGuess_NoGuess (by intro _; rfl),
    kit_NoGuess_ValueError := kit_type (by decide +kernel) s_NoGuess_ValueError }
  exact ⟨_, fun s v => .of_eq rfl, fun base _ _ => ok_law T F17⟩
end K08
open PySem PySem.W PyProof.Rows
set_option maxHeartbeats 0 in
theorem PySem.Challenge.cw_yesterpost_k08_numbered_guesses_holds : PySem.Challenge.rw_yesterpost_k08_numbered_guesses.Holds := by
  w_on; o_law; k_head; (case hw => w_witness2)
  k_fill
  refine L2.walk_ofK (l := PySem.Challenge.rw_yesterpost_k08_numbered_guesses) (n := 63) (k := 6) (x := "_law_script") (CX := L2.CX0) (sp := fun K => Yp.spD K K08.fLaw) rfl (by decide) rfl ⟨rfl, by decide, by decide⟩ (fun w h Y => PySem.W.kIn_of Y) ?F (fun _ _ a ns _ _ hS => Yp.law_start hS fun R h => ⟨ns, rfl, h⟩) (fun _ _ _ _ h => h)
  case F =>
    intro w mg fa h KX G hmg
    refine' K08.all_mk KX G hmg ?a0 ?l0 ?c0 ?k0 ?a1 ?l1 ?c1 ?k1 ?a2 ?l2 ?c2 ?k2 ?a3 ?l3 ?c3 ?k3 ?a4 ?l4 ?c4 ?k4 ?a5 ?l5 ?c5 ?k5 ?a6 ?l6 ?c6 ?k6 ?a7 ?l7 ?c7 ?k7 ?a8 ?l8 ?c8 ?k8 ?a9 ?l9 ?c9 ?k9 ?a10 ?l10 ?c10 ?k10 ?a11 ?l11 ?c11 ?k11 ?a12 ?l12 ?c12 ?k12 ?a13 ?l13 ?c13 ?k13 ?a14 ?l14 ?c14 ?k14 ?a15 ?l15 ?c15 ?k15 ?a16 ?l16 ?c16 ?k16 ?a17 ?l17 ?c17 ?k17 ?z_ValueError ?z_abs ?z_all ?z_bool ?z_int ?z_isinstance ?z_len ?z_list ?z_min ?z_range ?z_reversed ?z_sum ?z_tuple ?z_zip ?g_HouseError ?q_HouseError ?kp_HouseError ?b_HouseError ?t_HouseError ?e1_HouseError ?e2_HouseError ?e4_HouseError ?e5_HouseError ?e6_HouseError ?e7_HouseError ?e8_HouseError ?g_NoGuess ?q_NoGuess ?kp_NoGuess ?b_NoGuess ?t_NoGuess ?e1_NoGuess ?e2_NoGuess ?e4_NoGuess ?e5_NoGuess ?e6_NoGuess ?e7_NoGuess ?e8_NoGuess ?s_NoGuess_HouseError ?s_NoGuess_NoGuess ?s_NoGuess_ValueError
    (case a0 => k_is)
    (case l0 => k_is)
    (case c0 => k_is)
    (case k0 => k_is)
    (case a1 => k_is)
    (case l1 => k_is)
    (case c1 => k_is)
    (case k1 => k_is)
    (case a2 => k_is)
    (case l2 => k_is)
    (case c2 => k_is)
    (case k2 => k_is)
    (case a3 => k_is)
    (case l3 => k_is)
    (case c3 => k_is)
    (case k3 => k_is)
    (case a4 => k_is)
    (case l4 => k_is)
    (case c4 => k_is)
    (case k4 => k_is)
    (case a5 => k_is)
    (case l5 => k_is)
    (case c5 => k_is)
    (case k5 => k_is)
    (case a6 => k_is)
    (case l6 => k_is)
    (case c6 => k_is)
    (case k6 => k_is)
    (case a7 => k_is)
    (case l7 => k_is)
    (case c7 => k_is)
    (case k7 => k_is)
    (case a8 => k_is)
    (case l8 => k_is)
    (case c8 => k_is)
    (case k8 => k_is)
    (case a9 => k_is)
    (case l9 => k_is)
    (case c9 => k_is)
    (case k9 => k_is)
    (case a10 => k_is)
    (case l10 => k_is)
    (case c10 => k_is)
    (case k10 => k_is)
    (case a11 => k_is)
    (case l11 => k_is)
    (case c11 => k_is)
    (case k11 => k_is)
    (case a12 => k_is)
    (case l12 => k_is)
    (case c12 => k_is)
    (case k12 => k_is)
    (case a13 => k_is)
    (case l13 => k_is)
    (case c13 => k_is)
    (case k13 => k_is)
    (case a14 => k_is)
    (case l14 => k_is)
    (case c14 => k_is)
    (case k14 => k_is)
    (case a15 => k_is)
    (case l15 => k_is)
    (case c15 => k_is)
    (case k15 => k_is)
    (case a16 => k_is)
    (case l16 => k_is)
    (case c16 => k_is)
    (case k16 => k_is)
    (case a17 => k_is)
    (case l17 => k_is)
    (case c17 => k_is)
    (case k17 => k_is)
    (case z_ValueError => k_is)
    (case z_abs => k_is)
    (case z_all => k_is)
    (case z_bool => k_is)
    (case z_int => k_is)
    (case z_isinstance => k_is)
    (case z_len => k_is)
    (case z_list => k_is)
    (case z_min => k_is)
    (case z_range => k_is)
    (case z_reversed => k_is)
    (case z_sum => k_is)
    (case z_tuple => k_is)
    (case z_zip => k_is)
    (case g_HouseError => k_is)
    (case q_HouseError => k_exc)
    (case kp_HouseError => k_is)
    (case b_HouseError => k_is)
    (case t_HouseError => k_is)
    (case e1_HouseError => k_is)
    (case e2_HouseError => k_is)
    (case e4_HouseError => k_is)
    (case e5_HouseError => k_is)
    (case e6_HouseError => k_is)
    (case e7_HouseError => k_is)
    (case e8_HouseError => k_is)
    (case g_NoGuess => k_is)
    (case q_NoGuess => k_exc)
    (case kp_NoGuess => k_is)
    (case b_NoGuess => k_is)
    (case t_NoGuess => k_is)
    (case e1_NoGuess => k_is)
    (case e2_NoGuess => k_is)
    (case e4_NoGuess => k_is)
    (case e5_NoGuess => k_is)
    (case e6_NoGuess => k_is)
    (case e7_NoGuess => k_is)
    (case e8_NoGuess => k_is)
    (case s_NoGuess_HouseError => first | rfl | k_is)
    (case s_NoGuess_NoGuess => first | rfl | k_is)
    (case s_NoGuess_ValueError => first | rfl | k_is)
