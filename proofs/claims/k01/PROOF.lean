import PyProof.Rows.All
import Wide.All
import OpenK.AllK
import Wide.FinOn
import HandS.ForMost
import HandS.Deep
import HandS.Evl
import HandS.Walk
import KE.GoesEnum
import KE.GoesMore
import HandS.SetFor
import HandS.Strs
import HandS.SortInts
import HandS.SortRule
import HandS.TupLe
import HandS.More
import HandS.TupAny
import HandS.TupMul
import HandS.IsInst
import HandS.RevRange
import HandS.DictComp
import HandS.Codes
import HandS.Wide
import HandS.Style
import KE.GoesZip
import PyProof.Rows.SeqMore
import HandS.ForExc
import HandS.ExcInit
import HandS.ExcField
import HandS.ExcIs
import KE.KExcIs
import PySem.Challenge.RW_laidplates_k01_tables_journals_plates_ju
section
set_option Elab.async false
set_option linter.all false
set_option maxRecDepth 100000
/-! Values as data, cells that change, readings over both. -/
namespace Zq
open PySem PySem.Spec PyProof.Rows L2
abbrev Ex := Evl.Ex
/-- the written part, the classes' addresses -/
structure Cc where
  K : PySem.W.Frag
  cls : Str → Addr
/-- a type of data: which value stands for which datum; ok x k: it leans on the first k cells alone -/
class Rep (α : Type) where
  rep : Cc → Hp → List Addr → V → α → Prop
  ok : α → Nat → Prop
  mono : ∀ {c F F' as as' v x}, Ex F F' → as <+: as' → rep c F as v x → rep c F' as' v x
  cut : ∀ {c F as v x k}, ok x k → rep c F as v x → rep c F (as.take k) v x
open Rep (rep)
/-! ### lists of data -/
def RepL {α : Type} [Rep α] (c : Cc) (F : Hp) (as : List Addr) : List V → List α → Prop := Paired (rep c F as)
theorem Paired.nilI {α β : Type} {R : α → β → Prop} : Paired R [] [] := .nil
theorem RepL.mono {α : Type} [Rep α] {c : Cc} {F F' : Hp} {as as' : List Addr} (e : Ex F F') (p : as <+: as') : ∀ {vs : List V} {xs : List α}, RepL c F as vs xs → RepL c F' as' vs xs
  | _, _, .nil => .nil
  | _, _, .cons r t => .cons (Rep.mono e p r) (RepL.mono e p t)
theorem RepL.length {α : Type} [Rep α] {c : Cc} {F : Hp} {as : List Addr} {vs : List V} {xs : List α} (h : RepL c F as vs xs) : vs.length = xs.length := Paired.length h
theorem RepL.append {α : Type} [Rep α] {c : Cc} {F : Hp} {as : List Addr} : ∀ {vs ws : List V} {xs ys : List α}, RepL c F as vs xs → RepL c F as ws ys → RepL c F as (vs ++ ws) (xs ++ ys)
  | _, _, _, _, .nil, s => s
  | _, _, _, _, .cons r t, s => .cons r (RepL.append t s)
theorem RepL.get {α : Type} [Rep α] {c : Cc} {F : Hp} {as : List Addr} : ∀ {vs : List V} {xs : List α} {i : Nat} {x : α}, RepL c F as vs xs → xs[i]? = some x → ∃ v, vs[i]? = some v ∧ rep c F as v x
  | _, _, _, _, .nil, e => by simp at e
  | _, _, 0, _, .cons r _, e => by simp at e; subst e; exact ⟨_, rfl, r⟩
  | _, _, i + 1, x, .cons _ t, e => by
    obtain ⟨v, h1, h2⟩ := RepL.get (i := i) (x := x) t (by simpa using e)
    exact ⟨v, by simpa using h1, h2⟩
theorem RepL.getV {α : Type} [Rep α] {c : Cc} {F : Hp} {as : List Addr} : ∀ {vs : List V} {xs : List α} {i : Nat} {v : V}, RepL c F as vs xs → vs[i]? = some v → ∃ x, xs[i]? = some x ∧ rep c F as v x
  | _, _, _, _, .nil, e => by simp at e
  | _, _, 0, _, .cons r _, e => by simp at e; subst e; exact ⟨_, rfl, r⟩
  | _, _, i + 1, x, .cons _ t, e => by
    obtain ⟨v, h1, h2⟩ := RepL.getV (i := i) t (by simpa using e)
    exact ⟨v, by simpa using h1, h2⟩
theorem RepL.take {α : Type} [Rep α] {c : Cc} {F : Hp} {as : List Addr} : ∀ {vs : List V} {xs : List α} (n : Nat), RepL c F as vs xs → RepL c F as (vs.take n) (xs.take n)
  | _, _, 0, _ => .nil
  | _, _, _ + 1, .nil => .nil
  | _, _, n + 1, .cons r t => .cons r (RepL.take n t)
theorem RepL.drop {α : Type} [Rep α] {c : Cc} {F : Hp} {as : List Addr} : ∀ {vs : List V} {xs : List α} (n : Nat), RepL c F as vs xs → RepL c F as (vs.drop n) (xs.drop n)
  | _, _, 0, r => r
  | _, _, _ + 1, .nil => .nil
  | _, _, n + 1, .cons _ t => RepL.drop n t
theorem RepL.set {α : Type} [Rep α] {c : Cc} {F : Hp} {as : List Addr} {v : V} {x : α} (r : rep c F as v x) : ∀ {vs : List V} {xs : List α} (n : Nat), RepL c F as vs xs → RepL c F as (vs.set n v) (xs.set n x)
  | _, _, _, .nil => .nil
  | _, _, 0, .cons _ t => .cons r t
  | _, _, n + 1, .cons q t => .cons q (RepL.set r n t)
def okL {α : Type} [Rep α] (k : Nat) : List α → Prop
  | [] => True
  | x :: xs => Rep.ok x k ∧ okL k xs
theorem RepL.cut {α : Type} [Rep α] {c : Cc} {F : Hp} {as : List Addr} {k : Nat} : ∀ {vs : List V} {xs : List α}, okL k xs → RepL c F as vs xs → RepL c F (as.take k) vs xs
  | _, _, _, .nil => .nil
  | _, _, h, .cons r t => .cons (Rep.cut h.1 r) (RepL.cut h.2 t)
theorem sqL_mono {K : PySem.W.Frag} {F F' : Hp} {a : Addr} {xs : List V} (e : Ex F F') (h : SqL K F a xs) : SqL K F' a xs := Evl.ex_l e h
theorem sqT_mono {K : PySem.W.Frag} {F F' : Hp} {a : Addr} {xs : List V} (e : Ex F F') (h : SqT K F a xs) : SqT K F' a xs := Evl.ex_t e h
/-! ### the types -/
instance : Rep Int := ⟨fun _ _ _ v x => v = .int x, fun _ _ => True, fun _ _ h => h, fun _ h => h⟩
instance : Rep Bool := ⟨fun _ _ _ v x => v = .bl x, fun _ _ => True, fun _ _ h => h, fun _ h => h⟩
instance : Rep Unit := ⟨fun _ _ _ v _ => v = .non, fun _ _ => True, fun _ _ h => h, fun _ h => h⟩
instance : Rep Str := ⟨fun _ _ _ v x => v = .str x, fun _ _ => True, fun _ _ h => h, fun _ h => h⟩
/-- a cell, by its place -/
structure MR where
  k : Nat
instance : Rep MR where
  rep _ _ as v x := ∃ a, as[x.k]? = some a ∧ v = .ref a
  ok x k := x.k < k
  mono := by
    rintro c F F' as as' v x e ⟨t, rfl⟩ ⟨a, h, rfl⟩
    refine ⟨a, ?_, rfl⟩
    have hl : x.k < as.length := (List.getElem?_eq_some_iff.mp h).1
    rw [List.getElem?_append_left hl]; exact h
  cut := by
    rintro c F as v x k hk ⟨a, h, rfl⟩
    exact ⟨a, by rw [List.getElem?_take, if_pos hk]; exact h, rfl⟩
/-- a list that nobody changes any more -/
instance {α : Type} [Rep α] : Rep (List α) where
  rep c F as v xs := ∃ a vs, v = .ref a ∧ SqL c.K F a vs ∧ RepL c F as vs xs
  ok xs k := okL k xs
  mono := by rintro c F F' as as' v x e p ⟨a, vs, rfl, h, r⟩; exact ⟨a, vs, rfl, sqL_mono e h, r.mono e p⟩
  cut := by rintro c F as v x k hk ⟨a, vs, rfl, h, r⟩; exact ⟨a, vs, rfl, h, r.cut hk⟩
/-- a tuple of things of one type -/
structure Tp (α : Type) where
  l : List α
deriving DecidableEq
instance {α : Type} [Rep α] : Rep (Tp α) where
  rep c F as v xs := ∃ a vs, v = .ref a ∧ SqT c.K F a vs ∧ RepL c F as vs xs.l
  ok xs k := okL k xs.l
  mono := by rintro c F F' as as' v x e p ⟨a, vs, rfl, h, r⟩; exact ⟨a, vs, rfl, sqT_mono e h, r.mono e p⟩
  cut := by rintro c F as v x k hk ⟨a, vs, rfl, h, r⟩; exact ⟨a, vs, rfl, h, r.cut hk⟩
/-- a tuple of two, of three -/
instance {α β : Type} [Rep α] [Rep β] : Rep (α × β) where
  rep c F as v x := ∃ a v1 v2, v = .ref a ∧ SqT c.K F a [v1, v2] ∧ rep c F as v1 x.1 ∧ rep c F as v2 x.2
  ok x k := Rep.ok x.1 k ∧ Rep.ok x.2 k
  mono := by rintro c F F' as as' v x e p ⟨a, v1, v2, rfl, h, r1, r2⟩; exact ⟨a, v1, v2, rfl, sqT_mono e h, Rep.mono e p r1, Rep.mono e p r2⟩
  cut := by rintro c F as v x k ⟨k1, k2⟩ ⟨a, v1, v2, rfl, h, r1, r2⟩; exact ⟨a, v1, v2, rfl, h, Rep.cut k1 r1, Rep.cut k2 r2⟩
structure T3 (α β γ : Type) where
  a : α
  b : β
  c : γ
deriving DecidableEq
instance {α β γ : Type} [Rep α] [Rep β] [Rep γ] : Rep (T3 α β γ) where
  rep c F as v x := ∃ a v1 v2 v3, v = .ref a ∧ SqT c.K F a [v1, v2, v3] ∧ rep c F as v1 x.a ∧ rep c F as v2 x.b ∧ rep c F as v3 x.c
  ok x k := Rep.ok x.a k ∧ Rep.ok x.b k ∧ Rep.ok x.c k
  mono := by rintro c F F' as as' v x e p ⟨a, v1, v2, v3, rfl, h, r1, r2, r3⟩; exact ⟨a, v1, v2, v3, rfl, sqT_mono e h, Rep.mono e p r1, Rep.mono e p r2, Rep.mono e p r3⟩
  cut := by rintro c F as v x k ⟨k1, k2, k3⟩ ⟨a, v1, v2, v3, rfl, h, r1, r2, r3⟩; exact ⟨a, v1, v2, v3, rfl, h, Rep.cut k1 r1, Rep.cut k2 r2, Rep.cut k3 r3⟩
/-- None, or a thing -/
instance {α : Type} [Rep α] : Rep (Option α) where
  rep c F as v x := match x with
    | none => v = .non
    | some y => rep c F as v y
  ok x k := match x with
    | none => True
    | some y => Rep.ok y k
  mono := by
    rintro c F F' as as' v (_ | y) e p h
    · exact h
    · exact Rep.mono (x := y) e p h
  cut := by
    rintro c F as v (_ | y) k hk h
    · exact h
    · exact Rep.cut (x := y) hk h
/-- a dict with int keys that nobody changes any more, in its order -/
structure Dc (β : Type) where
  kvs : List (Int × β)
def RepK {β : Type} [Rep β] (c : Cc) (F : Hp) (as : List Addr) : List (Key × V) → List (Int × β) → Prop := Paired fun p q => p.1 = Sum.inl q.1 ∧ rep c F as p.2 q.2
theorem RepK.mono {α : Type} [Rep α] {c : Cc} {F F' : Hp} {as as' : List Addr} (e : Ex F F') (p : as <+: as') : ∀ {vs} {xs : List (Int × α)}, RepK c F as vs xs → RepK c F' as' vs xs
  | _, _, .nil => .nil
  | _, _, .cons r t => .cons ⟨r.1, Rep.mono e p r.2⟩ (RepK.mono e p t)
def okK {β : Type} [Rep β] (k : Nat) : List (Int × β) → Prop
  | [] => True
  | x :: xs => Rep.ok x.2 k ∧ okK k xs
theorem RepK.cut {α : Type} [Rep α] {c : Cc} {F : Hp} {as : List Addr} {k : Nat} : ∀ {vs} {xs : List (Int × α)}, okK k xs → RepK c F as vs xs → RepK c F (as.take k) vs xs
  | _, _, _, .nil => .nil
  | _, _, h, .cons r t => .cons ⟨r.1, Rep.cut h.1 r.2⟩ (RepK.cut h.2 t)
instance {β : Type} [Rep β] : Rep (Dc β) where
  rep c F as v x := ∃ a kvs, v = .ref a ∧ F a = some (.dK kvs) ∧ RepK c F as kvs x.kvs
  ok x k := okK k x.kvs
  mono := by rintro c F F' as as' v x e p ⟨a, kvs, rfl, h, r⟩; exact ⟨a, kvs, rfl, e _ _ h, r.mono e p⟩
  cut := by rintro c F as v x k hk ⟨a, kvs, rfl, h, r⟩; exact ⟨a, kvs, rfl, h, r.cut hk⟩
/-! ### names' data, cells -/
structure Dy where
  h : Cc → Hp → List Addr → V → Prop
  ok : Nat → Prop
  mono : ∀ {c F F' as as' v}, Ex F F' → as <+: as' → h c F as v → h c F' as' v
  cut : ∀ {c F as v k}, ok k → h c F as v → h c F (as.take k) v
def dy {α : Type} [Rep α] (x : α) : Dy := ⟨fun c F as v => rep c F as v x, fun k => Rep.ok x k, fun e p h => Rep.mono e p h, fun o h => Rep.cut o h⟩
abbrev Env' := List (Option Dy)
structure Cell where
  h : Cc → Hp → List Addr → HO → Prop
  mono : ∀ {c F F' as as' o}, Ex F F' → as <+: as' → h c F as o → h c F' as' o
  ok : Nat → Prop
  cut : ∀ {c F as o k}, ok k → h c F as o → h c F (as.take k) o
abbrev Mem := List Cell
/-- a list that changes -/
def cLst {α : Type} [Rep α] (xs : List α) : Cell :=
  ⟨fun c F as o => ∃ vs, o = .lst vs ∧ RepL c F as vs xs, by rintro c F F' as as' o e p ⟨vs, rfl, r⟩; exact ⟨vs, rfl, r.mono e p⟩, fun k => okL k xs, by rintro c F as o k hk ⟨vs, rfl, r⟩; exact ⟨vs, rfl, r.cut hk⟩⟩
/-- a dict with int keys that changes -/
def cDic {β : Type} [Rep β] (kvs : List (Int × β)) : Cell :=
  ⟨fun c F as o => ∃ ps, o = .dK ps ∧ RepK c F as ps kvs, by rintro c F F' as as' o e p ⟨vs, rfl, r⟩; exact ⟨vs, rfl, r.mono e p⟩, fun k => okK k kvs, by rintro c F as o k hk ⟨vs, rfl, r⟩; exact ⟨vs, rfl, r.cut hk⟩⟩
/-! ### the state: as the cells' places, F what never changes any more, H all -/
structure Hw where
  F : Hp
  H : Hp
structure SlotsOk (c : Cc) (F : Hp) (as : List Addr) (σ : L2.St) (env : Env') : Prop where
  len : σ.length = env.length
  at_ : ∀ (i : Nat) (d : Dy), env[i]? = some (some d) → ∃ v, σ[i]? = some (some v) ∧ d.h c F as v
structure MemOk (c : Cc) (as : List Addr) (w : Hw) (M : Mem) : Prop where
  nd : as.Nodup
  len : M.length = as.length
  ex : Ex w.F w.H
  dis : ∀ a ∈ as, w.F a = none
  at_ : ∀ (k : Nat) (d : Cell), M[k]? = some d → ∃ a o, as[k]? = some a ∧ w.H a = some o ∧ d.h c w.F as o
structure Sta (c : Cc) (env : Env') (M : Mem) (as : List Addr) (σ : L2.St) (w : Hw) : Prop where
  sl : SlotsOk c w.F as σ env
  me : MemOk c as w M
structure Step (as : List Addr) (w : Hw) (as' : List Addr) (w' : Hw) : Prop where
  pre : as <+: as'
  ex : Ex w.F w'.F
  fr : ∀ a, w.F a = none → w'.F a ≠ none → w.H a = none ∨ a ∈ as
  frA : ∀ a ∈ as', a ∉ as → w.H a = none
  keep : ∀ a o, w.H a = some o → a ∉ as → w'.H a = some o
  dom : ∀ a, w.H a ≠ none → w'.H a ≠ none
theorem Step.refl (as : List Addr) (w : Hw) : Step as w as w := ⟨List.prefix_refl _, Evl.Ex.refl _, fun a h h' => absurd h h', fun a h h' => absurd h h', fun a o h _ => h, fun a h => h⟩
theorem Step.trans {as w as1 w1 as2 w2} (a : Step as w as1 w1) (b : Step as1 w1 as2 w2) : Step as w as2 w2 := by
  refine ⟨a.pre.trans b.pre, a.ex.trans b.ex, fun x h h' => ?_, fun x h h' => ?_, fun x o h h' => ?_, fun x h => b.dom x (a.dom x h)⟩
  · by_cases q : w1.F x = none
    · rcases b.fr x q h' with z | z
      · left
        by_cases w : w.H x = none
        · exact w
        · exact absurd z (a.dom x w)
      · by_cases w : x ∈ as
        · exact .inr w
        · exact .inl (a.frA x z w)
    · exact a.fr x h q
  · by_cases q : x ∈ as1
    · exact a.frA x q h'
    · have z := b.frA x h q
      by_cases w : w.H x = none
      · exact w
      · exact absurd z (a.dom x w)
  · by_cases q : x ∈ as1
    · have z := a.frA x q h'
      rw [h] at z; cases z
    · exact b.keep x o (a.keep x o h h') q
theorem SlotsOk.mono {c F F' as as' σ env} (e : Ex F F') (p : as <+: as') (h : SlotsOk c F as σ env) : SlotsOk c F' as' σ env := ⟨h.len, fun i d q => let ⟨v, h1, h2⟩ := h.at_ i d q; ⟨v, h1, d.mono e p h2⟩⟩
theorem SlotsOk.step {c as w as' w' σ env} (s : Step as w as' w') (h : SlotsOk c w.F as σ env) : SlotsOk c w'.F as' σ env := h.mono s.ex s.pre
theorem SlotsOk.set {c F as σ env} {v : V} {d : Dy} (h : SlotsOk c F as σ env) (i : Nat) (hd : d.h c F as v) : SlotsOk c F as (σ.set i (some v)) (env.set i (some d)) := by
  refine ⟨by rw [List.length_set, List.length_set, h.len], fun j d' q => ?_⟩
  rw [List.getElem?_set] at q
  by_cases e : i = j
  · subst e
    rw [if_pos rfl] at q
    split at q
    · cases q
      rename_i hl
      exact ⟨v, by rw [List.getElem?_set, if_pos rfl, if_pos (by rw [h.len]; exact hl)], hd⟩
    · cases q
  · rw [if_neg e] at q
    obtain ⟨w, h1, h2⟩ := h.at_ j d' q
    exact ⟨w, by rw [List.getElem?_set, if_neg e]; exact h1, h2⟩
/-- env' knows no more than env -/
def Frg (env env' : Env') : Prop := env.length = env'.length ∧ ∀ (i : Nat) (d : Dy), env'[i]? = some (some d) → env[i]? = some (some d)
theorem Frg.refl (env : Env') : Frg env env := ⟨rfl, fun _ _ h => h⟩
theorem SlotsOk.frg {c F as σ env env'} (h : SlotsOk c F as σ env) (f : Frg env env') : SlotsOk c F as σ env' := ⟨h.len.trans f.1, fun i d q => h.at_ i d (f.2 i d q)⟩
theorem Frg.nil : Frg [] [] := ⟨rfl, fun i d h => by simp at h⟩
theorem Frg.same {d : Option Dy} {e e' : Env'} (h : Frg e e') : Frg (d :: e) (d :: e') := by
  refine ⟨by rw [List.length_cons, List.length_cons, h.1], fun i d' q => ?_⟩
  cases i with
  | zero => simpa using q
  | succ i => simpa using h.2 i d' (by simpa using q)
theorem Frg.drop {d : Option Dy} {e e' : Env'} (h : Frg e e') : Frg (d :: e) (none :: e') := by
  refine ⟨by rw [List.length_cons, List.length_cons, h.1], fun i d' q => ?_⟩
  cases i with
  | zero => simp at q
  | succ i => simpa using h.2 i d' (by simpa using q)
theorem MemOk.isSome {c as} {F H : Hp} {M : Mem} (m : MemOk c as ⟨F, H⟩ M) {a : Addr} (h : a ∈ as) : H a ≠ none := by
  obtain ⟨k, hk, e⟩ := List.getElem_of_mem h
  obtain ⟨a', o, h1, h2, _⟩ := m.at_ k (M[k]'(by rw [m.len]; exact hk)) (List.getElem?_eq_getElem _)
  rw [List.getElem?_eq_getElem hk, e] at h1
  cases h1
  dsimp only at h2
  rw [h2]; simp
theorem MemOk.notin {c as} {F H : Hp} {M : Mem} (m : MemOk c as ⟨F, H⟩ M) {p : Addr} (hp : H p = none) : p ∉ as := fun z => m.isSome z hp
theorem MemOk.fresh {c as} {F H : Hp} {M : Mem} (m : MemOk c as ⟨F, H⟩ M) {p : Addr} (hp : H p = none) : F p = none := Evl.fresh_back m.ex hp
/-- a new object that is not to change -/
theorem MemOk.new {c as} {F H : Hp} {M : Mem} {p : Addr} {o : HO} (m : MemOk c as ⟨F, H⟩ M) (hp : H p = none) : Step as ⟨F, H⟩ as ⟨upd F p o, upd H p o⟩ ∧ MemOk c as ⟨upd F p o, upd H p o⟩ M := by
  have hF := m.fresh hp
  have hn := m.notin hp
  have e : Ex F (upd F p o) := Evl.Ex.new hF
  refine ⟨⟨List.prefix_refl _, e, fun a h h' => ?_, fun a h h' => absurd h h', fun a u h _ => by dsimp only at *; rw [upd_ne (ne_of_none h hp)]; exact h, fun a h => ?_⟩, m.nd, m.len, fun a u h => ?_, fun a ha => ?_, fun k d q => ?_⟩
  · dsimp only at *
    by_cases z : a = p
    · subst z; exact .inl hp
    · rw [upd_ne z] at h'; exact absurd h h'
  · dsimp only at *
    by_cases z : a = p
    · subst z; rw [upd_same]; simp
    · rw [upd_ne z]; exact h
  · dsimp only at *
    by_cases z : a = p
    · subst z; rw [upd_same] at h ⊢; exact h
    · rw [upd_ne z] at h ⊢; exact m.ex a u h
  · dsimp only at *
    rw [upd_ne (fun z => hn (by rw [← z]; exact ha))]; exact m.dis a ha
  · obtain ⟨a, o', h1, h2, h3⟩ := m.at_ k d q
    exact ⟨a, o', h1, by dsimp only at *; rw [upd_ne (ne_of_none h2 hp)]; exact h2, d.mono e (List.prefix_refl _) h3⟩
/-- a new object that is to change -/
theorem MemOk.newCell {c as} {F H : Hp} {M : Mem} {p : Addr} {o : HO} {d : Cell} (m : MemOk c as ⟨F, H⟩ M) (hp : H p = none) (hd : d.h c F as o) : Step as ⟨F, H⟩ (as ++ [p]) ⟨F, upd H p o⟩ ∧ MemOk c (as ++ [p]) ⟨F, upd H p o⟩ (M ++ [d]) := by
  have hF := m.fresh hp
  have hn := m.notin hp
  refine ⟨⟨⟨[p], rfl⟩, Evl.Ex.refl _, fun a h h' => absurd h h', fun a h h' => ?_, fun a u h _ => by dsimp only at *; rw [upd_ne (ne_of_none h hp)]; exact h, fun a h => ?_⟩, ?_, by rw [List.length_append, List.length_append, m.len] <;> rfl, fun a u h => ?_, fun a ha => ?_, fun k d' q => ?_⟩
  · have : a = p := by
      rcases List.mem_append.mp h with z | z
      · exact absurd z h'
      · simpa using z
    rw [this]; exact hp
  · dsimp only at *
    by_cases z : a = p
    · subst z; rw [upd_same]; simp
    · rw [upd_ne z]; exact h
  · rw [List.nodup_append]
    refine ⟨m.nd, by simp, fun a ha b hb => ?_⟩
    have : b = p := by simpa using hb
    subst this
    intro z; subst z; exact hn ha
  · dsimp only at *
    rw [upd_ne (ne_of_none h hF)]; exact m.ex a u h
  · rcases List.mem_append.mp ha with z | z
    · exact m.dis a z
    · have : a = p := by simpa using z
      rw [this]; exact hF
  · by_cases hk : k < M.length
    · rw [List.getElem?_append_left hk] at q
      obtain ⟨a, o', h1, h2, h3⟩ := m.at_ k d' q
      exact ⟨a, o', by rw [List.getElem?_append_left (by rw [← m.len]; exact hk)]; exact h1, by dsimp only at *; rw [upd_ne (ne_of_none h2 hp)]; exact h2, d'.mono (Evl.Ex.refl _) ⟨[p], rfl⟩ h3⟩
    · rw [List.getElem?_append_right (by omega)] at q
      have hk0 : k - M.length = 0 := by
        have := (List.getElem?_eq_some_iff.mp q).1
        simp at this; omega
      rw [hk0] at q
      have : d = d' := by simpa using q
      subst this
      have hkk : k = as.length := by have := m.len; omega
      subst hkk
      exact ⟨p, o, by simp, upd_same, d.mono (Evl.Ex.refl _) ⟨[p], rfl⟩ hd⟩
/-- a cell changes -/
theorem MemOk.put {c as} {F H : Hp} {M : Mem} {k : Nat} {a : Addr} {o : HO} {d : Cell} (m : MemOk c as ⟨F, H⟩ M) (ha : as[k]? = some a) (hd : d.h c F as o) : Step as ⟨F, H⟩ as ⟨F, upd H a o⟩ ∧ MemOk c as ⟨F, upd H a o⟩ (M.set k d) := by
  have hin : a ∈ as := List.mem_of_getElem? ha
  refine ⟨⟨List.prefix_refl _, Evl.Ex.refl _, fun x h h' => absurd h h', fun x h h' => absurd h h', fun x u h h' => by dsimp only at *; rw [upd_ne (fun (z : x = a) => h' (by rw [z]; exact hin))]; exact h, fun x h => ?_⟩, m.nd, by rw [List.length_set, m.len], fun x u h => ?_, m.dis, fun j d' q => ?_⟩
  · dsimp only at *
    by_cases z : x = a
    · subst z; rw [upd_same]; simp
    · rw [upd_ne z]; exact h
  · dsimp only at *
    have : x ≠ a := fun z => by
      have q : F a = none := m.dis a hin
      rw [z, q] at h; cases h
    rw [upd_ne this]; exact m.ex x u h
  · rw [List.getElem?_set] at q
    by_cases e : k = j
    · subst e
      rw [if_pos rfl] at q
      split at q
      · cases q
        exact ⟨a, o, ha, upd_same, hd⟩
      · cases q
    · rw [if_neg e] at q
      obtain ⟨b, o', h1, h2, h3⟩ := m.at_ j d' q
      refine ⟨b, o', h1, ?_, h3⟩
      have : b ≠ a := fun z => by
        subst z
        obtain ⟨l1, g1⟩ := List.getElem?_eq_some_iff.mp ha
        obtain ⟨l2, g2⟩ := List.getElem?_eq_some_iff.mp h1
        exact e ((List.getElem_inj m.nd).mp (g1.trans g2.symm))
      dsimp only at *
      rw [upd_ne this]; exact h2
/-- the last cell will not change any more -/
theorem MemOk.freeze {c as} {F H : Hp} {M : Mem} {D : Addr} {o : HO} (m : MemOk c (as ++ [D]) ⟨F, H⟩ M) (hD : H D = some o) : Ex F (upd F D o) ∧ Ex (upd F D o) H ∧ D ∉ as := by
  have hF := m.dis D (by simp)
  refine ⟨Evl.Ex.new hF, fun a u h => ?_, fun z => ?_⟩
  · dsimp only at *
    by_cases q : a = D
    · subst q; rw [upd_same] at h; cases h; exact hD
    · rw [upd_ne q] at h; exact m.ex a u h
  · have := m.nd
    rw [List.nodup_append] at this
    exact this.2.2 D z D (by simp) rfl
/-! ### what is evaluated: expressions, tests, arguments -/
section
variable (c : Cc)
def WE (te : TE) (env : Env') (M : Mem) (P : Dy → Mem → Prop) : Prop :=
  ∀ as σ w (Q : VK), Sta c env M as σ w → (∀ v as' w' d M', Step as w as' w' → MemOk c as' w' M' → d.h c w'.F as' v → P d M' → Q v w'.H) → te σ w.H Q
def WT (tt : TT) (env : Env') (M : Mem) (P : Bool → Mem → Prop) : Prop :=
  ∀ as σ w (Q : Bool → Hp → Prop), Sta c env M as σ w → (∀ b as' w' M', Step as w as' w' → MemOk c as' w' M' → P b M' → Q b w'.H) → tt σ w.H Q
/-- values that stand for data -/
def RepDs (F : Hp) (as : List Addr) : List V → List Dy → Prop := Paired fun v d => d.h c F as v
def WA (ta : TA) (env : Env') (M : Mem) (P : List Dy → Mem → Prop) : Prop :=
  ∀ as σ w (Q : List V → Hp → Prop), Sta c env M as σ w → (∀ vs as' w' ds M', Step as w as' w' → MemOk c as' w' M' → RepDs c w'.F as' vs ds → P ds M' → Q vs w'.H) → ta σ w.H Q
end
/-- d is of this type -/
def As (α : Type) [Rep α] (P : α → Mem → Prop) (d : Dy) (m : Mem) : Prop := ∃ x : α, d = dy x ∧ P x m
theorem as_dy {α : Type} [Rep α] {P : α → Mem → Prop} {x : α} {m : Mem} (p : P x m) : As α P (dy x) m := ⟨x, rfl, p⟩
theorem RepDs.mono {c : Cc} {F F' : Hp} {as as' : List Addr} (e : Ex F F') (p : as <+: as') : ∀ {vs : List V} {ds : List Dy}, RepDs c F as vs ds → RepDs c F' as' vs ds
  | _, _, .nil => .nil
  | _, d :: _, .cons r t => .cons (d.mono e p r) (RepDs.mono e p t)
theorem Sta.step {c env M as σ w as' w' M'} (s : Sta c env M as σ w) (st : Step as w as' w') (m : MemOk c as' w' M') : Sta c env M' as' σ w' := ⟨s.sl.step st, m⟩
section
variable {c : Cc} {env : Env'} {M : Mem} {α β γ : Type} [Rep α] [Rep β] [Rep γ] {ta tb te : TE} {P : Dy → Mem → Prop} {B : Bool → Mem → Prop}
theorem WE.mono {P Q : Dy → Mem → Prop} (h : WE c te env M P) (k : ∀ x m, P x m → Q x m) : WE c te env M Q := fun as σ H R s q => h as σ H R s fun v as' H' x M' st m r p => q v as' H' x M' st m r (k _ _ p)
theorem we_var {i : Nat} {d : Dy} (h : env[i]? = some (some d)) (p : P d M) : WE c (tVar i) env M P := fun as σ H Q s k => by
  obtain ⟨v, hv, hr⟩ := s.sl.at_ i _ h
  exact ⟨v, hv, k v as H d M (.refl _ _) s.me hr p⟩
theorem we_int {i : Int} (p : P (dy i) M) : WE c (tC (.int i)) env M P := fun as σ H Q s k => k _ as H (dy i) M (.refl _ _) s.me rfl p
theorem we_bl {i : Bool} (p : P (dy i) M) : WE c (tC (.bl i)) env M P := fun as σ H Q s k => k _ as H (dy i) M (.refl _ _) s.me rfl p
theorem we_non (p : P (dy ()) M) : WE c (tC .non) env M P := fun as σ H Q s k => k _ as H (dy ()) M (.refl _ _) s.me rfl p
theorem we_str {i : Str} (p : P (dy i) M) : WE c (tC (.str i)) env M P := fun as σ H Q s k => k _ as H (dy i) M (.refl _ _) s.me rfl p
/-- an operation on two values -/
def RR (c : Cc) (r : R2) (x y : Dy) (M : Mem) (P : Dy → Mem → Prop) : Prop :=
  ∀ as W (v w : V) (Q : VK), MemOk c as W M → x.h c W.F as v → y.h c W.F as w → (∀ u as' w' z M', Step as W as' w' → MemOk c as' w' M' → z.h c w'.F as' u → P z M' → Q u w'.H) → r v w W.H Q
theorem we_op2 {r : R2} (h : WE c ta env M fun x M1 => WE c tb env M1 fun y M2 => RR c r x y M2 P) : WE c (tOp r ta tb) env M P := fun as σ H Q s k =>
  h as σ H _ s fun v as1 H1 x M1 st1 m1 r1 p1 => p1 as1 σ H1 _ (s.step st1 m1) fun w as2 H2 y M2 st2 m2 r2 p2 =>
    p2 as2 H2 v w Q m2 (x.mono st2.ex st2.pre r1) r2 fun u as3 H3 z M3 st3 m3 r3 p3 => k u as3 H3 z M3 ((st1.trans st2).trans st3) m3 r3 p3
/-- an operation on two values that only reads -/
theorem rr_pure {r : R2} {x y z : Dy} (h : ∀ as W (v w : V) (Q : VK), MemOk c as W M → x.h c W.F as v → y.h c W.F as w → (∀ u, z.h c W.F as u → Q u W.H) → r v w W.H Q) (p : P z M) : RR c r x y M P :=
  fun as H v w Q m r1 r2 k => h as H v w Q m r1 r2 fun u ru => k u as H z M (.refl _ _) m ru p
/-! ### tests -/
theorem WT.mono {tt : TT} {P Q : Bool → Mem → Prop} (h : WT c tt env M P) (k : ∀ x m, P x m → Q x m) : WT c tt env M Q := fun as σ H R s q => h as σ H R s fun b as' H' M' st m p => q b as' H' M' st m (k _ _ p)
theorem wt_test (h : WE c te env M (As Bool B)) : WT c (tTest te) env M B := fun as σ H Q s k => h as σ H _ s fun v as' H' d M' st m r p => by
  obtain ⟨x, rfl, p⟩ := p
  exact ⟨x, r, k x as' H' M' st m p⟩
theorem wt_B (h : WE c te env M (As Bool B)) : WT c (tB te) env M B := wt_test h
theorem wt_not {t : TT} (h : WT c t env M fun b m => B (!b) m) : WT c (tNot t) env M B := fun as σ H Q s k => h as σ H _ s fun b as' H' M' st m p => k _ as' H' M' st m p
theorem wt_and {t u : TT} (h : WT c t env M fun b m => (b = true → WT c u env m B) ∧ (b = false → B false m)) : WT c (tAnd t u) env M B := fun as σ H Q s k => h as σ H _ s fun b as' H' M' st m p => by
  cases b with
  | true =>
    show u σ H'.H Q
    exact p.1 rfl as' σ H' Q (s.step st m) fun b2 as2 H2 M2 st2 m2 p2 => k b2 as2 H2 M2 (st.trans st2) m2 p2
  | false => exact k false as' H' M' st m (p.2 rfl)
theorem wt_or {t u : TT} (h : WT c t env M fun b m => (b = false → WT c u env m B) ∧ (b = true → B true m)) : WT c (tOr t u) env M B := fun as σ H Q s k => h as σ H _ s fun b as' H' M' st m p => by
  cases b with
  | false =>
    show u σ H'.H Q
    exact p.1 rfl as' σ H' Q (s.step st m) fun b2 as2 H2 M2 st2 m2 p2 => k b2 as2 H2 M2 (st.trans st2) m2 p2
  | true => exact k true as' H' M' st m (p.2 rfl)
theorem wt_yes (p : B true M) : WT c tYes env M B := fun as σ H Q s k => k true as H M (.refl _ _) s.me p
theorem we_andV (h : WE c ta env M (As Bool fun b m => (b = true → WE c tb env m P) ∧ (b = false → P (dy false) m))) : WE c (tAndV ta tb) env M P := fun as σ H Q s k => h as σ H _ s fun v as' H' b M' st m r p => by
  obtain ⟨b, rfl, p⟩ := p
  refine ⟨b, r, ?_⟩
  cases b with
  | true =>
    show tb σ H'.H Q
    exact p.1 rfl as' σ H' Q (s.step st m) fun v2 as2 H2 b2 M2 st2 m2 r2 p2 => k v2 as2 H2 b2 M2 (st.trans st2) m2 r2 p2
  | false => exact k _ as' H' (dy false) M' st m rfl (p.2 rfl)
theorem we_orV (h : WE c ta env M (As Bool fun b m => (b = false → WE c tb env m P) ∧ (b = true → P (dy true) m))) : WE c (tOrV ta tb) env M P := fun as σ H Q s k => h as σ H _ s fun v as' H' b M' st m r p => by
  obtain ⟨b, rfl, p⟩ := p
  refine ⟨b, r, ?_⟩
  cases b with
  | false =>
    show tb σ H'.H Q
    exact p.1 rfl as' σ H' Q (s.step st m) fun v2 as2 H2 b2 M2 st2 m2 r2 p2 => k v2 as2 H2 b2 M2 (st.trans st2) m2 r2 p2
  | true => exact k _ as' H' (dy true) M' st m rfl (p.2 rfl)
theorem we_notV (h : WE c ta env M (As Bool fun b m => P (dy (!b)) m)) : WE c (tNotV ta) env M P := fun as σ H Q s k => h as σ H _ s fun v as' H' b M' st m r p => by
  obtain ⟨b, rfl, p⟩ := p
  exact ⟨b, r, k _ as' H' (dy (!b)) M' st m rfl p⟩
theorem we_if {t : TT} (h : WT c t env M fun b m => (b = true → WE c ta env m P) ∧ (b = false → WE c tb env m P)) : WE c (tIf t ta tb) env M P := fun as σ H Q s k => h as σ H _ s fun b as' H' M' st m p => by
  cases b with
  | true =>
    show ta σ H'.H Q
    exact p.1 rfl as' σ H' Q (s.step st m) fun v2 as2 H2 b2 M2 st2 m2 r2 p2 => k v2 as2 H2 b2 M2 (st.trans st2) m2 r2 p2
  | false =>
    show tb σ H'.H Q
    exact p.2 rfl as' σ H' Q (s.step st m) fun v2 as2 H2 b2 M2 st2 m2 r2 p2 => k v2 as2 H2 b2 M2 (st.trans st2) m2 r2 p2
/-- a < b < c -/
theorem we_chain {r r' : R2} {tc : TE}
    (h : WE c ta env M fun x M1 => WE c tb env M1 fun y M2 => RR c r x y M2 (As Bool fun b M3 => (b = true → WE c tc env M3 fun z M4 => RR c r' y z M4 P) ∧ (b = false → P (dy false) M3))) : WE c (tChain r r' ta tb tc) env M P := fun as σ H Q s k =>
  h as σ H _ s fun v as1 H1 x M1 st1 m1 r1 p1 => p1 as1 σ H1 _ (s.step st1 m1) fun w as2 H2 y M2 st2 m2 r2 p2 =>
    p2 as2 H2 v w _ m2 (x.mono st2.ex st2.pre r1) r2 fun u as3 H3 b M3 st3 m3 r3 p3 => by
      obtain ⟨b, rfl, p3⟩ := p3
      refine ⟨b, r3, ?_⟩
      cases b with
      | true =>
        show tc σ H3.H _
        exact p3.1 rfl as3 σ H3 _ (s.step ((st1.trans st2).trans st3) m3) fun w' as4 H4 z M4 st4 m4 r4 p4 =>
          p4 as4 H4 w w' Q m4 (y.mono (st3.trans st4).ex (st3.trans st4).pre r2) r4 fun u' as5 H5 b' M5 st5 m5 r5 p5 => k u' as5 H5 b' M5 ((((st1.trans st2).trans st3).trans st4).trans st5) m5 r5 p5
      | false =>
        show Q (.bl false) H3.H
        exact k _ as3 H3 (dy false) M3 ((st1.trans st2).trans st3) m3 rfl (p3.2 rfl)
/-! ### arguments, calls of built-ins -/
theorem wa_nil {P : List Dy → Mem → Prop} (p : P [] M) : WA c tNil env M P := fun as σ H Q s k => k [] as H [] M (.refl _ _) s.me .nil p
theorem wa_cons {tr : TA} {P : List Dy → Mem → Prop} (h : WE c te env M fun x M1 => WA c tr env M1 fun ds M2 => P (x :: ds) M2) : WA c (tCons te tr) env M P := fun as σ H Q s k =>
  h as σ H _ s fun v as1 H1 x M1 st1 m1 r1 p1 => p1 as1 σ H1 _ (s.step st1 m1) fun vs as2 H2 ds M2 st2 m2 r2 p2 =>
    k (v :: vs) as2 H2 (x :: ds) M2 (st1.trans st2) m2 (.cons (x.mono st2.ex st2.pre r1) r2) p2
/-- a call on values -/
def RC (c : Cc) (r : List V → Hp → VK → Prop) (ds : List Dy) (M : Mem) (P : Dy → Mem → Prop) : Prop :=
  ∀ as W (vs : List V) (Q : VK), MemOk c as W M → RepDs c W.F as vs ds → (∀ u as' w' z M', Step as W as' w' → MemOk c as' w' M' → z.h c w'.F as' u → P z M' → Q u w'.H) → r vs W.H Q
theorem we_cb {r : List V → Hp → VK → Prop} {t : TA} (h : WA c t env M fun ds M1 => RC c r ds M1 P) : WE c (tCB r t) env M P := fun as σ H Q s k =>
  h as σ H _ s fun vs as1 H1 ds M1 st1 m1 r1 p1 => p1 as1 H1 vs Q m1 r1 fun u as2 H2 z M2 st2 m2 r2 p2 => k u as2 H2 z M2 (st1.trans st2) m2 r2 p2
theorem RepDs.one {F : Hp} {as : List Addr} {vs : List V} {x : Dy} (h : RepDs c F as vs [x]) : ∃ v, vs = [v] ∧ x.h c F as v := by
  cases h with
  | cons r t => cases t; exact ⟨_, rfl, r⟩
theorem RepDs.two {F : Hp} {as : List Addr} {vs : List V} {x y : Dy} (h : RepDs c F as vs [x, y]) : ∃ v w, vs = [v, w] ∧ x.h c F as v ∧ y.h c F as w := by
  cases h with
  | cons r t => obtain ⟨w, rfl, r2⟩ := RepDs.one t; exact ⟨_, w, rfl, r, r2⟩
theorem RepDs.three {F : Hp} {as : List Addr} {vs : List V} {x y z : Dy} (h : RepDs c F as vs [x, y, z]) : ∃ v w u, vs = [v, w, u] ∧ x.h c F as v ∧ y.h c F as w ∧ z.h c F as u := by
  cases h with
  | cons r t => obtain ⟨w, u, rfl, r2, r3⟩ := RepDs.two t; exact ⟨_, w, u, rfl, r, r2, r3⟩
theorem rc_pure {r : List V → Hp → VK → Prop} {ds : List Dy} {z : Dy} (h : ∀ as W (vs : List V) (Q : VK), MemOk c as W M → RepDs c W.F as vs ds → (∀ u, z.h c W.F as u → Q u W.H) → r vs W.H Q) (p : P z M) : RC c r ds M P :=
  fun as H vs Q m r1 k => h as H vs Q m r1 fun u ru => k u as H z M (.refl _ _) m ru p
/-! ### new objects -/
theorem sqt_of {K : PySem.W.Frag} {F : Hp} {p : Addr} {vs : List V} (h : F p = some (.tup vs)) : SqT K F p vs := .inl (.inl h)
theorem sql_of {K : PySem.W.Frag} {F : Hp} {p : Addr} {vs : List V} (h : F p = some (.lst vs)) : SqL K F p vs := .inl (.inl h)
/-- a new object that is not to change -/
theorem new_obj {as : List Addr} {W : Hw} {o : HO} {Q : VK} {z : Dy} (m : MemOk c as W M) (hz : ∀ p F', F' p = some o → Ex W.F F' → z.h c F' as (.ref p))
    (k : ∀ u as' w' z M', Step as W as' w' → MemOk c as' w' M' → z.h c w'.F as' u → P z M' → Q u w'.H) (p : P z M) : ∀ p, W.H p = none → Q (.ref p) (upd W.H p o) := fun q hq => by
  obtain ⟨st, m'⟩ := MemOk.new (o := o) m hq
  exact k _ as _ z M st m' (hz q _ upd_same st.ex) p
/-- what a display's items make -/
def TupOk (c : Cc) (ds : List Dy) (P : Dy → Mem → Prop) (M : Mem) : Prop := ∃ z : Dy, ds.length ≤ 100000 ∧ (∀ as F vs p, RepDs c F as vs ds → F p = some (.tup vs) → z.h c F as (.ref p)) ∧ P z M
theorem small_le {n : Nat} (h : n ≤ 100000) : n ≤ sizeLine := Nat.le_trans h (by decide)
theorem RepDs.length {F : Hp} {as : List Addr} {vs : List V} {ds : List Dy} (h : RepDs c F as vs ds) : vs.length = ds.length := Paired.length h
theorem we_tup {t : TA} (h : WA c t env M fun ds M1 => TupOk c ds P M1) : WE c (tTup t) env M P := fun as σ H Q s k =>
  h as σ H _ s fun vs as1 H1 ds M1 st1 m1 r1 p1 => by
    obtain ⟨z, hl, hz, p⟩ := p1
    exact ⟨small_le (by rw [r1.length]; exact hl), new_obj m1 (fun q F' hq e => hz as1 F' vs q (r1.mono e (List.prefix_refl _)) hq) (fun u as' w' z M' st m r p => k u as' w' z M' (st1.trans st) m r p) p⟩
theorem tup_pair {x : α} {y : β} (p : P (dy (x, y)) M) : TupOk c [dy x, dy y] P M := ⟨dy (x, y), by simp, fun as F vs q r hq => by
  obtain ⟨v, w, rfl, r1, r2⟩ := r.two
  exact ⟨q, v, w, rfl, sqt_of hq, r1, r2⟩, p⟩
theorem tup_three {x : α} {y : β} {z : γ} (p : P (dy (T3.mk x y z)) M) : TupOk c [dy x, dy y, dy z] P M := ⟨dy (T3.mk x y z), by simp, fun as F vs q r hq => by
  obtain ⟨v, w, u, rfl, r1, r2, r3⟩ := r.three
  exact ⟨q, v, w, u, rfl, sqt_of hq, r1, r2, r3⟩, p⟩
theorem repl_of {F : Hp} {as : List Addr} : ∀ {vs : List V} {xs : List α}, RepDs c F as vs (xs.map dy) → RepL c F as vs xs
  | _, [], .nil => .nil
  | _, x :: xs, .cons r t => .cons r (repl_of t)
theorem of_repl {F : Hp} {as : List Addr} : ∀ {vs : List V} {xs : List α}, RepL c F as vs xs → RepDs c F as vs (xs.map dy)
  | _, [], .nil => .nil
  | _, x :: xs, .cons r t => .cons r (of_repl t)
theorem tup_tp {ds : List Dy} (xs : List α) (e : ds = xs.map dy) (hl : xs.length ≤ 100000) (p : P (dy (Tp.mk xs)) M) : TupOk c ds P M := ⟨dy (Tp.mk xs), by rw [e, List.length_map]; exact hl, fun as F vs q r hq => ⟨q, vs, rfl, sqt_of hq, repl_of (e ▸ r)⟩, p⟩
theorem we_lst {t : TA} (h : WA c t env M fun ds M1 => ∃ xs : List α, ds = xs.map dy ∧ ds.length ≤ 100000 ∧ P (dy xs) M1) : WE c (tLst t) env M P := fun as σ H Q s k =>
  h as σ H _ s fun vs as1 H1 ds M1 st1 m1 r1 p1 => by
    obtain ⟨xs, rfl, hl, p⟩ := p1
    exact ⟨small_le (by rw [r1.length]; exact hl), new_obj (z := dy xs) m1 (fun q F' hq e => ⟨q, vs, rfl, sql_of hq, repl_of (r1.mono e (List.prefix_refl _))⟩) (fun u as' w' z M' st m r p => k u as' w' z M' (st1.trans st) m r p) p⟩
/-- a new list that will change -/
theorem we_lstC {t : TA} (h : WA c t env M fun ds M1 => ∃ xs : List α, ds = xs.map dy ∧ ds.length ≤ 100000 ∧ P (dy (MR.mk M1.length)) (M1 ++ [cLst xs])) : WE c (tLst t) env M P := fun as σ H Q s k =>
  h as σ H _ s fun vs as1 H1 ds M1 st1 m1 r1 p1 => by
    obtain ⟨xs, rfl, hl, p⟩ := p1
    refine ⟨small_le (by rw [r1.length]; exact hl), fun q hq => ?_⟩
    obtain ⟨st, m'⟩ := MemOk.newCell (o := .lst vs) (d := cLst xs) m1 hq ⟨vs, rfl, repl_of r1⟩
    exact k _ _ _ (dy (MR.mk M1.length)) _ (st1.trans st) m' ⟨q, by show (as1 ++ [q])[M1.length]? = some q; rw [m1.len]; simp, rfl⟩ p
end
end Zq
end
section
set_option Elab.async false
set_option linter.all false
set_option maxRecDepth 100000
/-! Statements, loops, comprehensions, defs over data and cells. -/
namespace Zq
open PySem PySem.Spec PyProof.Rows L2
open Rep (rep)
section
variable (c : Cc)
/-- a target of an assignment; ts: the slots that it may set -/
def WG (ts : List Nat) (g : TG) (x : Dy) (env : Env') (M : Mem) (nx : Env' → Mem → Prop) : Prop :=
  ∀ as σ w v (N : L2.St → Hp → Prop), Sta c env M as σ w → x.h c w.F as v →
    (∀ env' M' as' σ' w', Step as w as' w' → Sta c env' M' as' σ' w' → (∀ vs : List Nat, (∀ t ∈ ts, t ∈ vs) → wipe σ' vs = wipe σ vs) → nx env' M' → N σ' w'.H) → g v σ w.H N
/-- a statement; k: how many cells are the caller's -/
def WS (k : Nat) (ts : TS) (env : Env') (M : Mem) (nx : Env' → Mem → Prop) (rt : Dy → Mem → Prop) : Prop :=
  ∀ as σ w (D : Ends), Sta c env M as σ w →
    (∀ env' M' as' σ' w', Step as w as' w' → Sta c env' M' as' σ' w' → nx env' M' → D.nx σ' w'.H) →
    (∀ v as' w' (x : Dy) M', Step as w as' w' → MemOk c (as'.take k) w' M' → x.h c w'.F (as'.take k) v → rt x M' → D.rt v w'.H) → ts D σ w.H
end
theorem wipe_set {σ : L2.St} {i : Nat} {x : Option V} : ∀ {vs : List Nat}, i ∈ vs → wipe (σ.set i x) vs = wipe σ vs
  | [], h => by cases h
  | v :: vs, h => by
    show (wipe (σ.set i x) vs).set v none = (wipe σ vs).set v none
    by_cases hi : i ∈ vs
    · rw [wipe_set hi]
    · have : i = v := by
        rcases List.mem_cons.mp h with e | e
        · exact e
        · exact absurd e hi
      subst this
      apply List.ext_getElem?
      intro j
      rw [List.getElem?_set, List.getElem?_set, wipe_length, wipe_length, List.length_set]
      by_cases e : i = j
      · rw [if_pos e, if_pos e]
      · rw [if_neg e, if_neg e]
        have key : ∀ (vs : List Nat), (wipe (σ.set i x) vs)[j]? = (wipe σ vs)[j]? := by
          intro vs
          induction vs with
          | nil => show (σ.set i x)[j]? = σ[j]?; rw [List.getElem?_set, if_neg e]
          | cons w ws ih =>
            show ((wipe (σ.set i x) ws).set w none)[j]? = ((wipe σ ws).set w none)[j]?
            rw [List.getElem?_set, List.getElem?_set, wipe_length, wipe_length, List.length_set, ih]
        exact key vs
def wipeE (env : Env') : List Nat → Env'
  | [] => env
  | v :: vs => (wipeE env vs).set v none
theorem SlotsOk.wipe {c F as σ env} (h : SlotsOk c F as σ env) : ∀ vs : List Nat, SlotsOk c F as (L2.wipe σ vs) (wipeE env vs)
  | [] => h
  | v :: vs => by
    have ih := SlotsOk.wipe h vs
    refine ⟨by show ((L2.wipe σ vs).set v none).length = ((wipeE env vs).set v none).length; rw [List.length_set, List.length_set, ih.len], fun j d q => ?_⟩
    have q' : ((wipeE env vs).set v none)[j]? = some (some d) := q
    show ∃ w, ((L2.wipe σ vs).set v none)[j]? = some (some w) ∧ _
    rw [List.getElem?_set] at q'
    by_cases e : v = j
    · rw [if_pos e] at q'; split at q' <;> cases q'
    · rw [if_neg e] at q'
      obtain ⟨w, h1, h2⟩ := ih.at_ j d q'
      exact ⟨w, by rw [List.getElem?_set, if_neg e]; exact h1, h2⟩
section
variable {c : Cc} {env : Env'} {M : Mem} {α β γ : Type} [Rep α] [Rep β] [Rep γ] {ta tb te : TE} {k : Nat} {nx : Env' → Mem → Prop} {rt : Dy → Mem → Prop} {P : Dy → Mem → Prop}
/-! ### targets -/
theorem wg_name {i : Nat} {x : Dy} (p : nx (env.set i (some x)) M) : WG c [i] (gName i) x env M nx := fun as σ H v N s r q =>
  q _ M as _ H (.refl _ _) ⟨s.sl.set i r, s.me⟩ (fun vs h => wipe_set (h i (by simp))) p
theorem wg_tup2 {g1 g2 : TG} {t1 t2 : List Nat} {x : α × β} (h : WG c t1 g1 (dy x.1) env M fun e m => WG c t2 g2 (dy x.2) e m nx) : WG c (t1 ++ t2) (gTup c.K 2 (gCons g1 (gCons g2 gNil))) (dy x) env M nx := fun as σ H v N s r q => by
  obtain ⟨a, v1, v2, rfl, hs, r1, r2⟩ := r
  refine ⟨a, [v1, v2], rfl, sqT_mono s.me.ex hs, rfl, v1, [v2], rfl, ?_⟩
  refine h as σ H v1 _ s r1 fun e1 m1 as1 σ1 H1 st1 s1 w1 p1 => ⟨v2, [], rfl, ?_⟩
  refine p1 as1 σ1 H1 v2 _ s1 (Rep.mono st1.ex st1.pre r2) fun e2 m2 as2 σ2 H2 st2 s2 w2 p2 => ⟨rfl, ?_⟩
  exact q e2 m2 as2 σ2 H2 (st1.trans st2) s2 (fun vs hv => (w2 vs fun t ht => hv t (List.mem_append_right _ ht)).trans (w1 vs fun t ht => hv t (List.mem_append_left _ ht))) p2
theorem wg_tup3 {g1 g2 g3 : TG} {t1 t2 t3 : List Nat} {x : T3 α β γ} (h : WG c t1 g1 (dy x.a) env M fun e m => WG c t2 g2 (dy x.b) e m fun e m => WG c t3 g3 (dy x.c) e m nx) : WG c (t1 ++ (t2 ++ t3)) (gTup c.K 3 (gCons g1 (gCons g2 (gCons g3 gNil)))) (dy x) env M nx := fun as σ H v N s r q => by
  obtain ⟨a, v1, v2, v3, rfl, hs, r1, r2, r3⟩ := r
  refine ⟨a, [v1, v2, v3], rfl, sqT_mono s.me.ex hs, rfl, v1, [v2, v3], rfl, ?_⟩
  refine h as σ H v1 _ s r1 fun e1 m1 as1 σ1 H1 st1 s1 w1 p1 => ⟨v2, [v3], rfl, ?_⟩
  refine p1 as1 σ1 H1 v2 _ s1 (Rep.mono st1.ex st1.pre r2) fun e2 m2 as2 σ2 H2 st2 s2 w2 p2 => ⟨v3, [], rfl, ?_⟩
  refine p2 as2 σ2 H2 v3 _ s2 (Rep.mono (st1.trans st2).ex (st1.trans st2).pre r3) fun e3 m3 as3 σ3 H3 st3 s3 w3 p3 => ⟨rfl, ?_⟩
  exact q e3 m3 as3 σ3 H3 ((st1.trans st2).trans st3) s3 (fun vs hv => ((w3 vs fun t ht => hv t (by simp [ht])).trans (w2 vs fun t ht => hv t (by simp [ht]))).trans (w1 vs fun t ht => hv t (by simp [ht]))) p3
def okE (n : Nat) : Env' → Prop
  | [] => True
  | none :: e => okE n e
  | some d :: e => d.ok n ∧ okE n e
def okM (n : Nat) : Mem → Prop
  | [] => True
  | d :: e => d.ok n ∧ okM n e
theorem okE_at {n : Nat} : ∀ {e : Env'} {i : Nat} {d : Dy}, okE n e → e[i]? = some (some d) → d.ok n
  | [], _, _, _, h => by simp at h
  | none :: e, 0, d, h, q => by simp at q
  | some d' :: e, 0, d, h, q => by
    have : d' = d := by simpa using q
    subst this; exact h.1
  | none :: e, i + 1, d, h, q => okE_at (e := e) (i := i) h (by simpa using q)
  | some d' :: e, i + 1, d, h, q => okE_at (e := e) (i := i) h.2 (by simpa using q)
theorem okM_at {n : Nat} : ∀ {e : Mem} {i : Nat} {d : Cell}, okM n e → e[i]? = some d → d.ok n
  | [], _, _, _, h => by simp at h
  | d' :: e, 0, d, h, q => by
    have : d' = d := by simpa using q
    subst this; exact h.1
  | d' :: e, i + 1, d, h, q => okM_at (e := e) (i := i) h.2 (by simpa using q)
/-! ### statements -/
theorem WS.mono {ts : TS} {nx' : Env' → Mem → Prop} {rt' : Dy → Mem → Prop} (h : WS c k ts env M nx rt) (k1 : ∀ e m, nx e m → nx' e m) (k2 : ∀ x m, rt x m → rt' x m) : WS c k ts env M nx' rt' := fun as σ H D s q1 q2 =>
  h as σ H D s (fun e m as' σ' H' st s' p => q1 e m as' σ' H' st s' (k1 _ _ p)) fun v as' H' x m st mm r p => q2 v as' H' x m st mm r (k2 _ _ p)
theorem ws_frg {ts : TS} {env' : Env'} (f : Frg env env') (h : WS c k ts env' M nx rt) : WS c k ts env M nx rt := fun as σ H D s q1 q2 => h as σ H D ⟨s.sl.frg f, s.me⟩ q1 q2
theorem ws_next (p : nx env M) : WS c k tNext env M nx rt := fun as σ H D s q1 q2 => q1 env M as σ H (.refl _ _) s p
theorem ws_seq {t u : TS} (h : WS c k t env M (fun e m => WS c k u e m nx rt) rt) : WS c k (tSeq t u) env M nx rt := fun as σ H D s q1 q2 =>
  h as σ H { D with nx := u D } s (fun e m as' σ' H' st s' p => p as' σ' H' D s' (fun e2 m2 as2 σ2 H2 st2 s2 p2 => q1 e2 m2 as2 σ2 H2 (st.trans st2) s2 p2) fun v as2 H2 x m2 st2 mm2 r2 p2 => q2 v as2 H2 x m2 (st.trans st2) mm2 r2 p2) q2
theorem ws_asgG {g : TG} {ts : List Nat} (h : WE c te env M fun x m => WG c ts g x env m nx) : WS c k (tAsg te g) env M nx rt := fun as σ H D s q1 q2 =>
  h as σ H _ s fun v as1 H1 x m1 st1 mm1 r1 p1 => p1 as1 σ H1 v D.nx (s.step st1 mm1) r1 fun e2 m2 as2 σ2 H2 st2 s2 _ p2 => q1 e2 m2 as2 σ2 H2 (st1.trans st2) s2 p2
theorem ws_asg {i : Nat} (h : WE c te env M fun x m => nx (env.set i (some x)) m) : WS c k (tAsg te (gName i)) env M nx rt := ws_asgG (ts := [i]) (h.mono fun x m p => wg_name p)
theorem ws_drop (h : WE c te env M fun x m => nx env m) : WS c k (tDrop te) env M nx rt := fun as σ H D s q1 q2 =>
  h as σ H _ s fun v as1 H1 x m1 st1 mm1 r1 p1 => q1 env m1 as1 σ H1 st1 (s.step st1 mm1) p1
theorem MemOk.take {c as w M} (m : MemOk c as w M) (k : Nat) (hk : okM k (M.take k)) : MemOk c (as.take k) w (M.take k) := by
  refine ⟨(List.take_sublist _ _).nodup m.nd, by rw [List.length_take, List.length_take, m.len], m.ex, fun a h => m.dis a (List.mem_of_mem_take h), fun j d q => ?_⟩
  have hd := okM_at hk q
  rw [List.getElem?_take] at q
  split at q
  · rename_i hjk
    obtain ⟨a, o, h1, h2, h3⟩ := m.at_ j d q
    exact ⟨a, o, by rw [List.getElem?_take, if_pos hjk]; exact h1, h2, d.cut hd h3⟩
  · cases q
theorem ws_ret (h : WE c te env M fun x m => x.ok k ∧ okM k (m.take k) ∧ rt x (m.take k)) : WS c k (tRet te) env M nx rt := fun as σ H D s q1 q2 =>
  h as σ H _ s fun v as1 H1 x m1 st1 mm1 r1 p1 => q2 v as1 H1 x _ st1 (mm1.take k p1.2.1) (x.cut p1.1 r1) p1.2.2
/-- a list of this def's own, handed out -/
theorem ws_retC (h : WE c te env M (As MR fun x m => ∃ xs : List α, k ≤ x.k ∧ m[x.k]? = some (cLst xs) ∧ okL k xs ∧ okM k (m.take k) ∧ rt (dy xs) (m.take k))) : WS c k (tRet te) env M nx rt := fun as σ H D s q1 q2 =>
  h as σ H _ s fun v as1 H1 x m1 st1 mm1 r1 p1 => by
    obtain ⟨x, rfl, xs, hk, hm, hok, hok2, p⟩ := p1
    obtain ⟨a, o, ha, ho, vs, rfl, hr⟩ := mm1.at_ _ _ hm
    obtain ⟨a', ha', rfl⟩ := r1
    rw [ha] at ha'; cases ha'
    have hain : a ∈ as1 := List.mem_of_getElem? ha
    have hF : H1.F a = none := mm1.dis a hain
    have hnot : a ∉ as1.take k := fun z => by
      obtain ⟨j, hj, e⟩ := List.getElem_of_mem z
      rw [List.getElem_take] at e
      obtain ⟨l1, g1⟩ := List.getElem?_eq_some_iff.mp ha
      have hjk : j < k := by rw [List.length_take] at hj; omega
      have := (List.getElem_inj mm1.nd).mp (e.trans g1.symm)
      omega
    have ex : Ex H1.F (upd H1.F a (.lst vs)) := Evl.Ex.new hF
    have mk := mm1.take k hok2
    refine q2 _ as1 ⟨upd H1.F a (.lst vs), H1.H⟩ (dy xs) _ (st1.trans ⟨List.prefix_refl _, ex, fun b h h' => ?_, fun b h h' => absurd h h', fun b u h _ => h, fun b h => h⟩) ⟨mk.nd, mk.len, fun b u h => ?_, fun b h => ?_, fun j d q => ?_⟩ ⟨a, vs, rfl, sql_of upd_same, ?_⟩ p
    · by_cases z : b = a
      · rw [z]; exact .inr hain
      · dsimp only at h'; rw [upd_ne z] at h'; exact absurd h h'
    · dsimp only at h ⊢
      by_cases z : b = a
      · subst z; rw [upd_same] at h; cases h; exact ho
      · rw [upd_ne z] at h; exact mm1.ex b u h
    · dsimp only
      rw [upd_ne (fun z => hnot (by rw [← z]; exact h))]; exact mk.dis b h
    · obtain ⟨b, o', h1, h2, h3⟩ := mk.at_ j d q
      exact ⟨b, o', h1, h2, d.mono ex (List.prefix_refl _) h3⟩
    · exact RepL.mono ex (List.prefix_refl _) (RepL.cut hok hr)
theorem ws_retN (ok : okM k (M.take k)) (p : rt (dy ()) (M.take k)) : WS c k tRetN env M nx rt := fun as σ H D s q1 q2 => q2 .non as H (dy ()) _ (.refl _ _) (s.me.take k ok) rfl p
theorem ws_dead {t : TS} (h : False) : WS c k t env M nx rt := h.elim
theorem ws_if {t : TT} {tu tw : TS} (h : WT c t env M fun b m => (b = true → WS c k tu env m nx rt) ∧ (b = false → WS c k tw env m nx rt)) : WS c k (tIfS t tu tw) env M nx rt := fun as σ H D s q1 q2 =>
  h as σ H _ s fun b as1 H1 m1 st1 mm1 p1 => by
    cases b with
    | true =>
      show tu D σ H1.H
      exact p1.1 rfl as1 σ H1 D (s.step st1 mm1) (fun e2 m2 as2 σ2 H2 st2 s2 p2 => q1 e2 m2 as2 σ2 H2 (st1.trans st2) s2 p2) fun v as2 H2 x m2 st2 mm2 r2 p2 => q2 v as2 H2 x m2 (st1.trans st2) mm2 r2 p2
    | false =>
      show tw D σ H1.H
      exact p1.2 rfl as1 σ H1 D (s.step st1 mm1) (fun e2 m2 as2 σ2 H2 st2 s2 p2 => q1 e2 m2 as2 σ2 H2 (st1.trans st2) s2 p2) fun v as2 H2 x m2 st2 mm2 r2 p2 => q2 v as2 H2 x m2 (st1.trans st2) mm2 r2 p2
theorem ws_aug {i : Nat} {f : Int → Int → Int} {a : Int} (hx : env[i]? = some (some (dy a))) (h : WE c te env M (As Int fun b m => nx (env.set i (some (dy (f a b)))) m)) : WS c k (tAug i te (ipI f)) env M nx rt := fun as σ H D s q1 q2 => by
  obtain ⟨v, hv, hr⟩ := s.sl.at_ i _ hx
  have hr : v = .int a := hr
  subst hr
  refine ⟨_, hv, h as σ H _ s fun w as1 H1 b m1 st1 mm1 r1 p1 => ?_⟩
  obtain ⟨b, rfl, p1⟩ := p1
  have r1 : w = .int b := r1
  subst r1
  have s1 := s.step st1 mm1
  exact ⟨a, b, rfl, rfl, q1 _ m1 as1 _ H1 st1 ⟨s1.sl.set i (d := dy (f a b)) rfl, mm1⟩ p1⟩
/-! ### forgetting -/
/-- e, m tell all that e', m' tell; m' has n cells -/
structure Cut (n : Nat) (e : Env') (m : Mem) (e' : Env') (m' : Mem) : Prop where
  frg : Frg e e'
  oe : okE n e'
  om : okM n m'
  tk : m.take n = m'
theorem Sta.cut {c : Cc} {e m e' m' as σ w n} (s : Sta c e m as σ w) (u : Cut n e m e' m') : Sta c e' m' (as.take n) σ w := by
  refine ⟨⟨s.sl.len.trans u.frg.1, fun i d q => ?_⟩, ?_⟩
  · obtain ⟨v, h1, h2⟩ := s.sl.at_ i d (u.frg.2 i d q)
    exact ⟨v, h1, d.cut (okE_at u.oe q) h2⟩
  · have := s.me.take n (by rw [u.tk]; exact u.om)
    rw [u.tk] at this; exact this
theorem Step.cut {as w as' w' n} (st : Step as w as' w') (hn : as.length ≤ n) : Step as w (as'.take n) w' := by
  refine ⟨?_, st.ex, st.fr, fun a h h' => st.frA a (List.mem_of_mem_take h) h', st.keep, st.dom⟩
  obtain ⟨t, rfl⟩ := st.pre
  exact ⟨t.take (n - as.length), by rw [List.take_append]; rw [List.take_of_length_le hn]⟩
/-! ### what is walked -/
/-- J walks xs, whatever is done meanwhile -/
structure Walks (c : Cc) (J : It) (as : List Addr) (w : Hw) (xs : List Dy) : Prop where
  go : ∀ i as' w' M, Step as w as' w' → MemOk c as' w' M → i < xs.length → J.go i w'.H
  stop : ∀ i as' w' M, Step as w as' w' → MemOk c as' w' M → i = xs.length → J.stop i w'.H
  yld : ∀ i as' w' x v H2 M, Step as w as' w' → MemOk c as' w' M → xs[i]? = some x → J.yld i w'.H v H2 → ∃ F2, Step as' w' as' ⟨F2, H2⟩ ∧ MemOk c as' ⟨F2, H2⟩ M ∧ x.h c F2 as' v
def WI (c : Cc) (wi : TI) (env : Env') (M : Mem) (P : List Dy → Mem → Prop) : Prop :=
  ∀ as σ w (R : It → Hp → Prop), Sta c env M as σ w → (∀ J as' w' (xs : List Dy) M', Step as w as' w' → MemOk c as' w' M' → Walks c J as' w' xs → P xs M' → R J w'.H) → wi σ w.H R
theorem step_len {as w as' w'} (st : Step as w as' w') : as.length ≤ as'.length := st.pre.length_le
/-! ### for: S what the loop leads along, I what holds of it, E and Mm the names and cells -/
theorem ws_for {S : Type} {wi : TI} {g : TG} {tb : TS} {ts : List Nat} (I : List β → S → Prop) (E : S → Env') (Mm : S → Mem)
    (h : WI c wi env M fun ds M1 => ∃ xs : List β, ds = xs.map dy ∧ ∃ s0, I [] s0 ∧ Cut M1.length env M1 (E s0) (Mm s0) ∧
      (∀ pre y post s, xs = pre ++ y :: post → I pre s → WG c ts g (dy y) (E s) (Mm s) fun e m => WS c k tb e m (fun e' m' => ∃ s', I (pre ++ [y]) s' ∧ Cut M1.length e' m' (E s') (Mm s')) rt) ∧
      (∀ s, I xs s → nx (E s) (Mm s))) : WS c k (tFor wi g tb) env M nx rt := fun as σ w D s q1 q2 =>
  h as σ w _ s fun J as1 w1 ds M1 st1 mm1 wk p1 => by
    obtain ⟨xs, rfl, s0, i0, cut0, turn, fin⟩ := p1
    have hml : (xs.map (dy (α := β))).length = xs.length := List.length_map _
    have sa : Sta c env M1 as1 σ w1 := s.step st1 mm1
    have hn : as1.length = M1.length := mm1.len.symm
    have sc : Sta c (E s0) (Mm s0) (as1.take M1.length) σ w1 := sa.cut cut0
    have e1 : as1.take M1.length = as1 := by rw [← hn]; exact List.take_length
    rw [e1] at sc
    refine ⟨fun i m σ' H' => m = xs.length - i ∧ i ≤ xs.length ∧ ∃ as' F' s', Step as1 w1 as' ⟨F', H'⟩ ∧ as'.length = M1.length ∧ I (xs.take i) s' ∧ Sta c (E s') (Mm s') as' σ' ⟨F', H'⟩, ⟨xs.length, by simp, Nat.zero_le _, as1, w1.F, s0, .refl _ _, hn, by simpa using i0, sc⟩, ?_⟩
    rintro i m σ' H' ⟨rfl, hi, as', F', s', st, hl, hI, hS⟩
    by_cases hlt : i < xs.length
    · refine .inr ⟨wk.go i as' _ _ st hS.me (by rw [hml]; exact hlt), fun σ2 H2 => ∃ as2 F2 s2, Step as1 w1 as2 ⟨F2, H2⟩ ∧ as2.length = M1.length ∧ I (xs.take (i + 1)) s2 ∧ Sta c (E s2) (Mm s2) as2 σ2 ⟨F2, H2⟩, fun σ2 H2 ⟨as2, F2, s2, a1, a2, a3, a4⟩ => ⟨xs.length - (i + 1), by omega, rfl, hlt, as2, F2, s2, a1, a2, a3, a4⟩, fun v H2 hy => ?_⟩
      have hx : xs[i]? = some xs[i] := List.getElem?_eq_getElem hlt
      obtain ⟨F2, st2, mm2, rv⟩ := wk.yld i as' _ (dy xs[i]) v H2 _ st hS.me (by rw [List.getElem?_map, hx] <;> rfl) hy
      have hS2 : Sta c (E s') (Mm s') as' σ' ⟨F2, H2⟩ := hS.step st2 mm2
      have spl : xs = xs.take i ++ xs[i] :: xs.drop (i + 1) := by
        rw [← List.drop_eq_getElem_cons hlt, List.take_append_drop]
      have htk : xs.take i ++ [xs[i]] = xs.take (i + 1) := by rw [List.take_add_one, hx] <;> rfl
      refine turn (xs.take i) xs[i] (xs.drop (i + 1)) s' spl hI as' σ' ⟨F2, H2⟩ v _ hS2 rv fun e3 m3 as3 σ3 w3 st3 s3 _ p3 => ?_
      refine p3 as3 σ3 w3 _ s3 (fun e4 m4 as4 σ4 w4 st4 s4 p4 => ?_) fun v4 as4 w4 x m4 st4 mm4 r4 p4 => q2 v4 as4 w4 x m4 ((((st1.trans st).trans st2).trans st3).trans st4) mm4 r4 p4
      obtain ⟨s5, i5, u5⟩ := p4
      have stAll : Step as1 w1 as4 w4 := ((st.trans st2).trans st3).trans st4
      refine ⟨as4.take M1.length, w4.F, s5, stAll.cut (by omega), ?_, by rw [← htk]; exact i5, s4.cut u5⟩
      have := step_len stAll
      rw [List.length_take]; omega
    · have e : i = xs.length := by omega
      subst e
      rw [List.take_length] at hI
      exact .inl ⟨wk.stop _ as' _ _ st hS.me hml.symm, q1 _ _ as' σ' _ (st1.trans st) hS (fin s' hI)⟩
/-! ### while -/
theorem ws_while {S : Type} {tc : TT} {tb : TS} (I : S → Prop) (μ : S → Nat) (E : S → Env') (Mm : S → Mem) (s0 : S) (i0 : I s0) (cut0 : Cut M.length env M (E s0) (Mm s0))
    (turn : ∀ s, I s → WT c tc (E s) (Mm s) fun b m => (b = true → WS c k tb (E s) m (fun e' m' => ∃ s', I s' ∧ μ s' < μ s ∧ Cut M.length e' m' (E s') (Mm s')) rt) ∧ (b = false → nx (E s) m)) : WS c k (tWhile tc tb) env M nx rt := fun as σ w D s q1 q2 => by
  have hn : as.length = M.length := s.me.len.symm
  have sc : Sta c (E s0) (Mm s0) (as.take M.length) σ w := s.cut cut0
  have e1 : as.take M.length = as := by rw [← hn]; exact List.take_length
  rw [e1] at sc
  refine ⟨fun m σ' H' => ∃ as' F' s', m = μ s' ∧ Step as w as' ⟨F', H'⟩ ∧ as'.length = M.length ∧ I s' ∧ Sta c (E s') (Mm s') as' σ' ⟨F', H'⟩, ⟨μ s0, as, w.F, s0, rfl, .refl _ _, hn, i0, sc⟩, ?_⟩
  rintro m σ' H' ⟨as', F', s', rfl, st, hl, hI, hS⟩
  refine turn s' hI as' σ' _ _ hS fun b as2 w2 m2 st2 mm2 p2 => ?_
  cases b with
  | true =>
    rw [if_pos rfl]
    refine ⟨fun σ3 H3 => ∃ as3 F3 s3, μ s3 < μ s' ∧ Step as w as3 ⟨F3, H3⟩ ∧ as3.length = M.length ∧ I s3 ∧ Sta c (E s3) (Mm s3) as3 σ3 ⟨F3, H3⟩, fun σ3 H3 ⟨as3, F3, s3, a0, a1, a2, a3, a4⟩ => ⟨μ s3, a0, as3, F3, s3, rfl, a1, a2, a3, a4⟩, ?_⟩
    refine p2.1 rfl as2 σ' w2 _ (hS.step st2 mm2) (fun e4 m4 as4 σ4 w4 st4 s4 p4 => ?_) fun v4 as4 w4 x m4 st4 mm4 r4 p4 => q2 v4 as4 w4 x m4 ((st.trans st2).trans st4) mm4 r4 p4
    obtain ⟨s5, i5, l5, u5⟩ := p4
    have stAll : Step as w as4 w4 := (st.trans st2).trans st4
    refine ⟨as4.take M.length, w4.F, s5, l5, stAll.cut (by omega), ?_, i5, s4.cut u5⟩
    have := step_len stAll
    rw [List.length_take]; omega
  | false =>
    rw [if_neg Bool.false_ne_true]
    exact q1 _ _ as2 σ' w2 (st.trans st2) (hS.step st2 mm2) (p2.2 rfl)
/-! ### comprehensions -/
theorem Step.unhide {as w as' w' D} (st : Step (as ++ [D]) w as' w') (hl : as'.length = as.length + 1) : as' = as ++ [D] := by
  obtain ⟨t, rfl⟩ := st.pre
  have : t.length = 0 := by
    simp only [List.length_append, List.length_cons, List.length_nil] at hl; omega
  rw [List.length_eq_zero_iff.mp this]; simp
theorem wipe_none {σ : L2.St} {t : Nat} : ∀ {vs : List Nat}, t ∈ vs → ∀ y, (wipe σ vs)[t]? = some y → y = none
  | [], h', _, _ => by cases h'
  | w :: ws, h', y', q' => by
    have q' : ((wipe σ ws).set w none)[t]? = some y' := q'
    rw [List.getElem?_set] at q'
    by_cases e : w = t
    · rw [if_pos e] at q'; split at q'
      · cases q'; rfl
      · cases q'
    · rw [if_neg e] at q'
      rcases List.mem_cons.mp h' with z | z
      · exact absurd z.symm e
      · exact wipe_none z y' q'
theorem wipe_idem {σ : L2.St} : ∀ (ws : List Nat), (∀ t ∈ ws, ∀ y, σ[t]? = some y → y = none) → wipe σ ws = σ
  | [], _ => rfl
  | w :: ws, ht => by
    show (wipe σ ws).set w none = σ
    rw [wipe_idem ws fun t h' y q => ht t (List.mem_cons_of_mem _ h') y q]
    apply List.ext_getElem?
    intro j
    rw [List.getElem?_set]
    by_cases e : w = j
    · subst e
      rw [if_pos rfl]
      split
      · rename_i hl'
        rw [List.getElem?_eq_getElem hl', ht w (by simp) _ (List.getElem?_eq_getElem hl')]
      · rename_i hl'
        rw [List.getElem?_eq_none (by omega)]
    · rw [if_neg e]
/-- what a comprehension is asked -/
def LcAsk (c : Cc) (env : Env') {S β γ : Type} [Rep β] [Rep γ] (g : TG) (tt : TT) (te : TE) (vs ts : List Nat) (I : List β → S → List γ → Prop) (Mm : S → Mem) (xs : List β) (M1 : Mem) : Prop :=
  ∀ pre y post s acc, xs = pre ++ y :: post → I pre s acc → (Mm s).length = M1.length ∧ WG c ts g (dy y) (wipeE env vs) (Mm s ++ [cLst acc]) fun e m => WT c tt e m fun b m1 =>
    (b = true → WE c te e m1 (As γ fun z m2 => acc.length < 100000 ∧ ∃ s', I (pre ++ [y]) s' (acc ++ [z]) ∧ m2 = Mm s' ++ [cLst acc])) ∧ (b = false → ∃ s', I (pre ++ [y]) s' acc ∧ m1 = Mm s' ++ [cLst acc])
theorem lc_core {S : Type} {wi : TI} {g : TG} {tt : TT} {te : TE} {vs : List Nat} {ts : List Nat} {Q : VK} {as : List Addr} {σ : L2.St} {w : Hw} (I : List β → S → List γ → Prop) (Mm : S → Mem) (hts : ∀ t ∈ ts, t ∈ vs) (s : Sta c env M as σ w)
    (h : WI c wi env M fun ds M1 => ∃ xs : List β, ds = xs.map dy ∧ ∃ s0, I [] s0 [] ∧ M1 = Mm s0 ∧ LcAsk c env g tt te vs ts I Mm xs M1 ∧
      (∀ s acc, I xs s acc → (Mm s).length = M1.length ∧ ∀ as2 w2 D, Step as w (as2 ++ [D]) w2 → MemOk c (as2 ++ [D]) w2 (Mm s ++ [cLst acc]) → Q (.ref D) w2.H)) : tLc wi g tt te vs σ w.H Q :=
  h as σ w _ s fun J as1 w1 ds M1 st1 mm1 wk p1 D hD => by
    obtain ⟨xs, rfl, s0, i0, rfl, turn, fin⟩ := p1
    have hml : (xs.map (dy (α := β))).length = xs.length := List.length_map _
    have sa := s.step st1 mm1
    obtain ⟨stD, mmD⟩ := MemOk.newCell (d := cLst ([] : List γ)) (o := .lst []) mm1 hD ⟨[], rfl, .nil⟩
    have hn : as1.length = (Mm s0).length := mm1.len.symm
    have hlen : ∀ i s6 acc, i ≤ xs.length → I (xs.take i) s6 acc → (Mm s6).length = (Mm s0).length := fun i s6 acc hi h6 => by
      by_cases h7 : i < xs.length
      · exact (turn (xs.take i) xs[i] (xs.drop (i + 1)) s6 _ (by rw [← List.drop_eq_getElem_cons h7, List.take_append_drop]) h6).1
      · have : xs.take i = xs := List.take_of_length_le (by omega)
        rw [this] at h6
        exact (fin s6 _ h6).1
    refine ⟨fun i m H' => m = xs.length - i ∧ i ≤ xs.length ∧ ∃ F' s' acc, Step (as1 ++ [D]) ⟨w1.F, upd w1.H D (.lst [])⟩ (as1 ++ [D]) ⟨F', H'⟩ ∧ I (xs.take i) s' acc ∧ MemOk c (as1 ++ [D]) ⟨F', H'⟩ (Mm s' ++ [cLst acc]), ⟨xs.length, by simp, Nat.zero_le _, w1.F, s0, [], .refl _ _, by simpa using i0, mmD⟩, ?_⟩
    rintro i m H' ⟨rfl, hi, F', s', acc, st, hI, hM⟩
    have stJ : Step as1 w1 (as1 ++ [D]) ⟨F', H'⟩ := stD.trans st
    by_cases hlt : i < xs.length
    · refine .inr ⟨wk.go i _ _ _ stJ hM (by rw [hml]; exact hlt), fun H2 => ∃ F2 s2 acc2, Step (as1 ++ [D]) ⟨w1.F, upd w1.H D (.lst [])⟩ (as1 ++ [D]) ⟨F2, H2⟩ ∧ I (xs.take (i + 1)) s2 acc2 ∧ MemOk c (as1 ++ [D]) ⟨F2, H2⟩ (Mm s2 ++ [cLst acc2]), fun H2 ⟨F2, s2, acc2, a1, a3, a4⟩ => ⟨xs.length - (i + 1), by omega, rfl, hlt, F2, s2, acc2, a1, a3, a4⟩, fun v H2 hy => ?_⟩
      have hx : xs[i]? = some xs[i] := List.getElem?_eq_getElem hlt
      obtain ⟨F2, st2, mm2, rv⟩ := wk.yld i _ _ (dy xs[i]) v H2 _ stJ hM (by rw [List.getElem?_map, hx] <;> rfl) hy
      have spl : xs = xs.take i ++ xs[i] :: xs.drop (i + 1) := by
        rw [← List.drop_eq_getElem_cons hlt, List.take_append_drop]
      have htk : xs.take i ++ [xs[i]] = xs.take (i + 1) := by rw [List.take_add_one, hx] <;> rfl
      obtain ⟨hle, tr⟩ := turn (xs.take i) xs[i] (xs.drop (i + 1)) s' acc spl hI
      have hS2 : Sta c (wipeE env vs) (Mm s' ++ [cLst acc]) (as1 ++ [D]) (wipe σ vs) ⟨F2, H2⟩ := ⟨(sa.sl.step (stJ.trans st2)).wipe vs, mm2⟩
      refine tr (as1 ++ [D]) (wipe σ vs) ⟨F2, H2⟩ v _ hS2 rv fun e3 m3 as3 σ3 w3 st3 s3 z3 p3 => ?_
      refine ⟨(z3 vs hts).trans (wipe_idem vs fun t ht y q => wipe_none ht y q), ?_⟩
      refine p3 as3 σ3 w3 _ s3 fun b as4 w4 m4 st4 mm4 p4 => ?_
      have stA : Step (as1 ++ [D]) ⟨w1.F, upd w1.H D (.lst [])⟩ as4 w4 := (((st.trans st2).trans st3).trans st4)
      cases b with
      | true =>
        rw [if_pos rfl]
        refine p4.1 rfl as4 σ3 w4 _ (s3.step st4 mm4) fun v5 as5 w5 z m5 st5 mm5 r5 p5 => ?_
        obtain ⟨z, rfl, hsz, s6, i6, rfl⟩ := p5
        rw [htk] at i6
        have stB : Step (as1 ++ [D]) ⟨w1.F, upd w1.H D (.lst [])⟩ as5 w5 := stA.trans st5
        have h6 := hlen (i + 1) s6 _ hlt i6
        have has5 : as5 = as1 ++ [D] := by
          refine Step.unhide stB ?_
          rw [← mm5.len, List.length_append, h6, hn]; rfl
        subst has5
        have hkD : (as1 ++ [D])[(Mm s6).length]? = some D := by
          rw [h6, ← hn]; simp
        obtain ⟨a, o, ha, ho, ws, rfl, hr⟩ := mm5.at_ (Mm s6).length (cLst acc) (by simp)
        rw [hkD] at ha; cases ha
        refine ⟨ws, ho, Nat.lt_of_lt_of_le (by rw [hr.length]; exact hsz) (by decide : 100000 ≤ sizeLine), ?_⟩
        obtain ⟨stP, mmP⟩ := MemOk.put (d := cLst (acc ++ [z])) (o := .lst (ws ++ [v5])) mm5 hkD ⟨_, rfl, hr.append (.cons r5 .nil)⟩
        have e9 : (Mm s6 ++ [cLst acc]).set (Mm s6).length (cLst (acc ++ [z])) = Mm s6 ++ [cLst (acc ++ [z])] := by
          rw [List.set_append_right _ _ (Nat.le_refl _)]; simp
        rw [e9] at mmP
        exact ⟨w5.F, s6, acc ++ [z], stB.trans stP, i6, mmP⟩
      | false =>
        rw [if_neg Bool.false_ne_true]
        obtain ⟨s6, i6, rfl⟩ := p4.2 rfl
        rw [htk] at i6
        have h6 := hlen (i + 1) s6 _ hlt i6
        have has4 : as4 = as1 ++ [D] := by
          refine Step.unhide stA ?_
          rw [← mm4.len, List.length_append, h6, hn]; rfl
        subst has4
        exact ⟨w4.F, s6, acc, stA, i6, mm4⟩
    · have e : i = xs.length := by omega
      subst e
      rw [List.take_length] at hI
      exact .inl ⟨wk.stop _ _ _ _ stJ hM hml.symm, (fin s' acc hI).2 as1 ⟨F', H'⟩ D (st1.trans stJ) hM⟩
/-- the last cell's list, as data -/
theorem last_data {c : Cc} {as : List Addr} {D : Addr} {w : Hw} {Ms : Mem} {acc : List γ} {as0 : List Addr} {w0 : Hw} (st : Step as0 w0 (as ++ [D]) w) (h0 : as0.length ≤ as.length) (m : MemOk c (as ++ [D]) w (Ms ++ [cLst acc])) (ok : okL Ms.length acc) (okm : okM Ms.length Ms) :
    ∃ F', Step as0 w0 as ⟨F', w.H⟩ ∧ MemOk c as ⟨F', w.H⟩ Ms ∧ rep c F' as (.ref D) acc := by
  have hl : Ms.length = as.length := by
    have := m.len
    simp only [List.length_append, List.length_cons, List.length_nil] at this
    omega
  have e1 : (as ++ [D]).take as.length = as := by simp
  have e2 : (Ms ++ [cLst acc]).take Ms.length = Ms := by simp
  have st' := st.cut (n := as.length) h0
  rw [e1] at st'
  obtain ⟨a, o, ha, ho, ws, rfl, hr⟩ := m.at_ Ms.length (cLst acc) (by simp)
  have hD : a = D := by
    rw [hl] at ha; simpa using ha.symm
  subst hD
  have mk := m.take Ms.length (by rw [e2]; exact okm)
  rw [e2, hl, e1] at mk
  obtain ⟨F, H⟩ := w
  obtain ⟨ex, exH, hnot⟩ := MemOk.freeze m ho
  have hF : F a = none := m.dis a (by simp)
  have hnew : w0.H a = none := st.frA a (by simp) fun z => hnot (by
    obtain ⟨t, e⟩ := st'.pre
    rw [← e]; exact List.mem_append_left _ z)
  refine ⟨upd F a (.lst ws), ⟨st'.pre, st'.ex.trans ex, fun b h h' => ?_, st'.frA, st'.keep, st'.dom⟩, ⟨mk.nd, mk.len, exH, fun b hb => ?_, fun j d q => ?_⟩, a, ws, rfl, sql_of upd_same, ?_⟩
  · by_cases z : b = a
    · rw [z]; exact .inl hnew
    · dsimp only at h'; rw [upd_ne z] at h'; exact st'.fr b h h'
  · dsimp only
    rw [upd_ne (fun z => hnot (by rw [← z]; exact hb))]; exact mk.dis b hb
  · obtain ⟨b, o', h1, h2, h3⟩ := mk.at_ j d q
    exact ⟨b, o', h1, h2, d.mono ex (List.prefix_refl _) h3⟩
  · have h4 := RepL.cut (k := as.length) (hl ▸ ok) hr
    rw [e1] at h4
    exact RepL.mono ex (List.prefix_refl _) h4
theorem we_lc {S : Type} {wi : TI} {g : TG} {tt : TT} {te : TE} {vs ts : List Nat} (I : List β → S → List γ → Prop) (Mm : S → Mem) (hts : ∀ t ∈ ts, t ∈ vs)
    (h : WI c wi env M fun ds M1 => ∃ xs : List β, ds = xs.map dy ∧ ∃ s0, I [] s0 [] ∧ M1 = Mm s0 ∧ LcAsk c env g tt te vs ts I Mm xs M1 ∧
      (∀ s acc, I xs s acc → (Mm s).length = M1.length ∧ okL M1.length acc ∧ okM M1.length (Mm s) ∧ P (dy acc) (Mm s))) : WE c (tLc wi g tt te vs) env M P := fun as σ w Q s q =>
  lc_core I Mm hts s fun as1 σ1 w1 R s1 kk => h as1 σ1 w1 R s1 fun J as2 w2 ds M1 st2 mm2 wk p => kk J as2 w2 ds M1 st2 mm2 wk (by
    obtain ⟨xs, eds, s0, i0, e0, turn, fin⟩ := p
    refine ⟨xs, eds, s0, i0, e0, turn, fun s' acc hI => ⟨(fin s' acc hI).1, fun as3 w3 D st3 mm3 => ?_⟩⟩
    obtain ⟨f1, f2, f3, f4⟩ := fin s' acc hI
    have hlen : as.length ≤ as3.length := by
      have h1 := mm3.len
      have h2 := mm2.len
      have h4 := step_len st2
      have h5 := s.me.len
      have h6 := s1.me.len
      simp only [List.length_append, List.length_cons, List.length_nil] at h1
      omega
    obtain ⟨F4, st4, mm4, r4⟩ := last_data st3 hlen mm3 (f1 ▸ f2) (f1 ▸ f3)
    exact q _ as3 ⟨F4, w3.H⟩ (dy acc) _ st4 mm4 r4 f4)
/-- the same, the list to change later -/
theorem we_lcC {S : Type} {wi : TI} {g : TG} {tt : TT} {te : TE} {vs ts : List Nat} (I : List β → S → List γ → Prop) (Mm : S → Mem) (hts : ∀ t ∈ ts, t ∈ vs)
    (h : WI c wi env M fun ds M1 => ∃ xs : List β, ds = xs.map dy ∧ ∃ s0, I [] s0 [] ∧ M1 = Mm s0 ∧ LcAsk c env g tt te vs ts I Mm xs M1 ∧
      (∀ s acc, I xs s acc → (Mm s).length = M1.length ∧ P (dy (MR.mk M1.length)) (Mm s ++ [cLst acc]))) : WE c (tLc wi g tt te vs) env M P := fun as σ w Q s q =>
  lc_core I Mm hts s fun as1 σ1 w1 R s1 kk => h as1 σ1 w1 R s1 fun J as2 w2 ds M1 st2 mm2 wk p => kk J as2 w2 ds M1 st2 mm2 wk (by
    obtain ⟨xs, eds, s0, i0, e0, turn, fin⟩ := p
    refine ⟨xs, eds, s0, i0, e0, turn, fun s' acc hI => ⟨(fin s' acc hI).1, fun as3 w3 D st3 mm3 => ?_⟩⟩
    obtain ⟨f1, f4⟩ := fin s' acc hI
    refine q _ (as3 ++ [D]) w3 (dy (MR.mk M1.length)) _ st3 mm3 ⟨D, ?_, rfl⟩ f4
    have h1 := mm3.len
    simp only [List.length_append, List.length_cons, List.length_nil] at h1
    have : M1.length = as3.length := by omega
    show (as3 ++ [D])[M1.length]? = some D
    rw [this]; simp)
/-! ### defs -/
abbrev ASp := List Dy → Mem → (Dy → Mem → Prop) → Prop
/-- the promise of a def of n arguments whose callers hand it k cells -/
def spOf (c : Cc) (n : Nat) (k : Nat) (S : ASp) : Sp := fun vs H Q _ => ∃ as F ds M P, as.length = k ∧ ds.length = n ∧ MemOk c as ⟨F, H⟩ M ∧ RepDs c F as vs ds ∧ S ds M P ∧
  ∀ v w' (x : Dy) M', Step as ⟨F, H⟩ as w' → MemOk c as w' M' → x.h c w'.F as v → P x M' → Q v w'.H
def okDs (k : Nat) : List Dy → Prop
  | [] => True
  | d :: ds => d.ok k ∧ okDs k ds
theorem RepDs.cut {F : Hp} {as : List Addr} {k : Nat} : ∀ {vs : List V} {ds : List Dy}, okDs k ds → RepDs c F as vs ds → RepDs c F (as.take k) vs ds
  | _, _, _, .nil => .nil
  | _, d :: _, h, .cons r t => .cons (d.cut h.1 r) (RepDs.cut h.2 t)
theorem we_call {n : Nat} {S : ASp} {E : XK} {t : TA} (h : WA c t env M fun ds M1 => ds.length = n ∧ k ≤ M1.length ∧ okDs k ds ∧ okM k (M1.take k) ∧ S ds (M1.take k) fun x M' => P x (M' ++ M1.drop k)) : WE c (tCall (spOf c n k S) [] E t) env M P := fun as σ w Q s q =>
  h as σ w _ s fun vs as1 w1 ds M1 st1 mm1 r1 p1 => by
    obtain ⟨hn, hk, ho, hm, hS⟩ := p1
    rw [List.append_nil]
    have hl := mm1.len
    have spl : as1.take k ++ as1.drop k = as1 := List.take_append_drop k as1
    have nd := mm1.nd
    rw [← spl, List.nodup_append] at nd
    refine ⟨as1.take k, w1.F, ds, M1.take k, _, by rw [List.length_take]; omega, hn, mm1.take k hm, RepDs.cut ho r1, hS, fun v w2 x M2 st2 mm2 r2 p2 => ?_⟩
    have hlk : M2.length = k := by rw [mm2.len, List.length_take]; omega
    have pre : as1.take k <+: as1 := List.take_prefix _ _
    have hd : ∀ a ∈ as1.drop k, w1.H a ≠ none ∧ a ∉ as1.take k ∧ w1.F a = none := fun a ha =>
      ⟨MemOk.isSome (F := w1.F) (H := w1.H) mm1 (List.mem_of_mem_drop ha), fun z => nd.2.2 a z a ha rfl, mm1.dis a (List.mem_of_mem_drop ha)⟩
    have mm3 : MemOk c as1 w2 (M2 ++ M1.drop k) := by
      refine ⟨mm1.nd, by rw [List.length_append, List.length_drop, hlk]; omega, mm2.ex, fun a ha => ?_, fun j d q' => ?_⟩
      · rw [← spl] at ha
        rcases List.mem_append.mp ha with z | z
        · exact mm2.dis a z
        · obtain ⟨h1, h2, h3⟩ := hd a z
          by_cases e : w2.F a = none
          · exact e
          · rcases st2.fr a h3 e with y | y
            · exact absurd y h1
            · exact absurd y h2
      · by_cases hj : j < M2.length
        · rw [List.getElem?_append_left hj] at q'
          obtain ⟨a, o, h1, h2, h3⟩ := mm2.at_ j d q'
          have h1' : as1[j]? = some a := by
            rw [List.getElem?_take] at h1; split at h1
            · exact h1
            · cases h1
          exact ⟨a, o, h1', h2, d.mono (Evl.Ex.refl _) pre h3⟩
        · rw [List.getElem?_append_right (by omega), List.getElem?_drop] at q'
          have e : k + (j - M2.length) = j := by omega
          rw [e] at q'
          obtain ⟨a, o, h1, h2, h3⟩ := mm1.at_ j d q'
          have hin : a ∈ as1.drop k := List.mem_of_getElem? (i := j - k) (by
            rw [List.getElem?_drop]
            have : k + (j - k) = j := by omega
            rw [this]; exact h1)
          exact ⟨a, o, h1, st2.keep a o h2 (hd a hin).2.1, d.mono st2.ex (List.prefix_refl _) h3⟩
    have st3 : Step as1 w1 as1 w2 := ⟨List.prefix_refl _, st2.ex, fun a h h' => (st2.fr a h h').imp id fun z => List.mem_of_mem_take z, fun a h h' => absurd h h', fun a o h h' => st2.keep a o h fun z => h' (List.mem_of_mem_take z), st2.dom⟩
    exact q v as1 w2 x _ (st1.trans st3) mm3 (x.mono (Evl.Ex.refl _) pre r2) p2
/-- the names at a def's entry -/
def envOf (N : Nat) (ds : List Dy) : Env' := ds.map some ++ List.replicate (N - ds.length) none
theorem slots_start {F : Hp} {as : List Addr} {N : List Str} {vs : List V} {ds : List Dy} (h : RepDs c F as vs ds) (hn : ds.length ≤ N.length) : SlotsOk c F as (L2.start N vs) (envOf N.length ds) := by
  have hl : vs.length = ds.length := Paired.length h
  have at_ : ∀ {vs : List V} {ds : List Dy}, RepDs c F as vs ds → ∀ (i : Nat) (d : Dy), ds[i]? = some d → ∃ v, vs[i]? = some v ∧ d.h c F as v := by
    intro vs ds h
    induction h with
    | nil => intro i d q; simp at q
    | cons r t ih =>
      intro i d q
      cases i with
      | zero =>
        simp at q; subst q
        exact ⟨_, rfl, r⟩
      | succ i =>
        obtain ⟨v, h1, h2⟩ := ih i d (by simpa using q)
        exact ⟨v, by simpa using h1, h2⟩
  refine ⟨by simp [L2.start, envOf, hl], fun i d q => ?_⟩
  unfold envOf at q
  by_cases hi : i < ds.length
  · rw [List.getElem?_append_left (by rw [List.length_map]; exact hi), List.getElem?_map] at q
    have q' : ds[i]? = some d := by
      cases e : ds[i]? with
      | none => rw [e] at q; cases q
      | some d' => rw [e] at q; cases q; rfl
    obtain ⟨v, h1, h2⟩ := at_ h i d q'
    refine ⟨v, ?_, h2⟩
    unfold L2.start
    rw [List.getElem?_append_left (by rw [List.length_map, hl]; exact hi), List.getElem?_map, h1] <;> rfl
  · rw [List.getElem?_append_right (by rw [List.length_map]; omega), List.getElem?_replicate] at q
    split at q <;> cases q
/-- a def's body keeps the promise -/
theorem body_ok {n : Nat} {S : ASp} {t : TS} {N : List Str} {vs : List V} {H : Hp} {Q : VK} {E : XK} (h : spOf c n k S vs H Q E) (hN : n ≤ N.length)
    (b : ∀ ds M P, ds.length = n → M.length = k → S ds M P → WS c k t (envOf N.length ds) M (fun _ _ => False) P) : t { nx := fun _ H' => Q .non H', rt := Q } (L2.start N vs) H := by
  obtain ⟨as, F, ds, M, P, hk, hn, mm, rd, hS, fin⟩ := h
  refine b ds M P hn (mm.len.trans hk) hS as _ ⟨F, H⟩ _ ⟨slots_start rd (by omega), mm⟩ (fun e m as' σ' w' st s' f => f.elim) fun v as' w' x M' st mm' r p => ?_
  have e : as'.take k = as := by
    obtain ⟨t, rfl⟩ := st.pre
    rw [← hk]; simp
  rw [e] at mm' r
  refine fin v w' x M' ⟨List.prefix_refl _, st.ex, st.fr, fun a h h' => absurd h h', st.keep, st.dom⟩ mm' r p
/-- one that hands back None at its end -/
theorem body_okN {n : Nat} {S : ASp} {t : TS} {N : List Str} {vs : List V} {H : Hp} {Q : VK} {E : XK} (h : spOf c n k S vs H Q E) (hN : n ≤ N.length)
    (b : ∀ ds M P, ds.length = n → M.length = k → S ds M P → WS c k t (envOf N.length ds) M (fun _ m => okM k (m.take k) ∧ P (dy ()) (m.take k)) P) : t { nx := fun _ H' => Q .non H', rt := Q } (L2.start N vs) H := by
  obtain ⟨as, F, ds, M, P, hk, hn, mm, rd, hS, fin⟩ := h
  have key : ∀ {as' : List Addr} {w' : Hw}, Step as ⟨F, H⟩ as' w' → as'.take k = as ∧ Step as ⟨F, H⟩ as w' := fun {as' w'} st => by
    obtain ⟨t, rfl⟩ := st.pre
    exact ⟨by rw [← hk]; simp, ⟨List.prefix_refl _, st.ex, st.fr, fun a h h' => absurd h h', st.keep, st.dom⟩⟩
  refine b ds M P hn (mm.len.trans hk) hS as _ ⟨F, H⟩ _ ⟨slots_start rd (by omega), mm⟩ (fun e m as' σ' w' st s' f => ?_) fun v as' w' x M' st mm' r p => ?_
  · obtain ⟨e, st'⟩ := key st
    have m2 := s'.me.take k f.1
    rw [e] at m2
    exact fin .non w' (dy ()) _ st' m2 rfl f.2
  · obtain ⟨e, st'⟩ := key st
    rw [e] at mm' r
    exact fin v w' x M' st' mm' r p
end
end Zq
end
section
set_option Elab.async false
set_option linter.all false
set_option maxRecDepth 100000
/-! enumerate of a tuple. -/
namespace Zr
open PySem PySem.Spec PyProof.Rows L2
/-- the tuple at a, each item in a new pair with its number -/
def ItE (K : PySem.W.Frag) (a : Addr) : It where
  go i H := ∃ (xs : List V) (x : V), SqT K H a xs ∧ xs[i]? = some x
  yld i H v H' := ∃ T x, v = .ref T ∧ H T = none ∧ H' = upd H T (.tup [.int (i : Nat), x]) ∧ ∀ xs, SqT K H a xs → xs[i]? = some x
  stop i H := ∃ xs : List V, SqT K H a xs ∧ i = xs.length
abbrev enumObj (it : Addr) : Obj := { cls := .type "enumerate", data := .fields #[.none, .bool false, .ref it, rawInt 0, .none, .none] }
set_option maxHeartbeats 1000000 in
theorem enum_new1 {v : Value} {o : Obj} {G : Heap → Prop} (B : Begins v o G) :
    Meets (Builtin.«enumerate.__new__» ⟨[.type "enumerate", v], []⟩)
      (fun _ R s => G s.heap ∧ R (.ok (.ret (.ref (s.heap.push o).objs.size))) { s with heap := (s.heap.push o).push (enumObj s.heap.objs.size) }) := by
  refine .of_wp fun P w A R s hh => ?_
  obtain ⟨h0, g0, d0, t0, os0⟩ := s
  obtain ⟨hG, hR⟩ := hh
  have z0 := sub_enumerate
  have it0 : ∀ {A' : Around} {E : Value → Shared → Prop} {Q : Value → Shared → Prop},
      Q (.ref h0.objs.size) ⟨h0.push o, g0, d0, t0, os0⟩ → wpAny (model P w) A' (pyIter v) Q E ⟨h0, g0, d0, t0, os0⟩ := by
    intro A' E Q hq
    exact B.iter P w A' E ⟨h0, g0, d0, t0, os0⟩ Q hG hq
  wp_walk using it0
  refine wpAny_stack_any (fun st => ?_)
  refine wpAny_pure ?_
  split
  · rename_i cl _ _ _ _ _
    cases (cl == Value.type "enumerate") <;>
      (wp_walk using it0; exact ⟨_, rfl, hR⟩)
  · wp_walk using it0
    exact ⟨_, rfl, hR⟩
theorem enum_call1 {P : Program} {w : World} {A : Around} {E : Value → Shared → Prop} {s : Shared} {v : Value} {o : Obj} {G : Heap → Prop} {Q : Value → Shared → Prop}
    (B : Begins v o G) (hG : G s.heap)
    (h : ∀ h2, IsEnum h2 (s.heap.objs.size + 1) s.heap.objs.size 0 .none → h2.get? s.heap.objs.size = some o →
      (∀ b u, s.heap.get? b = some u → h2.get? b = some u) → Q (.ref (s.heap.objs.size + 1)) { s with heap := h2 }) :
    wpAny (model P w) A (call (.type "enumerate") [v]) Q E s := by
  have zp : (s.heap.push o).objs.size = s.heap.objs.size + 1 := Heap.size_push ..
  refine callType_new F.called_enumerate (by decide) (F.typeCall_enumerate_1 v) (F.newCall_enumerate_1 v)
    (fun ob => F.args_object_init_2 ob v) F.entry_enumerate_new (enum_new1 B) ⟨hG, ?_⟩
  show Shared.TypeIs _ _ _ ∧ _
  rw [zp]
  have e1 := Heap.get?_push_size (s.heap.push o)
    (o := enumObj s.heap.objs.size) rfl
  rw [zp] at e1
  exact ⟨⟨_, e1, rfl⟩, h _ e1 (Heap.get?_push_of_some _ (Heap.get?_push_size _ B.free)) fun b u q =>
    Heap.get?_push_of_some _ (Heap.get?_push_of_some _ q)⟩
/-- the turns -/
theorem turn_enumT {P : Program} {w : World} {K : PySem.W.Frag} {elts : List Expr} {kk : Nat} {tpos : Pos} (a e it : Addr) :
    Turn P w K (.Tuple elts kk tpos) (ItE K a) [e, it] e
      (fun i h => (∃ old, IsEnum h e it ((i : Nat) : Int) old) ∧ h.IsTupleIter it a i ∧ e ≠ it ∧ a ≠ it ∧ a ≠ e) := by
  constructor
  case mem => exact List.mem_cons_self
  case obj =>
    rintro i h ⟨⟨old, he⟩, ⟨o, ho, hc, hd⟩, _⟩ b hb
    simp only [List.mem_cons, List.not_mem_nil, or_false] at hb
    rcases hb with rfl | rfl
    · exact ⟨_, he, fun v q => nomatch q⟩
    · exact ⟨o, ho, fun v q => by rw [hd] at q; cases q⟩
  case keep =>
    rintro i h h2 ⟨⟨old, he⟩, hi, hne⟩ k
    exact ⟨⟨old, k e (by simp) _ he⟩, hi.at fun o q => k it (by simp) o q, hne⟩
  case item =>
    intro X hP hw hK hc i pins s σ H E I hf st hg
    subst hP hw hK
    obtain ⟨⟨old, he⟩, hit, hne, hai, hae⟩ := st
    obtain ⟨xs, x, hq, hx⟩ := hg
    obtain ⟨its, rv, p, hz⟩ := I.tuple hq
    obtain ⟨u, hu, ru⟩ := rv.get hx
    have le : e < s.heap.objs.size := Heap.lt_size he
    have li : it < s.heap.objs.size := by obtain ⟨_, q, _⟩ := hit; exact Heap.lt_size q
    have hu2 : its.toArray[i]? = some u := by simpa using hu
    have hlt : i < its.toArray.size := (Array.getElem?_eq_some_iff.mp hu2).1
    have pt : s.heap.IsTuple a its.toArray := p
    refine wpAny_pyNext_enum_itemD (Draws.tuple (by simp [I.ok.hd hc]) it a hai its.toArray) he ⟨hit, pt⟩ hlt hne (by simp [hne, Ne.symm hae])
      fun y h2 tk hy ho hst hT hsz hk => ?_
    obtain ⟨hit2, _⟩ := hst
    have hy' : its.toArray[i]? = some y := hy
    have ey : u = y := Option.some.inj (hu2.symm.trans hy')
    subst ey
    refine ⟨_, rfl, wpAny_letOwnedTupleGo_enum (s := { s with heap := h2, toks := tk + 1 }) ho fun h3 he3 sb => ?_⟩
    have hT3 := (sb.2 _ (Nat.ne_of_gt le)).trans hT
    have hall : ∀ b ∈ [e, it], b < s.heap.objs.size := by
      intro b hb
      simp only [List.mem_cons, List.not_mem_nil, or_false] at hb
      rcases hb with rfl | rfl
      · exact le
      · exact li
    have new : ObjOk X.prog X.w (upd H s.heap.objs.size (.tup [.int (i : Nat), x])) h3 s.heap.objs.size (.tup [.int (i : Nat), x]) := by
      refine ⟨by show 2 ≤ sizeLine; decide, [.int i tk, u], ?_, _, hT3, rfl, _, rfl⟩
      exact .cons ⟨tk, rfl⟩ (.cons ru .nil)
    have hfree : H s.heap.objs.size = none := I.hok.fresh (Nat.le_refl _)
    have I3 : Inv X pins σ (upd H s.heap.objs.size (.tup [.int (i : Nat), x])) { s with heap := h3, toks := tk + 1 } := by
      refine I.turnedNew (ch := [e, it]) (fun b ob hb q => ?_) hf (Nat.le_refl _) new
      have n1 : b ≠ e := fun z => hb (by simp [z])
      have n2 : b ≠ it := fun z => hb (by simp [z])
      exact (sb.2 b n1).trans (hk b ob n1 n2 q)
    refine ⟨.ref s.heap.objs.size, _, I3, rfl, ⟨_, x, rfl, hfree, rfl, fun ys hy => ?_⟩, ⟨⟨u, ?_⟩, hit2.at fun o q => (sb.2 it (Ne.symm hne)).trans q, hne, hai, hae⟩, fun b hb => ?_⟩
    · rw [I.tuple_inj hy hq]; exact hx
    · have cast1 : ((i + 1 : Nat) : Int) = (i : Int) + 1 := by omega
      rw [cast1]; exact he3
    · rw [upd_ne (Nat.ne_of_lt (hall b hb))]
      exact (hf b hb).1
  case done =>
    intro X hP hw hK hc i pins s σ H E I hf st hg
    subst hP hw hK
    obtain ⟨⟨old, he⟩, hit, hne, hai, hae⟩ := st
    obtain ⟨xs, hq, hx⟩ := hg
    obtain ⟨its, rv, p, hz⟩ := I.tuple hq
    have pt : s.heap.IsTuple a its.toArray := p
    obtain ⟨f0, f1, f2, f3, f4, f5⟩ := hf it (by simp)
    have hl : i = its.toArray.size := by rw [hx, rv.length, List.size_toArray]
    subst hl
    refine wpAny_pyNext_enum_endD (Draws.tuple (by simp [I.ok.hd hc]) it a hai its.toArray) he ⟨hit, pt⟩ fun h2 eb => ⟨rfl, ?_⟩
    exact I.turned (t' := s.toks) (fun b o hb q => eb b o hb q) f0 f1 f3 f4 f5
  case self =>
    rintro A i s Q E ⟨⟨old, he⟩, _⟩ h
    exact wpAny_pyIter_enum he h
def iEnumT (K : PySem.W.Frag) (ta : TA) : TI := fun σ H R => ta σ H fun vs H1 => ∃ a xs, vs = [.ref a] ∧ SqT K H1 a xs ∧ R (ItE K a) H1
theorem pi_enumT {X : Cx} {e : Expr} {ta : TA} {p pos tpos : Pos} {elts : List Expr} {kk : Nat} (hg : Gl X "enumerate") (hm : X.mg "enumerate" = none) (ha : PA X [e] ta)
    (hs : starEach [e] X.env = [(false, eval e X.env)] := by rfl) : PI X (.Tuple elts kk tpos) (.Call (.Name "enumerate" p) [e] [] pos) (iEnumT X.K ta) := by
  constructor
  intro pins s σ H R I h
  refine Call_ (ld_blt I hg hm boot_enumerate (PyProof.Rows.callWith_type1 ?_ hs rfl))
  refine thn (ha.run pos pins s σ H _ I h) ?_
  rintro us s1 ⟨vs, H1, I1, r1, a, xs, rfl, hq, q⟩
  cases r1 with
  | cons r rr =>
    cases rr
    obtain rfl := (show _ = Value.ref a from r)
    obtain ⟨its, rv, p', hz⟩ := I1.tuple hq
    have pt : s1.heap.IsTuple a its.toArray := p'
    have la : a < s1.heap.objs.size := by obtain ⟨o, ho, _⟩ := pt; exact Heap.lt_size ho
    refine enum_call1 (begins_tuple a its.toArray) pt fun h2 he hit hk => wpAny_pyIter_enum he ?_
    have I2 : Inv X pins σ H1 { s1 with heap := h2 } := I1.kept (t' := s1.toks) hk
    refine ⟨s1.heap.objs.size + 1, [s1.heap.objs.size + 1, s1.heap.objs.size], _, _, H1, rfl, I2, turn_enumT a (s1.heap.objs.size + 1) s1.heap.objs.size,
      ⟨⟨.none, he⟩, ⟨_, hit, rfl, rfl⟩, Nat.succ_ne_self _, Nat.ne_of_lt la, Nat.ne_of_lt (Nat.lt_succ_of_lt la)⟩, fun b hb => ?_, q⟩
    have hle : s1.heap.objs.size ≤ b := by
      simp only [List.mem_cons, List.not_mem_nil, or_false] at hb
      rcases hb with rfl | rfl
      · exact Nat.le_succ _
      · exact Nat.le_refl _
    exact I1.fpOk hle (I1.hok.fresh hle)
end Zr
end
section
set_option Elab.async false
set_option linter.all false
set_option maxRecDepth 100000
/-! sorted(set(a list of ints)). -/
namespace Zr
open PySem PySem.Spec PyProof.Rows L2
abbrev setObj (b : Bool) : Obj := { cls := .type "set", dict := none, data := .set #[] 0 (.fresh 0 0 b) }
section
variable {P : Program} {w : World} {A : Around} {E : Value → Shared → Prop} {s : Shared}
abbrev ledOf (w : World) : Bool := !w.params.followText "set-order"
/-- what set(l) leaves -/
structure SetEnd (w : World) (h h2 : Heap) (S : Addr) (ns : List Int) (n : Nat) : Prop where
  set : SetR w h2 S (fun j => decide (j ∈ ns)) n
  few : n ≤ ns.length
  old : ∀ b o, h.get? b = some o → h2.get? b = some o
abbrev EndR (w : World) (s : Shared) (ns : List Int) : Value → Shared → Prop := fun r s2 => r = .none ∧ ∃ h2 tk n, s2 = { s with heap := h2, toks := tk } ∧ SetEnd w s.heap h2 s.heap.objs.size ns n
set_option maxHeartbeats 8000000 in
theorem set_of_ints {l : Addr} {its : Array Value} {ns : List Int} {Q : Value → Shared → Prop} (hh : A.handled = none) (hl : s.heap.IsList l its) (hi : IntsAre its.toList ns) (hb : ns.length + 1 < scanBound)
    (h : ∀ h2 tk n, SetEnd w s.heap h2 s.heap.objs.size ns n → Q (.ref s.heap.objs.size) { s with heap := h2, toks := tk }) :
    wpAny (model P w) A (call (.type "set") [.ref l]) Q E s := by
  have ft := F.called_set
  obtain ⟨c1, tl1, mro1⟩ := ft.mro
  have made1 := ft.made
  have sub1 := ft.sub
  have not1 := ft.notType
  have can1 := ft.canCreate
  have ck1 := F.typeCall_set_1 (.ref l)
  refine wpAny_call (codeAny_of_tree ?_)
  show wpAny _ _ (callAny (.type "set") _) _ _ _
  refine wpAny_pure ⟨Code.quiet_builtin _ (by decide +kernel), codeAny_builtin F.entry_type_call ?_⟩
  rw [Around.under_plain (weight_type_call_type "set" [.ref l] []) rfl]
  repeat (any_goals (first | assumption | wp_step))
  have mk : codeAny (model P w) A.in1 (.call (.builtin "set.__new__") ⟨[.type "set", .ref l], []⟩)
      (wants (fun v s1 => v = .ref s.heap.objs.size ∧ s1 = { s with heap := s.heap.push (setObj (ledOf w)) }) E) s := code_set_led1 (.ref l) ⟨rfl, rfl⟩
  refine codeAny_mono mk fun r1 s1 q1 => ?_
  rcases r1 with e1 | f1
  · exact q1
  cases f1 <;> try exact q1.elim
  rename_i v1
  obtain ⟨rfl, rfl⟩ := q1
  have got : (s.heap.push (setObj (ledOf w))).get? s.heap.objs.size = some (setObj (ledOf w)) := Heap.get?_push_size _ rfl
  have ty1 : Shared.TypeIs { s with heap := s.heap.push (setObj (ledOf w)) } (.ref s.heap.objs.size) "set" := ⟨_, got, rfl⟩
  have li1 := ft.init.lookup
  have bi1 := ft.init.bind (.ref s.heap.objs.size)
  repeat (any_goals (first | assumption | wp_step))
  refine codeAny_mono (codeAny_call_builtin (R := wants (EndR w s ns) E) ft.init.plain F.entry_set_init (check_set_init_1 ty1 ?_)) fun r2 s2 q2 => ?_
  · have z0 : its.size = ns.length := by
      have q := IntsAre.length hi
      rwa [Array.length_toList] at q
    obtain ⟨⟨k0, d0, x0, sl0⟩, ho0, hk0, m0, hx0⟩ := id hl
    simp only at hk0 hx0
    subst hk0 hx0
    have g0 := Heap.get?_push_of_some (setObj (ledOf w)) ho0
    have il : (s.heap.push (setObj (ledOf w))).IsList l its := ⟨_, g0, rfl, m0, rfl⟩
    have z1 := F.sub_list_set
    have z2 := F.sub_list_frozenset
    have z3 : (Value.type "list" == Value.type "dict") = false := by decide
    have l0 : l < s.heap.objs.size := Heap.lt_size ho0
    unfold Builtin.«set.__init__» noKeywords Builtin.Frozenset.updateFrom
    generalize hq : pyIter = itf
    wp_walk
    subst hq
    refine wpAny_pyIter_list il (wpAny_bind (wpAny_runValue ?_))
    have two : (s.heap.push (setObj (ledOf w))).objs.size = s.heap.objs.size + 1 := Heap.size_push ..
    have calm : A.in1.in1.in1.handled = none := by simp [hh]
    have apart : l ≠ (s.heap.push (setObj (ledOf w))).objs.size := by rw [two]; exact Nat.ne_of_lt (Nat.lt_succ_of_lt l0)
    have off : s.heap.objs.size ∉ [(s.heap.push (setObj (ledOf w))).objs.size, l] := by
      rw [two]; simp only [List.mem_cons, List.not_mem_nil, or_false, not_or]
      exact ⟨Nat.ne_of_lt (Nat.lt_succ_self _), Nat.ne_of_gt l0⟩
    have vals : ∀ (i : Nat) (v : Value), its[i]? = some v → ∃ k t, ns[i]? = some k ∧ v = .int k t := by
      intro i v hv
      have hi2 : i < ns.length := by rw [← z0]; exact (Array.getElem?_eq_some_iff.mp hv).1
      obtain ⟨t, e⟩ := PyProof.Rows.IntsAre.int_at hi i v (by rw [Array.getElem?_toList]; exact hv)
      exact ⟨ns[i], t, List.getElem?_eq_getElem hi2, by rw [e, List.getD_eq_getElem?_getD, List.getElem?_eq_getElem hi2] <;> rfl⟩
    have got2 := Heap.get?_push_of_some { cls := .type "list_iterator", data := .fields #[.ref l, .int 0 0] } got
    refine set_update_ints ((Walks.list calm _ l apart its).toS) s.heap.objs.size off ns z0 hb vals (its.size - 0) 0 _ (by omega) (Nat.zero_le _)
      ⟨⟨_, Heap.get?_push_size _ rfl, rfl, rfl⟩, il.push _⟩ ⟨0, Nat.le_refl 0, setR_new_at got2⟩ ?_
    rintro ⟨h2, g2, d2, t2, o2⟩ n2 mv hn2 hr2
    obtain rfl : g2 = s.gens := mv.gens
    obtain rfl : d2 = s.drawn := mv.drawn
    obtain rfl : o2 = s.os := mv.os
    rw [z0] at hn2
    show wpAny _ _ _ _ _ _
    refine wpAny_pure ?_
    show wpAny _ _ (ret Value.none) _ _ _
    refine wpAny_pure ⟨rfl, h2, t2, n2, rfl, hr2, hn2, fun b o e => ?_⟩
    have b1 : b < s.heap.objs.size := Heap.lt_size e
    refine mv.heap b o ?_ (Heap.get?_push_of_some _ (Heap.get?_push_of_some _ e))
    rw [two]; simp only [List.mem_cons, List.not_mem_nil, or_false, not_or]
    exact ⟨Nat.ne_of_lt b1, Nat.ne_of_lt (Nat.lt_succ_of_lt b1)⟩
  · rcases r2 with e2 | f2
    · exact q2
    cases f2 <;> try exact q2.elim
    rename_i v2
    obtain ⟨rfl, h2, tk, n, rfl, done⟩ := q2
    repeat (any_goals (first | assumption | wp_step))
    exact h h2 tk n done
end
section
variable {X : Cx}
/-- set(l), l a list of ints -/
def rSetI (K : PySem.W.Frag) (w : World) : List V → Hp → VK → Prop := fun xs H Q => ∃ (l : Addr) (ns : List Int), xs = [.ref l] ∧ SqL K H l (ns.map V.int) ∧ ns.length + 1 < scanBound ∧
  ∀ p n, n ≤ ns.length → H p = none → Q (.ref p) (upd H p (SetO w p (fun j => decide (j ∈ ns)) n))
theorem cr_setI (hc : X.calm = true) : CallR X (.type "set") (rSetI X.K X.w) := by
  intro pins s σ H xs us Q I r h
  obtain ⟨l, ns, rfl, hs, hb, q⟩ := h
  obtain ⟨its, rv, hl, hz⟩ := I.list hs
  rw [Vals.ref1 r]
  refine set_of_ints (I.ok.hd hc) hl.isList rv.ints hb fun h2 tk n e => ?_
  exact ⟨.ref _, _, I.laid (t' := tk) e.old (Nat.le_refl _) (setO_new e.set), rfl, q _ n e.few (I.hok.fresh (Nat.le_refl _))⟩
end
end Zr
end
section
set_option Elab.async false
set_option linter.all false
set_option maxRecDepth 100000
/-! Pairs of an int and a tuple of ints: their order, sorted lists of them. -/
namespace Zr
open PySem PySem.Spec PyProof.Rows L2
open SrtO (Swo Srtd Stb lt2 Cmp SortableO)
abbrev Kd := Int × List Int
def klt (p q : Kd) : Bool := if p.1 = q.1 then HT.lexLt p.2 q.2 else decide (p.1 < q.1)
theorem lex_irr : ∀ l : List Int, HT.lexLt l l = false
  | [] => rfl
  | x :: l => by
    have h : HT.lexLt (x :: l) (x :: l) = (if x = x then HT.lexLt l l else decide (x < x)) := rfl
    rw [h, if_pos rfl, lex_irr l]
theorem lex_asym : ∀ l m : List Int, HT.lexLt l m = true → HT.lexLt m l = false
  | [], [], h => by cases h
  | [], _ :: _, _ => rfl
  | _ :: _, [], h => by cases h
  | x :: l, y :: m, h => by
    have e1 : HT.lexLt (x :: l) (y :: m) = (if x = y then HT.lexLt l m else decide (x < y)) := rfl
    have e2 : HT.lexLt (y :: m) (x :: l) = (if y = x then HT.lexLt m l else decide (y < x)) := rfl
    rw [e1] at h
    rw [e2]
    by_cases q : x = y
    · rw [if_pos q] at h
      rw [if_pos q.symm]
      exact lex_asym l m h
    · rw [if_neg q] at h
      rw [if_neg (fun z => q z.symm)]
      exact decide_eq_false (by have := of_decide_eq_true h; omega)
/-- not less, and not the other way: the same -/
theorem lex_eq : ∀ l m : List Int, HT.lexLt l m = false → HT.lexLt m l = false → l = m
  | [], [], _, _ => rfl
  | [], _ :: _, h, _ => by cases h
  | _ :: _, [], _, h => by cases h
  | x :: l, y :: m, h, h' => by
    have e1 : HT.lexLt (x :: l) (y :: m) = (if x = y then HT.lexLt l m else decide (x < y)) := rfl
    have e2 : HT.lexLt (y :: m) (x :: l) = (if y = x then HT.lexLt m l else decide (y < x)) := rfl
    rw [e1] at h
    rw [e2] at h'
    by_cases q : x = y
    · rw [if_pos q] at h
      rw [if_pos q.symm] at h'
      rw [q, lex_eq l m h h']
    · rw [if_neg q] at h
      rw [if_neg (fun z => q z.symm)] at h'
      have a := of_decide_eq_false h
      have b := of_decide_eq_false h'
      omega
theorem lex_trans : ∀ l m n : List Int, HT.lexLt l m = true → HT.lexLt m n = true → HT.lexLt l n = true
  | [], _, [], _, h => by
    rename_i m _
    cases m <;> cases h
  | [], _, _ :: _, _, _ => rfl
  | _ :: _, [], _, h, _ => by cases h
  | _ :: _, _ :: _, [], _, h => by cases h
  | x :: l, y :: m, z :: n, h, h' => by
    have e1 : HT.lexLt (x :: l) (y :: m) = (if x = y then HT.lexLt l m else decide (x < y)) := rfl
    have e2 : HT.lexLt (y :: m) (z :: n) = (if y = z then HT.lexLt m n else decide (y < z)) := rfl
    have e3 : HT.lexLt (x :: l) (z :: n) = (if x = z then HT.lexLt l n else decide (x < z)) := rfl
    rw [e1] at h
    rw [e2] at h'
    rw [e3]
    by_cases q : x = y
    · rw [if_pos q] at h
      by_cases r : y = z
      · rw [if_pos r] at h'
        rw [if_pos (q.trans r)]
        exact lex_trans l m n h h'
      · rw [if_neg r] at h'
        rw [if_neg (fun t => r (q.symm.trans t))]
        exact decide_eq_true (by have := of_decide_eq_true h'; omega)
    · rw [if_neg q] at h
      have a := of_decide_eq_true h
      by_cases r : y = z
      · rw [if_neg (fun t => q (t.trans r.symm))]
        exact decide_eq_true (by omega)
      · rw [if_neg r] at h'
        have b := of_decide_eq_true h'
        rw [if_neg (by omega)]
        exact decide_eq_true (by omega)
theorem klt_irr (p : Kd) : klt p p = false := by unfold klt; rw [if_pos rfl]; exact lex_irr _
theorem klt_asym {p q : Kd} (h : klt p q = true) : klt q p = false := by
  unfold klt at h ⊢
  by_cases e : p.1 = q.1
  · rw [if_pos e] at h
    rw [if_pos e.symm]
    exact lex_asym _ _ h
  · rw [if_neg e] at h
    rw [if_neg (fun z => e z.symm)]
    exact decide_eq_false (by have := of_decide_eq_true h; omega)
theorem klt_eq {p q : Kd} (h : klt p q = false) (h' : klt q p = false) : p = q := by
  unfold klt at h h'
  by_cases e : p.1 = q.1
  · rw [if_pos e] at h
    rw [if_pos e.symm] at h'
    exact Prod.ext e (lex_eq _ _ h h')
  · rw [if_neg e] at h
    rw [if_neg (fun z => e z.symm)] at h'
    have a := of_decide_eq_false h
    have b := of_decide_eq_false h'
    omega
theorem klt_trans {p q r : Kd} (h : klt p q = true) (h' : klt q r = true) : klt p r = true := by
  unfold klt at h h' ⊢
  by_cases e : p.1 = q.1
  · rw [if_pos e] at h
    by_cases f : q.1 = r.1
    · rw [if_pos f] at h'
      rw [if_pos (e.trans f)]
      exact lex_trans _ _ _ h h'
    · rw [if_neg f] at h'
      rw [if_neg (fun t => f (e.symm.trans t))]
      exact decide_eq_true (by have := of_decide_eq_true h'; omega)
  · rw [if_neg e] at h
    have a := of_decide_eq_true h
    by_cases f : q.1 = r.1
    · rw [if_neg (fun t => e (t.trans f.symm))]
      exact decide_eq_true (by omega)
    · rw [if_neg f] at h'
      have b := of_decide_eq_true h'
      rw [if_neg (by omega)]
      exact decide_eq_true (by omega)
/-- the ways in which two kinds lie -/
theorem klt_tri (p q : Kd) : klt p q = true ∨ p = q ∨ klt q p = true := by
  cases h : klt p q with
  | true => exact .inl rfl
  | false =>
    cases h' : klt q p with
    | true => exact .inr (.inr rfl)
    | false => exact .inr (.inl (klt_eq h h'))
theorem swo_kd (k : Value → Kd) : Swo fun v u => klt (k v) (k u) := by
  refine ⟨fun x y h => klt_asym h, fun x y z h1 h2 => ?_⟩
  have h1 : klt (k y) (k x) = false := h1
  have h2 : klt (k z) (k y) = false := h2
  show klt (k z) (k x) = false
  cases h : klt (k z) (k x) with
  | false => rfl
  | true =>
    rcases klt_tri (k x) (k y) with a | a | a
    · rw [klt_trans h a] at h2; cases h2
    · rw [← a, h] at h2; cases h2
    · rw [a] at h1; cases h1
/-! ### as they stand in the heap -/
structure IsKd (h : Heap) (v : Value) (k : Kd) : Prop where
  at_ : ∃ a b t its, v = .ref a ∧ h.IsTuple a #[.int k.1 t, .ref b] ∧ h.IsTuple b its ∧ IntsAre its.toList k.2
theorem IsKd.keeps {h h2 : Heap} {v : Value} {k : Kd} (x : IsKd h v k) (kk : ∀ b o, h.get? b = some o → o.cls = .type "tuple" → h2.get? b = some o) : IsKd h2 v k := by
  obtain ⟨a, b, t, its, e, p1, p2, i⟩ := x.at_
  obtain ⟨o, h1, c1, r1⟩ := p1
  obtain ⟨o', h1', c1', r1'⟩ := p2
  exact ⟨a, b, t, its, e, ⟨o, kk _ _ h1 c1, c1, r1⟩, ⟨o', kk _ _ h1' c1', c1', r1'⟩, i⟩
section
variable {prog : Program} {w : World} {A : Around} {s : Shared}
theorem ints_eqAt {b b' : Addr} {its its' : Array Value} {r r' : List Int} (h1 : s.heap.IsTuple b its) (h2 : s.heap.IsTuple b' its') (i1 : IntsAre its.toList r) (i2 : IntsAre its'.toList r') (hu : A.units + 4 < cLine) :
    SeqAt.EqAt A s (.ref b) (.ref b') (decide (r = r')) := by
  have rd : ∀ {vs : List Value} {ns : List Int}, IntsAre vs ns → ∃ as, ReadsAll s.heap vs (ns.map PyData.int) as := by
    intro vs ns i
    induction i with
    | nil => exact ⟨_, .nil⟩
    | cons n t _ ih => obtain ⟨as, q⟩ := ih; exact ⟨_, .cons (.int n t) q⟩
  have lay : ∀ ns : List Int, PyData.canLayAll0 (ns.map PyData.int) = true := fun ns => by
    induction ns with
    | nil => simp [PyData.canLayAll0]
    | cons n ns ih => simp [PyData.canLayAll0, PyData.canLay0, ih]
  have dep : ∀ ns : List Int, PyData.depthAll (ns.map PyData.int) ≤ 1 := fun ns => by
    induction ns with
    | nil => simp [PyData.depthAll]
    | cons n ns ih => simp only [List.map_cons, PyData.depthAll, PyData.depth]; omega
  have eqv : ∀ ns ms : List Int, PyData.eqvAll (ns.map PyData.int) (ms.map PyData.int) = decide (ns = ms) := fun ns => by
    induction ns with
    | nil => intro ms; cases ms <;> simp [PyData.eqvAll]
    | cons n ns ih =>
      intro ms
      cases ms with
      | nil => simp [PyData.eqvAll]
      | cons m ms =>
        simp only [List.map_cons, PyData.eqvAll, PyData.eqv, ih]
        by_cases e : n = m
        · subst e; simp
        · simp [e]
  obtain ⟨o, ho, hc, n, hd⟩ := h1
  obtain ⟨o', ho', hc', n', hd'⟩ := h2
  obtain ⟨as, q1⟩ := rd i1
  obtain ⟨bs, q2⟩ := rd i2
  have d1 := dep r
  have e0 := SeqAt.eqAt_reads (.tuple (r.map PyData.int)) (.tuple (r'.map PyData.int)) A s _ _ as bs (.tuple ho hc hd q1) (.tuple ho' hc' hd' q2) (by simp [PyData.canLay0, lay]) (by simp [PyData.canLay0, lay]) (by
    have : (PyData.tuple (r.map PyData.int)).depth ≤ 2 := by simp only [PyData.depth]; omega
    have := Nat.min_le_left (PyData.tuple (r.map PyData.int)).depth (PyData.tuple (r'.map PyData.int)).depth
    omega)
  have e1 : PyData.eqv (.tuple (r.map PyData.int)) (.tuple (r'.map PyData.int)) = decide (r = r') := by simp only [PyData.eqv, eqv]
  rw [e1] at e0
  exact e0
theorem kd_cmp {vs : List Value} {k : Value → Kd} (hu : A.units + 8 < cLine) (hp : ∀ v ∈ vs, IsKd s.heap v (k v)) : Cmp prog w A s (tuples' true) (fun p => p.1 ∈ vs) (lt2 fun v u => klt (k v) (k u)) := by
  intro p q hm hm2
  obtain ⟨a, b, t, its, e, ⟨o, ho, hc, n, hd⟩, p2, i⟩ := (hp _ hm).at_
  obtain ⟨a', b', t', its', e', ⟨o', ho', hc', n', hd'⟩, p2', i'⟩ := (hp _ hm2).at_
  show wpAny (model prog w) A (keyLt' (tuples' true) p.1 q.1) (fun r s' => s' = s ∧ r = klt (k p.1) (k q.1)) (fun _ _ => False) s
  unfold klt
  generalize k p.1 = x at *
  generalize k q.1 = y at *
  rw [e, e']
  refine PySem.W.kat_lt ho hd ho' hd' ?_
  show PySem.W.KatLex prog w A true (decide (2 < 2)) _ [(.int x.1 t, .int y.1 t'), (.ref b, .ref b')] 0 s
  refine PySem.W.kat_cons (SeqAt.EqAt.int_int _ t _ t' prog w _ _ ?_)
  refine PySem.W.kat_go (fun e1 => ?_) (fun e1 => ?_)
  · have e1 : x.1 = y.1 := by simpa using e1
    refine PySem.W.kat_yes (PySem.W.kat_cons (ints_eqAt p2 p2' i i' (by omega) prog w _ _ ?_))
    refine PySem.W.kat_go (fun e2 => ?_) (fun e2 => ?_)
    · have e2 := of_decide_eq_true e2
      refine PySem.W.kat_yes (PySem.W.kat_nil ⟨rfl, ?_⟩)
      rw [if_pos e1, e2, lex_irr]
      rfl
    · refine PySem.W.kat_no ?_
      show wpAny _ _ (oneLt' false _ _) _ _ _
      refine PySem.W.kat_one _ _ (HT.lt_tupInts p2 p2' i i' (by omega) ?_)
      exact (show s = s ∧ HT.lexLt x.2 y.2 = _ from ⟨rfl, by rw [if_pos e1]⟩)
  · have e1 : ¬ x.1 = y.1 := by simpa using e1
    refine PySem.W.kat_no (oneLt_int ⟨rfl, ?_⟩)
    rw [if_neg e1]
theorem kd_firsts {h : Heap} : ∀ {vs : List Value}, (∀ v ∈ vs, ∃ k, IsKd h v k) → ∃ fs : List Value, PySem.W.KatTups h vs fs ∧ fs.length = vs.length ∧ ∀ f ∈ fs, ∃ x t, f = Value.int x t
  | [], _ => ⟨[], PySem.W.KatTups.nil, rfl, fun _ z => by cases z⟩
  | v :: vs, hp => by
    obtain ⟨fs, c1, c2, c3⟩ := kd_firsts (vs := vs) fun u hm => hp u (List.mem_cons_of_mem _ hm)
    obtain ⟨k, x⟩ := hp v (List.mem_cons_self ..)
    obtain ⟨a, b, t, its, rfl, ⟨o, ho, hc, n, hd⟩, _, _⟩ := x.at_
    refine ⟨.int k.1 t :: fs, PySem.W.KatTups.cons ho hc hd rfl c1, by rw [List.length_cons, List.length_cons, c2], fun f hm => ?_⟩
    rcases List.mem_cons.mp hm with rfl | hm
    · exact ⟨_, _, rfl⟩
    · exact c3 f hm
theorem kd_sortable {a : Addr} {vs : List Value} {k : Value → Kd} (hu : A.units + 8 < cLine) (h0 : 0 < vs.length) (hp : ∀ v ∈ vs, IsKd s.heap v (k v)) (ha : ∀ o, s.heap.get? a = some o → o.cls ≠ .type "tuple") : SortableO prog w A s a vs fun v u => klt (k v) (k u) := by
  intro h2 keep
  have hp2 : ∀ v ∈ vs, IsKd h2 v (k v) := fun v hm => (hp v hm).keeps fun b o e c => keep b o (fun z => by subst z; exact ha o e c) e
  obtain ⟨fs, c1, c2, c3⟩ := kd_firsts fun v hm => ⟨_, hp2 v hm⟩
  refine ⟨tuples' true, fun Q E hq => ?_, kd_cmp hu hp2⟩
  refine PySem.W.kat_kind (T := .type "int") c1 (by omega) (fun f hm => ?_) (by rfl) ?_
  · obtain ⟨x, t, rfl⟩ := c3 f hm
    exact PySem.W.Looks.now
  · have e : (Value.type "int" != Value.type "tuple") = true := by first | decide +kernel | rfl | decide
    rw [e]
    exact hq
end
/-! ### sorted(l), l a list of kinds -/
section
variable {X : Cx}
/-- what stands at a kind's value -/
def KdAt (K : PySem.W.Frag) (H : Hp) (v : V) (k : Kd) : Prop := ∃ a b, v = .ref a ∧ SqT K H a [.int k.1, .ref b] ∧ SqT K H b (k.2.map V.int)
theorem KdAt.is {pins : List (Addr × Obj)} {σ : L2.St} {H : Hp} {s : Shared} (I : Inv X pins σ H s) {v : V} {u : Value} {k : Kd} (h : KdAt X.K H v k) (r : RelV v u) : IsKd s.heap u k := by
  obtain ⟨a, b, rfl, h1, h2⟩ := h
  cases r
  obtain ⟨its, r1, p1, _⟩ := I.tuple h1
  obtain ⟨its2, r2, p2, _⟩ := I.tuple h2
  cases r1 with
  | cons q1 q2 =>
    cases q2 with
    | cons q3 q4 =>
      cases q4
      obtain ⟨t, rfl⟩ := q1
      cases (show _ = Value.ref b from q3)
      exact ⟨a, b, t, its2.toArray, rfl, p1, p2, by simpa using Vals.ints r2⟩
def rSortK (K : PySem.W.Frag) : List V → Hp → VK → Prop := fun vs H Q => ∃ (a : Addr) (xs : List V) (ks : List Kd) (R : V → Kd → Prop), vs = [.ref a] ∧ SqL K H a xs ∧ (∀ v k, R v k → KdAt K H v k) ∧ Paired R xs ks ∧
  ∀ (ys : List V) (zs : List Kd) (p : Addr), Paired R ys zs → zs.Perm ks → zs.Pairwise (fun x y => klt y x = false) → H p = none → Q (.ref p) (upd H p (.lst ys))
theorem paired_mem {α β : Type} {R : α → β → Prop} : ∀ {xs : List α} {ys : List β} {x : α}, Paired R xs ys → x ∈ xs → ∃ y, y ∈ ys ∧ R x y
  | _, _, _, .nil, h => by cases h
  | _, _, _, .cons r t, h => by
    rcases List.mem_cons.mp h with rfl | h
    · exact ⟨_, List.mem_cons_self, r⟩
    · obtain ⟨y, hy, q⟩ := paired_mem t h
      exact ⟨y, List.mem_cons_of_mem _ hy, q⟩
theorem ints_inj {vs : List Value} {ns : List Int} (h : IntsAre vs ns) : ∀ {ms : List Int}, IntsAre vs ms → ns = ms := by
  induction h with
  | nil => intro ms q; cases q; rfl
  | cons n t _ ih => intro ms q; cases q with
    | cons m u r => rw [ih r]
theorem IsKd.uniq {h : Heap} {v : Value} {k l : Kd} (x : IsKd h v k) (y : IsKd h v l) : k = l := by
  obtain ⟨a, b, t, its, rfl, ⟨o, ho, _, n, hd⟩, ⟨o2, ho2, _, n2, hd2⟩, i⟩ := x.at_
  obtain ⟨a', b', t', its', e, ⟨o', ho', _, n', hd'⟩, ⟨o2', ho2', _, n2', hd2'⟩, i'⟩ := y.at_
  cases e
  rw [ho] at ho'; cases ho'
  rw [hd] at hd'
  injection hd' with e1 e2
  have e3 := congrArg Array.toList e1
  simp only [List.cons.injEq, Value.int.injEq, Value.ref.injEq, and_true] at e3
  obtain ⟨⟨e4, _⟩, rfl⟩ := e3
  rw [ho2] at ho2'; cases ho2'
  rw [hd2] at hd2'
  injection hd2' with e5 _
  subst e5
  exact Prod.ext e4 (ints_inj i i')
open Classical in
theorem kd_fun {h : Heap} {vs : List Value} (hp : ∀ v ∈ vs, ∃ k, IsKd h v k) : ∃ k : Value → Kd, ∀ v ∈ vs, IsKd h v (k v) :=
  ⟨fun v => if z : ∃ k, IsKd h v k then z.choose else (0, []), fun v hv => by
    have z := hp v hv
    show IsKd h v (if z : ∃ k, IsKd h v k then z.choose else (0, []))
    rw [dif_pos z]
    exact z.choose_spec⟩
def toV : Value → V
  | .ref a => .ref a
  | _ => .non
theorem vals_memR {xs : List V} {us : List Value} (r : Vals xs us) {u : Value} (h : u ∈ us) : ∃ v, v ∈ xs ∧ RelV v u := by
  induction r with
  | nil => cases h
  | cons q t ih =>
    rcases List.mem_cons.mp h with rfl | h
    · exact ⟨_, List.mem_cons_self, q⟩
    · obtain ⟨v, hv, z⟩ := ih h
      exact ⟨v, List.mem_cons_of_mem _ hv, z⟩
theorem kd_toV {K : PySem.W.Frag} {H : Hp} {v : V} {k : Kd} {u : Value} (h : KdAt K H v k) (r : RelV v u) : toV u = v := by
  obtain ⟨a, b, rfl, _⟩ := h
  cases r; rfl
theorem cr_sortK (hu : X.A.units + 16 < cLine) : CallR X (.builtin "sorted") (rSortK X.K) := by
  intro pins s σ H vs us Q I r h
  obtain ⟨a, xs, ks, R, rfl, hs, hR, hk, q⟩ := h
  obtain ⟨its, rv, hl, hz⟩ := I.list hs
  rw [Vals.ref1 r]
  have good : ∀ u ∈ its, ∃ v kk, R v kk ∧ RelV v u ∧ KdAt X.K H v kk ∧ IsKd s.heap u kk := fun u hu => by
    obtain ⟨v, hv, rr⟩ := vals_memR rv hu
    obtain ⟨kk, _, hkk⟩ := paired_mem hk hv
    exact ⟨v, kk, hkk, rr, hR _ _ hkk, (hR _ _ hkk).is I rr⟩
  obtain ⟨k, hkf⟩ := kd_fun (h := s.heap) (vs := its) fun u hu => let ⟨_, kk, _, _, _, z⟩ := good u hu; ⟨kk, z⟩
  have kmap : its.map k = ks := by
    have go : ∀ {xs : List V} {its : List Value} {ks : List Kd}, Vals xs its → Paired R xs ks → (∀ v ∈ its, IsKd s.heap v (k v)) → its.map k = ks := by
      intro xs its ks rv
      induction rv generalizing ks with
      | nil => intro hk _; cases hk; rfl
      | cons q1 q2 ih =>
        intro hk hf
        cases hk with
        | cons c1 c2 =>
          rw [List.map_cons, ih c2 fun v hv => hf v (List.mem_cons_of_mem _ hv), IsKd.uniq (hf _ List.mem_cons_self) ((hR _ _ c1).is I q1)]
    exact go rv hk hkf
  refine SrtO.sorted_ord (swo_kd k) hl.isList (by rw [← rv.length]; exact hz) (fun h2 h₁ a' ha kk => ?_) fun out hs2 hb2 => ?_
  · refine kd_sortable (s := { s with heap := h₁ }) (A := X.A.in1.in1) (by show X.A.units + 1 + 1 + 8 < cLine; omega) (by omega) (fun v hm => (hkf v hm).keeps fun b o e _ => (kk b o e).2) fun o e => ?_
    have e' : some o = some (seqObj "list" its.toArray 0) := e.symm.trans ha
    cases e'
    intro c
    exact absurd (Value.type.inj c) (by decide)
  · have perm := hb2.perm
    have mem : ∀ u ∈ out, u ∈ its := fun u hu => perm.mem_iff.mp hu
    obtain ⟨ep, he'⟩ := PyProof.Rows.sortedAll_at s.heap its out.toArray
    have pr : ∀ l : List Value, (∀ u ∈ l, u ∈ its) → Paired R (l.map toV) (l.map k) ∧ Vals (l.map toV) l := by
      intro l
      induction l with
      | nil => intro _; exact ⟨.nil, .nil⟩
      | cons u l ih =>
        intro hm
        obtain ⟨i1, i2⟩ := ih fun u hu => hm u (List.mem_cons_of_mem _ hu)
        obtain ⟨v, kk, hRk, rr, hkk, z⟩ := good u (hm u List.mem_cons_self)
        have e1 := kd_toV hkk rr
        have e2 := IsKd.uniq (hkf u (hm u List.mem_cons_self)) z
        refine ⟨.cons (by rw [e1, e2]; exact hRk) i1, .cons (by rw [e1]; exact rr) i2⟩
    obtain ⟨p1, p2⟩ := pr out mem
    have hlen : (out.map toV).length ≤ sizeLine := by
      rw [List.length_map, perm.length_eq, ← rv.length]; exact hz
    refine ⟨.ref _, upd H (s.heap.objs.size + 1) (.lst (out.map toV)), I.laid (t' := s.toks) (fun _ _ => PyProof.Rows.sortedAll_old) (Nat.le_succ _) ⟨hlen, out, ep, p2, he'⟩, rfl, ?_⟩
    refine q (out.map toV) (out.map k) _ p1 ?_ ?_ (I.hok.fresh (Nat.le_succ _))
    · rw [← kmap]; exact perm.map k
    · rw [List.pairwise_map]
      exact hs2
end
end Zr
end
section
set_option Elab.async false
set_option linter.all false
set_option maxRecDepth 100000
namespace Zr
open PySem PySem.Spec PyProof.Rows L2
theorem lexAt_up {e r : Nat → Bool} {z : Bool} : ∀ (k i : Nat), Ob.lexAt e r z (i + 1) k = Ob.lexAt (fun j => e (j + 1)) (fun j => r (j + 1)) z i k
  | 0, _ => rfl
  | k + 1, i => by
    rw [Ob.lexAt_succ, Ob.lexAt_succ, lexAt_up k (i + 1)]
theorem lexAt_le : ∀ ns ms : List Int, Ob.lexAt (fun j => decide (ns.getD j 0 = ms.getD j 0)) (fun j => decide (ns.getD j 0 ≤ ms.getD j 0)) (decide (ns.length ≤ ms.length)) 0 (min ns.length ms.length) = !HT.lexLt ms ns
  | [], [] => rfl
  | [], m :: ms => by
    have : min ([] : List Int).length (m :: ms).length = 0 := by simp
    rw [this, Ob.lexAt_zero]
    rfl
  | n :: ns, [] => by
    have : min (n :: ns).length ([] : List Int).length = 0 := by simp
    rw [this, Ob.lexAt_zero]
    rfl
  | n :: ns, m :: ms => by
    have e0 : min (n :: ns).length (m :: ms).length = min ns.length ms.length + 1 := by
      simp only [List.length_cons]; omega
    rw [e0, Ob.lexAt_succ, lexAt_up]
    have ih := lexAt_le ns ms
    have e1 : HT.lexLt (m :: ms) (n :: ns) = (if m = n then HT.lexLt ms ns else decide (m < n)) := rfl
    rw [e1]
    by_cases h : n = m
    · subst h
      have q : (fun j => decide ((n :: ns).getD j 0 = (n :: ms).getD j 0)) 0 = true := by simp
      rw [if_pos q, if_pos rfl, ← ih]
      have s : decide ((n :: ns).length ≤ (n :: ms).length) = decide (ns.length ≤ ms.length) := by
        simp only [List.length_cons, Nat.add_le_add_iff_right]
      rw [s]
      rfl
    · have q : ¬ ((fun j => decide ((n :: ns).getD j 0 = (m :: ms).getD j 0)) 0 = true) := by simp [h]
      rw [if_neg q, if_neg (fun z => h z.symm)]
      show decide (n ≤ m) = !decide (m < n)
      by_cases g : n ≤ m
      · rw [decide_eq_true g, decide_eq_false (by omega)]; rfl
      · rw [decide_eq_false g, decide_eq_true (by omega)]; rfl
section
variable {A : Around} {s : Shared}
theorem le_tupInts {b b' : Addr} {its its' : Array Value} {r r' : List Int} (h1 : s.heap.IsTuple b its) (h2 : s.heap.IsTuple b' its') (i1 : IntsAre its.toList r) (i2 : IntsAre its'.toList r') (hu : A.units < cLine) :
    Ob.RcOp .LtE A s (.ref b) (.ref b') (!HT.lexLt r' r) := by
  have s1 : its.size = r.length := by rw [← Array.length_toList]; exact i1.length
  have s2 : its'.size = r'.length := by rw [← Array.length_toList]; exact i2.length
  have g1 : ∀ j (h : j < its.size), ∃ t, its[j] = .int (r.getD j 0) t := fun j h => PyProof.Rows.IntsAre.int_at i1 _ _ (by rw [Array.getElem?_toList]; exact Array.getElem?_eq_getElem h)
  have g2 : ∀ j (h : j < its'.size), ∃ t, its'[j] = .int (r'.getD j 0) t := fun j h => PyProof.Rows.IntsAre.int_at i2 _ _ (by rw [Array.getElem?_toList]; exact Array.getElem?_eq_getElem h)
  have R := Ob.RcOp.tuples_le (A := A) (s := s) (e := fun j => decide (r.getD j 0 = r'.getD j 0)) (r := fun j => decide (r.getD j 0 ≤ r'.getD j 0)) h1 h2 hu (fun j k1 k2 => by
    obtain ⟨t, e1⟩ := g1 j k1
    obtain ⟨t', e2⟩ := g2 j k2
    rw [e1, e2]
    have z : (r.getD j 0 == r'.getD j 0) = decide (r.getD j 0 = r'.getD j 0) := by
      by_cases q : r.getD j 0 = r'.getD j 0
      · rw [decide_eq_true q]; exact beq_iff_eq.mpr q
      · rw [decide_eq_false q]; exact beq_eq_false_iff_ne.mpr q
    show SeqAt.EqAt _ _ _ _ (decide (r.getD j 0 = r'.getD j 0))
    rw [← z]
    exact SeqAt.EqAt.int_int _ _ _ _) (fun j k1 k2 _ => by
    obtain ⟨t, e1⟩ := g1 j k1
    obtain ⟨t', e2⟩ := g2 j k2
    rw [e1, e2]
    exact Ob.RcOp.le_int _ _ _ _)
  rw [s1, s2, lexAt_le] at R
  exact R
end
section
variable {X : Cx}
/-- x <= y, kinds -/
def rLeK (K : PySem.W.Frag) : R2 := fun x y H Q => ∃ k l, KdAt K H x k ∧ KdAt K H y l ∧ Q (.bl (!klt l k)) H
theorem op_leK (hu : X.A.units + 8 < cLine) : OpR X (compareOp .LtE) (rLeK X.K) := by
  intro pins s σ H x y v u Q I rx ry h
  obtain ⟨k, l, hk, hl, q⟩ := h
  obtain ⟨a, b, t, its, rfl, p1, p2, i1⟩ := (hk.is I rx).at_
  obtain ⟨a', b', t', its', rfl, p1', p2', i1'⟩ := (hl.is I ry).at_
  have R := Ob.RcOp.tuples_le (A := X.A) (s := s) (e := fun j => if j = 0 then decide (k.1 = l.1) else decide (k.2 = l.2)) (r := fun j => if j = 0 then decide (k.1 ≤ l.1) else !HT.lexLt l.2 k.2) p1 p1' (by omega) (fun j h1 h2 => by
    have hj : j < 2 := h1
    have : j = 0 ∨ j = 1 := by omega
    rcases this with rfl | rfl
    · show SeqAt.EqAt _ _ (.int k.1 t) (.int l.1 t') (decide (k.1 = l.1))
      have z : (k.1 == l.1) = decide (k.1 = l.1) := by
        by_cases q : k.1 = l.1
        · rw [decide_eq_true q]; exact beq_iff_eq.mpr q
        · rw [decide_eq_false q]; exact beq_eq_false_iff_ne.mpr q
      rw [← z]
      exact SeqAt.EqAt.int_int _ _ _ _
    · show SeqAt.EqAt _ _ (.ref b) (.ref b') (decide (k.2 = l.2))
      exact ints_eqAt p2 p2' i1 i1' (by show X.A.units + 1 + 4 < cLine; omega)) (fun j h1 h2 _ => by
    have hj : j < 2 := h1
    have : j = 0 ∨ j = 1 := by omega
    rcases this with rfl | rfl
    · exact Ob.RcOp.le_int _ _ _ _
    · exact le_tupInts p2 p2' i1 i1' (by show X.A.units + 1 < cLine; omega))
  have e : Ob.lexAt (fun j => if j = 0 then decide (k.1 = l.1) else decide (k.2 = l.2)) (fun j => if j = 0 then decide (k.1 ≤ l.1) else !HT.lexLt l.2 k.2) (decide (2 ≤ 2)) 0 2 = !klt l k := by
    rw [Ob.lexAt_succ, Ob.lexAt_succ, Ob.lexAt_zero]
    unfold klt
    by_cases h1 : k.1 = l.1
    · rw [if_pos (show (if (0 : Nat) = 0 then decide (k.1 = l.1) else decide (k.2 = l.2)) = true by simp [h1]), if_pos h1.symm]
      by_cases h2 : k.2 = l.2
      · rw [if_pos (show (if (0 + 1 : Nat) = 0 then decide (k.1 = l.1) else decide (k.2 = l.2)) = true by simp [h2]), h2, lex_irr]
        rfl
      · rw [if_neg (show ¬ ((if (0 + 1 : Nat) = 0 then decide (k.1 = l.1) else decide (k.2 = l.2)) = true) by simp [h2])]
        rfl
    · rw [if_neg (show ¬ ((if (0 : Nat) = 0 then decide (k.1 = l.1) else decide (k.2 = l.2)) = true) by simp [h1]), if_neg (show ¬ l.1 = k.1 from fun z => h1 z.symm)]
      show decide (k.1 ≤ l.1) = !decide (l.1 < k.1)
      by_cases g : k.1 ≤ l.1
      · rw [decide_eq_true g, decide_eq_false (by omega)]; rfl
      · rw [decide_eq_false g, decide_eq_true (by omega)]; rfl
  have R2 := R X.prog X.w X.xe (EP X pins σ Q)
  have e' : Ob.lexAt (fun j => if j = 0 then decide (k.1 = l.1) else decide (k.2 = l.2)) (fun j => if j = 0 then decide (k.1 ≤ l.1) else !HT.lexLt l.2 k.2) (decide (#[Value.int k.1 t, Value.ref b].size ≤ #[Value.int l.1 t', Value.ref b'].size)) 0 (min #[Value.int k.1 t, Value.ref b].size #[Value.int l.1 t', Value.ref b'].size) = !klt l k := e
  rw [e'] at R2
  exact R2 ⟨.bl _, H, I, rfl, q⟩
end
/-! ### sorted(d), d a dict with int keys, of any size -/
section
variable {X : Cx}
def rSortD : List V → Hp → VK → Prop := fun xs H Q => ∃ (a : Addr) (kvs : List (Key × V)) (ks : List Int), xs = [.ref a] ∧ Rd H a (.dK kvs) ∧ kvs.map (·.1) = ks.map Sum.inl ∧
  ∀ (ns : List Int) (p : Addr), ns.Perm ks → ns.Pairwise (· ≤ ·) → H p = none → Q (.ref p) (upd H p (.lst (ns.map V.int)))
theorem keys_ints {vs : List (Key × Value)} {ks : List Int} (he : vs.map (·.1) = ks.map Sum.inl) {acc : List Value} (hl : acc.length = ks.length)
    (ha : ∀ (j : Nat) (v : Value), acc[j]? = some v → ∃ k x, vs[j]? = some (k, x) ∧ keyIs k v = true) : IntsAre acc ks := by
  refine ints_each hl fun j v e => ?_
  obtain ⟨k, x, g1, g2⟩ := ha j v e
  have g3 : (ks.map Sum.inl)[j]? = some k := by rw [← he, List.getElem?_map, g1] <;> rfl
  rw [List.getElem?_map] at g3
  match q : ks[j]?, g3 with
  | some y, g3 =>
    have g4 : (Sum.inl y : Key) = k := Option.some.inj g3
    subst g4
    rcases keyIs_shape g2 with ⟨i, t, c1, c2⟩ | ⟨i, t, c1, c2⟩
    · cases c1; exact ⟨y, t, rfl, c2⟩
    · cases c1
theorem cr_sortD (hc : X.calm = true) : CallR X (.builtin "sorted") rSortD := by
  rintro pins s σ H xs us Q I r ⟨a, kvs, ks, rfl, hd, hks, q⟩
  rw [Vals.ref1 r]
  obtain ⟨z0, low, vs, rel, dd⟩ := dk_rd I.hok hd
  obtain ⟨ep, hat⟩ := dd.dictAt
  have he : vs.map (·.1) = ks.map Sum.inl := rel.keys.symm.trans hks
  have hvk : vs.length = ks.length := by simpa using congrArg List.length he
  have hkv : vs.length ≤ sizeLine := by
    have : kvs.length = ks.length := by simpa using congrArg List.length hks
    omega
  refine Calls.call_function_entry PyProof.Rows.kind_sorted PyProof.Rows.plain_sorted PyProof.Rows.entry_sorted (PyProof.Rows.args_sorted1 _) ?_
  unfold Builtin.«sorted»
  refine wpAny_bind (m := checkCount "sorted" 1 1 _) (wpAny_pure (wpAny_bind ?_))
  refine PySem.W.kdu_collect (A := X.A.in1) (PySem.W.kdl_dict (knd := mixKind X.prog X.w) (kvs := vs) (ep := ep) low) (I.ok.hd hc) hat hkv ?_
  intro h1 tk acc keep1 hacc
  have hlen : acc.toList.length = ks.length := by rw [Array.length_toList, hacc.1, hvk]
  have hint : IntsAre acc.toList ks := keys_ints he hlen fun j v e => hacc.2 j v (by rwa [← Array.getElem?_toList])
  have hsz : acc.toList.length ≤ sizeLine := by omega
  have J : Inv X pins σ H { s with heap := h1, toks := tk } := I.kept keep1
  refine wpAny_bind (wpAny_newList ?_ hsz)
  show wpAny _ _ _ _ _ { s with heap := h1.push (seqObj "list" acc.toList.toArray 0), toks := tk }
  have at1 : (h1.push (seqObj "list" acc.toList.toArray 0)).get? h1.objs.size = some (seqObj "list" acc.toList.toArray 0) := Heap.get?_push_size _ rfl
  refine wpAny_bind (wpAny_holding (wpAny_call_entry PyProof.Rows.slot_list_sort ⟨_, at1, rfl⟩ PyProof.Rows.entry_list_sort ?_ (PyProof.Rows.args_list_sort _)))
  refine SrtO.list_sort_ord SrtO.swo_int (s := { s with heap := h1.push (seqObj "list" acc.toList.toArray 0), toks := tk }) at1 hsz (fun h2 => SrtO.ints_sortable hint h2) fun out b1 b2 => ⟨_, rfl, ?_⟩
  obtain ⟨o1, o2, o3⟩ := SrtO.ints_out hint b1 b2
  obtain ⟨e', he'⟩ := PyProof.Rows.sortedHeap_at (vs := acc.toList) (out := out.toArray) at1
  have hol : ((out.map SrtO.iv).map V.int).length ≤ sizeLine := by rw [List.length_map, o2.length_eq]; omega
  refine wpAny_pure ⟨_, rfl, .ref h1.objs.size, upd H h1.objs.size (.lst ((out.map SrtO.iv).map V.int)), J.laid (t' := tk) (fun b u e => ?_) (Nat.le_refl _) ?_, rfl, q _ _ o2 o3 (J.hok.fresh (Nat.le_refl _))⟩
  · have hb : b < h1.objs.size := Heap.lt_size e
    rw [PyProof.Rows.sortedHeap_old (Nat.ne_of_lt hb) (by rw [size_push']; exact Nat.lt_succ_of_lt hb)]
    exact Heap.get?_push_of_some _ e
  · exact ⟨hol, out, e', vals_of_ints o1, he'⟩
end
end Zr
end
section
set_option Elab.async false
set_option linter.all false
set_option maxRecDepth 100000
/-! Operations on data. -/
namespace Zq
open PySem PySem.Spec PyProof.Rows L2
open Rep (rep)
section
variable {c : Cc} {env : Env'} {M : Mem} {α β γ : Type} [Rep α] [Rep β] [Rep γ] {ta tb te : TE} {P : Dy → Mem → Prop} {B : Bool → Mem → Prop} {k : Nat} {nx : Env' → Mem → Prop} {rt : Dy → Mem → Prop}
/-! ### ints, truth values -/
theorem rr_II {f : Int → Int → Int} {x y : Int} (p : P (dy (f x y)) M) : RR c (rI0 fun i j => .int (f i j)) (dy x) (dy y) M P :=
  rr_pure (fun as W v w Q m r1 r2 k => ⟨x, y, r1, r2, k _ rfl⟩) p
theorem rr_IB {f : Int → Int → Bool} {x y : Int} (p : P (dy (f x y)) M) : RR c (rI0 fun i j => .bl (f i j)) (dy x) (dy y) M P :=
  rr_pure (fun as W v w Q m r1 r2 k => ⟨x, y, r1, r2, k _ rfl⟩) p
theorem rr_IC {C : Int → Int → Prop} {f : Int → Int → Int} {x y : Int} (hc : C x y) (p : P (dy (f x y)) M) : RR c (rI C fun i j => .int (f i j)) (dy x) (dy y) M P :=
  rr_pure (fun as W v w Q m r1 r2 k => ⟨x, y, r1, r2, hc, k _ rfl⟩) p
theorem dec_int (x y : Int) : decide (V.int x = V.int y) = decide (x = y) := by
  by_cases h : x = y
  · subst h; simp
  · rw [decide_eq_false h, decide_eq_false (fun z => h (V.int.inj z))]
theorem dec_bl (x y : Bool) : decide (V.bl x = V.bl y) = decide (x = y) := by cases x <;> cases y <;> decide
theorem rr_eqI {x y : Int} (p : P (dy (decide (x = y))) M) : RR c rEq (dy x) (dy y) M P :=
  rr_pure (fun as W v w Q m r1 r2 k => by
    obtain rfl : v = .int x := r1
    obtain rfl : w = .int y := r2
    exact ⟨rfl, by rw [dec_int]; exact k _ rfl⟩) p
theorem rr_neI {x y : Int} (p : P (dy (!decide (x = y))) M) : RR c rNe (dy x) (dy y) M P :=
  rr_pure (fun as W v w Q m r1 r2 k => by
    obtain rfl : v = .int x := r1
    obtain rfl : w = .int y := r2
    exact ⟨rfl, by rw [dec_int]; exact k _ rfl⟩) p
theorem rr_eqB {x y : Bool} (p : P (dy (decide (x = y))) M) : RR c rEq (dy x) (dy y) M P :=
  rr_pure (fun as W v w Q m r1 r2 k => by
    obtain rfl : v = .bl x := r1
    obtain rfl : w = .bl y := r2
    exact ⟨rfl, by rw [dec_bl]; exact k _ rfl⟩) p
/-- x is None -/
def rIsN : R2 := fun x y H Q => y = .non ∧ Q (.bl (decide (x = .non))) H
def rNotN : R2 := fun x y H Q => y = .non ∧ Q (.bl (!decide (x = .non))) H
/-- what is not None -/
class Some1 (α : Type) [Rep α] : Prop where
  no : ∀ {c F as v} {x : α}, rep c F as v x → v ≠ .non
instance : Some1 Int := ⟨fun h z => by rw [show _ = V.int _ from h] at z; cases z⟩
instance : Some1 (List α) := ⟨fun h z => by obtain ⟨a, _, e, _⟩ := h; rw [e] at z; cases z⟩
instance : Some1 (Tp α) := ⟨fun h z => by obtain ⟨a, _, e, _⟩ := h; rw [e] at z; cases z⟩
instance : Some1 (α × β) := ⟨fun h z => by obtain ⟨a, _, _, e, _⟩ := h; rw [e] at z; cases z⟩
instance : Some1 (T3 α β γ) := ⟨fun h z => by obtain ⟨a, _, _, _, e, _⟩ := h; rw [e] at z; cases z⟩
theorem rr_isN [Some1 α] {x : α} (p : P (dy false) M) : RR c rIsN (dy x) (dy ()) M P :=
  rr_pure (fun as W v w Q m r1 r2 k => ⟨r2, by rw [decide_eq_false (Some1.no r1)]; exact k _ rfl⟩) p
theorem rr_isN0 (p : P (dy true) M) : RR c rIsN (dy ()) (dy ()) M P :=
  rr_pure (fun as W v w Q m r1 r2 k => ⟨r2, by rw [decide_eq_true (show v = .non from r1)]; exact k _ rfl⟩) p
theorem rr_notN [Some1 α] {x : α} (p : P (dy true) M) : RR c rNotN (dy x) (dy ()) M P :=
  rr_pure (fun as W v w Q m r1 r2 k => ⟨r2, by rw [decide_eq_false (Some1.no r1)]; exact k _ rfl⟩) p
theorem rr_notN0 (p : P (dy false) M) : RR c rNotN (dy ()) (dy ()) M P :=
  rr_pure (fun as W v w Q m r1 r2 k => ⟨r2, by rw [decide_eq_true (show v = .non from r1)]; exact k _ rfl⟩) p
/-- -x -/
theorem we_neg (h : WE c te env M (As Int fun x m => P (dy (-x)) m)) : WE c (tUn (rU fun i => .int (-i)) te) env M P := fun as σ H Q s k => h as σ H _ s fun v as' H' d M' st m r p => by
  obtain ⟨x, rfl, p⟩ := p
  exact ⟨x, r, k _ as' H' (dy (-x)) M' st m rfl p⟩
/-! ### data that are compared -/
class Dt (α : Type) [Rep α] where
  enc : α → PyData
  dp : ∀ {c F as v x}, rep c F as v x → Dp c.K F v (enc x)
  lay : ∀ x, (enc x).canLay0 = true
  dep : Nat
  small : dep ≤ 64
  depth : ∀ x, (enc x).depth ≤ dep
  inj : ∀ x y, PyData.eqv (enc x) (enc y) = true ↔ x = y
instance : Dt Int := ⟨.int, fun h => by rw [show _ = V.int _ from h]; exact .int _, fun x => by simp [PyData.canLay0], 1, by decide, fun x => by simp [PyData.depth], fun x y => by simp [PyData.eqv]⟩
instance : Dt Bool := ⟨.bool, fun h => by rw [show _ = V.bl _ from h]; exact .bl _, fun x => by simp [PyData.canLay0], 1, by decide, fun x => by simp [PyData.depth], fun x y => by simp [PyData.eqv]⟩
mutual
theorem Dp.mono {K : PySem.W.Frag} {F F' : Hp} (e : Ex F F') : ∀ {v : V} {d : PyData}, Dp K F v d → Dp K F' v d
  | _, _, .non => .non
  | _, _, .bl b => .bl b
  | _, _, .int i => .int i
  | _, _, .str x => .str x
  | _, _, .lst h t => .lst (sqL_mono e h) (DpAll.mono e t)
  | _, _, .tup h t => .tup (sqT_mono e h) (DpAll.mono e t)
theorem DpAll.mono {K : PySem.W.Frag} {F F' : Hp} (e : Ex F F') : ∀ {v : List V} {d : List PyData}, DpAll K F v d → DpAll K F' v d
  | _, _, .nil => .nil
  | _, _, .cons h t => .cons (Dp.mono e h) (DpAll.mono e t)
end
theorem dpAll [Dt α] {F : Hp} {as : List Addr} : ∀ {vs : List V} {xs : List α}, RepL c F as vs xs → DpAll c.K F vs (xs.map Dt.enc)
  | _, [], .nil => .nil
  | _, x :: xs, .cons r t => .cons (Dt.dp r) (dpAll t)
theorem layAll [Dt α] : ∀ xs : List α, PyData.canLayAll0 (xs.map Dt.enc) = true
  | [] => by simp [PyData.canLayAll0]
  | x :: xs => by simp [PyData.canLayAll0, Dt.lay x, layAll xs]
theorem depthAll [Dt α] : ∀ xs : List α, PyData.depthAll (xs.map Dt.enc) ≤ Dt.dep (α := α)
  | [] => by simp [PyData.depthAll]
  | x :: xs => by
    have h1 := Dt.depth x
    have h2 := depthAll xs
    simp only [List.map_cons, PyData.depthAll]; omega
theorem eqvAll_inj [Dt α] : ∀ xs ys : List α, PyData.eqvAll (xs.map Dt.enc) (ys.map Dt.enc) = true ↔ xs = ys
  | [], [] => by simp [PyData.eqvAll]
  | [], y :: ys => by simp [PyData.eqvAll]
  | x :: xs, [] => by simp [PyData.eqvAll]
  | x :: xs, y :: ys => by
    simp only [List.map_cons, PyData.eqvAll, Bool.and_eq_true, Dt.inj, eqvAll_inj xs ys, List.cons.injEq]
/-- how deep: for instances -/
class Lt64 (n : Nat) : Prop where
  lt : n < 64
instance : Lt64 0 := ⟨by decide⟩
instance : Lt64 1 := ⟨by decide⟩
instance : Lt64 2 := ⟨by decide⟩
instance : Lt64 3 := ⟨by decide⟩
instance : Lt64 4 := ⟨by decide⟩
instance : Lt64 5 := ⟨by decide⟩
instance : Lt64 6 := ⟨by decide⟩
instance : Lt64 7 := ⟨by decide⟩
instance instDtL [Dt α] [h : Lt64 (Dt.dep (α := α))] : Dt (List α) where
  enc xs := .list (xs.map Dt.enc)
  dp := by rintro c F as v x ⟨a, vs, rfl, h, r⟩; exact .lst h (dpAll r)
  lay x := by simp only [PyData.canLay0]; exact layAll x
  dep := Dt.dep (α := α) + 1
  small := h.lt
  depth x := by have := depthAll x; simp only [PyData.depth]; omega
  inj x y := by simp only [PyData.eqv]; exact eqvAll_inj x y
instance instDtT [Dt α] [h : Lt64 (Dt.dep (α := α))] : Dt (Tp α) where
  enc xs := .tuple (xs.l.map Dt.enc)
  dp := by rintro c F as v x ⟨a, vs, rfl, h, r⟩; exact .tup h (dpAll r)
  lay x := by simp only [PyData.canLay0]; exact layAll x.l
  dep := Dt.dep (α := α) + 1
  small := h.lt
  depth x := by have := depthAll x.l; simp only [PyData.depth]; omega
  inj x y := by
    obtain ⟨x⟩ := x
    obtain ⟨y⟩ := y
    simp only [PyData.eqv, Tp.mk.injEq]; exact eqvAll_inj x y
instance instDtP [Dt α] [Dt β] [h1 : Lt64 (Dt.dep (α := α))] [h2 : Lt64 (Dt.dep (α := β))] : Dt (α × β) where
  enc x := .tuple [Dt.enc x.1, Dt.enc x.2]
  dp := by rintro c F as v x ⟨a, v1, v2, rfl, h, r1, r2⟩; exact .tup h (.cons (Dt.dp r1) (.cons (Dt.dp r2) .nil))
  lay x := by simp [PyData.canLay0, PyData.canLayAll0, Dt.lay]
  dep := max (Dt.dep (α := α)) (Dt.dep (α := β)) + 1
  small := by have := h1.lt; have := h2.lt; omega
  depth x := by
    have := Dt.depth x.1
    have := Dt.depth x.2
    simp only [PyData.depth, PyData.depthAll]; omega
  inj x y := by
    obtain ⟨x1, x2⟩ := x
    obtain ⟨y1, y2⟩ := y
    simp [PyData.eqv, PyData.eqvAll, Dt.inj]
instance [h : Lt64 a] [h2 : Lt64 b] : Lt64 (max a b) := ⟨by have := h.lt; have := h2.lt; omega⟩
theorem Dt.shaped [Dt α] (x : α) : SeqAt.shaped (Dt.enc x) = true := by
  have h1 := Dt.depth x
  have h2 := Dt.small (α := α)
  unfold SeqAt.shaped
  rw [Bool.and_eq_true]
  exact ⟨Dt.lay x, decide_eq_true (by omega)⟩
theorem Dt.eq [Dt α] [DecidableEq α] (x y : α) : PyData.eqv (Dt.enc x) (Dt.enc y) = decide (x = y) := by
  by_cases h : x = y
  · rw [decide_eq_true h]; exact (Dt.inj x y).mpr h
  · rw [decide_eq_false h]
    cases e : PyData.eqv (Dt.enc x) (Dt.enc y) with
    | false => rfl
    | true => exact absurd ((Dt.inj x y).mp e) h
theorem rr_eqD [Dt α] [DecidableEq α] {x y : α} (p : P (dy (decide (x = y))) M) : RR c (rEqD c.K) (dy x) (dy y) M P :=
  rr_pure (fun as W v w Q m r1 r2 k => ⟨_, _, Dp.mono m.ex (Dt.dp r1), Dp.mono m.ex (Dt.dp r2), Dt.shaped x, Dt.shaped y, by rw [Dt.eq]; exact k _ rfl⟩) p
theorem rr_neD [Dt α] [DecidableEq α] {x y : α} (p : P (dy (!decide (x = y))) M) : RR c (rNeD c.K) (dy x) (dy y) M P :=
  rr_pure (fun as W v w Q m r1 r2 k => ⟨_, _, Dp.mono m.ex (Dt.dp r1), Dp.mono m.ex (Dt.dp r2), Dt.shaped x, Dt.shaped y, by rw [Dt.eq]; exact k _ rfl⟩) p
/-! ### an item at a place -/
theorem atI_of {δ : Type} {xs : List δ} {i : Int} {y : δ} (h0 : 0 ≤ i) (h : xs[i.toNat]? = some y) : atI xs i = some y := by
  have hl := (List.getElem?_eq_some_iff.mp h).1
  unfold atI ixN
  rw [if_pos h0, if_pos (by omega)]
  exact h
theorem rr_ixL {xs : List α} {i : Int} {y : α} (h0 : 0 ≤ i) (h : xs[i.toNat]? = some y) (p : P (dy y) M) : RR c (rIxL c.K) (dy xs) (dy i) M P :=
  rr_pure (fun as W v w Q m r1 r2 k => by
    obtain ⟨a, vs, rfl, hs, r⟩ := r1
    obtain ⟨u, hu, ru⟩ := r.get h
    exact ⟨a, vs, i, u, rfl, r2, sqL_mono m.ex hs, atI_of h0 hu, k _ ru⟩) p
theorem rr_ixT {xs : Tp α} {i : Int} {y : α} (h0 : 0 ≤ i) (h : xs.l[i.toNat]? = some y) (p : P (dy y) M) : RR c (rIxT c.K) (dy xs) (dy i) M P :=
  rr_pure (fun as W v w Q m r1 r2 k => by
    obtain ⟨a, vs, rfl, hs, r⟩ := r1
    obtain ⟨u, hu, ru⟩ := r.get h
    exact ⟨a, vs, i, u, rfl, r2, sqT_mono m.ex hs, atI_of h0 hu, k _ ru⟩) p
theorem rr_ixP0 {x : α × β} (p : P (dy x.1) M) : RR c (rIxT c.K) (dy x) (dy (0 : Int)) M P :=
  rr_pure (fun as W v w Q m r1 r2 k => by
    obtain ⟨a, v1, v2, rfl, hs, q1, q2⟩ := r1
    exact ⟨a, [v1, v2], 0, v1, rfl, r2, sqT_mono m.ex hs, rfl, k _ q1⟩) p
theorem rr_ixP1 {x : α × β} (p : P (dy x.2) M) : RR c (rIxT c.K) (dy x) (dy (1 : Int)) M P :=
  rr_pure (fun as W v w Q m r1 r2 k => by
    obtain ⟨a, v1, v2, rfl, hs, q1, q2⟩ := r1
    exact ⟨a, [v1, v2], 1, v2, rfl, r2, sqT_mono m.ex hs, rfl, k _ q2⟩) p
theorem rr_ix30 {x : T3 α β γ} (p : P (dy x.a) M) : RR c (rIxT c.K) (dy x) (dy (0 : Int)) M P :=
  rr_pure (fun as W v w Q m r1 r2 k => by
    obtain ⟨a, v1, v2, v3, rfl, hs, q1, q2, q3⟩ := r1
    exact ⟨a, [v1, v2, v3], 0, v1, rfl, r2, sqT_mono m.ex hs, rfl, k _ q1⟩) p
theorem rr_ix31 {x : T3 α β γ} (p : P (dy x.b) M) : RR c (rIxT c.K) (dy x) (dy (1 : Int)) M P :=
  rr_pure (fun as W v w Q m r1 r2 k => by
    obtain ⟨a, v1, v2, v3, rfl, hs, q1, q2, q3⟩ := r1
    exact ⟨a, [v1, v2, v3], 1, v2, rfl, r2, sqT_mono m.ex hs, rfl, k _ q2⟩) p
theorem rr_ix32 {x : T3 α β γ} (p : P (dy x.c) M) : RR c (rIxT c.K) (dy x) (dy (2 : Int)) M P :=
  rr_pure (fun as W v w Q m r1 r2 k => by
    obtain ⟨a, v1, v2, v3, rfl, hs, q1, q2, q3⟩ := r1
    exact ⟨a, [v1, v2, v3], 2, v3, rfl, r2, sqT_mono m.ex hs, rfl, k _ q3⟩) p
/-- of a list that changes -/
theorem MemOk.lst {as : List Addr} {W : Hw} {j : Nat} {xs : List α} (m : MemOk c as W M) (h : M[j]? = some (cLst xs)) : ∃ a vs, as[j]? = some a ∧ W.H a = some (.lst vs) ∧ RepL c W.F as vs xs := by
  obtain ⟨a, o, h1, h2, vs, rfl, hr⟩ := m.at_ j _ h
  exact ⟨a, vs, h1, h2, hr⟩
theorem rr_ixM {j : MR} {i : Int} {xs : List α} {y : α} (hm : M[j.k]? = some (cLst xs)) (h0 : 0 ≤ i) (h : xs[i.toNat]? = some y) (p : P (dy y) M) : RR c (rIxL c.K) (dy j) (dy i) M P :=
  rr_pure (fun as W v w Q m r1 r2 k => by
    obtain ⟨a, vs, h1, h2, r⟩ := m.lst hm
    obtain ⟨a', h1', rfl⟩ := r1
    rw [h1] at h1'; cases h1'
    obtain ⟨u, hu, ru⟩ := r.get h
    exact ⟨a, vs, i, u, rfl, r2, sql_of h2, atI_of h0 hu, k _ ru⟩) p
/-! ### a place set -/
theorem ixN_of {n : Nat} {i : Int} (h0 : 0 ≤ i) (h : i < n) : ixN n i = some i.toNat := by
  unfold ixN
  rw [if_pos h0, if_pos h]
theorem wg_setM {to ti : TE} {x : α} (h : WE c to env M (As MR fun j m1 => WE c ti env m1 (As Int fun i m2 => ∃ xs : List α, m2[j.k]? = some (cLst xs) ∧ 0 ≤ i ∧ i < (xs.length : Int) ∧ nx env (m2.set j.k (cLst (xs.set i.toNat x)))))) : WG c [] (gSub to ti rSetL) (dy x) env M nx := fun as σ w v N s r q =>
  h as σ w _ s fun u1 as1 w1 d1 m1 st1 mm1 r1 p1 => by
    obtain ⟨j, rfl, p1⟩ := p1
    refine p1 as1 σ w1 _ (s.step st1 mm1) fun u2 as2 w2 d2 m2 st2 mm2 r2 p2 => ?_
    obtain ⟨i, rfl, xs, hm, h0, hi, p⟩ := p2
    obtain ⟨a, vs, ha, hv, hr⟩ := mm2.lst hm
    obtain ⟨a', ha', rfl⟩ := Rep.mono (x := j) st2.ex st2.pre r1
    rw [ha] at ha'; cases ha'
    refine ⟨a, vs, i, i.toNat, rfl, r2, hv, ixN_of h0 (by rw [hr.length]; exact hi), ?_⟩
    obtain ⟨F2, H2⟩ := w2
    obtain ⟨st3, mm3⟩ := MemOk.put (o := .lst (vs.set i.toNat v)) (d := cLst (xs.set i.toNat x)) mm2 ha ⟨_, rfl, RepL.set (Rep.mono (x := x) (st1.trans st2).ex (st1.trans st2).pre r) _ hr⟩
    exact q env _ as2 σ _ ((st1.trans st2).trans st3) ⟨s.sl.step ((st1.trans st2).trans st3), mm3⟩ (fun _ _ => rfl) p
/-! ### len, tuple, list -/
def rLen (K : PySem.W.Frag) : List V → Hp → VK → Prop := fun xs H Q => ∃ p ys, xs = [.ref p] ∧ (SqL K H p ys ∨ SqT K H p ys) ∧ Q (.int ys.length) H
theorem rc_lenL {xs : List α} (p : P (dy (xs.length : Int)) M) : RC c (rLen c.K) [dy xs] M P := rc_pure (fun as W vs Q m r k => by
  obtain ⟨v, rfl, a, ws, rfl, hs, q⟩ := r.one
  exact ⟨a, ws, rfl, .inl (sqL_mono m.ex hs), by rw [q.length]; exact k _ rfl⟩) p
theorem rc_lenT {xs : Tp α} (p : P (dy (xs.l.length : Int)) M) : RC c (rLen c.K) [dy xs] M P := rc_pure (fun as W vs Q m r k => by
  obtain ⟨v, rfl, a, ws, rfl, hs, q⟩ := r.one
  exact ⟨a, ws, rfl, .inr (sqT_mono m.ex hs), by rw [q.length]; exact k _ rfl⟩) p
theorem rc_lenP {x : α × β} (p : P (dy (2 : Int)) M) : RC c (rLen c.K) [dy x] M P := rc_pure (fun as W vs Q m r k => by
  obtain ⟨v, rfl, a, v1, v2, rfl, hs, q1, q2⟩ := r.one
  exact ⟨a, [v1, v2], rfl, .inr (sqT_mono m.ex hs), k _ rfl⟩) p
theorem rc_lenM {j : MR} {xs : List α} (hm : M[j.k]? = some (cLst xs)) (p : P (dy (xs.length : Int)) M) : RC c (rLen c.K) [dy j] M P := rc_pure (fun as W vs Q m r k => by
  obtain ⟨v, rfl, a', h1', rfl⟩ := r.one
  obtain ⟨a, ws, h1, h2, q⟩ := m.lst hm
  rw [h1] at h1'; cases h1'
  exact ⟨_, ws, rfl, .inl (sql_of h2), by rw [q.length]; exact k _ rfl⟩) p
def rTup (K : PySem.W.Frag) : List V → Hp → VK → Prop := fun xs H Q => ∃ p ys, xs = [.ref p] ∧ ((SqL K H p ys ∧ ∀ l, H l = none → Q (.ref l) (upd H l (.tup ys))) ∨ (SqT K H p ys ∧ Q (.ref p) H))
theorem rc_tupL {xs : List α} (p : P (dy (Tp.mk xs)) M) : RC c (rTup c.K) [dy xs] M P := fun as W vs Q m r k => by
  obtain ⟨v, rfl, a, ws, rfl, hs, q⟩ := r.one
  exact ⟨a, ws, rfl, .inl ⟨sqL_mono m.ex hs, new_obj (z := dy (Tp.mk xs)) m (fun p F' hp e => ⟨p, ws, rfl, sqt_of hp, RepL.mono e (List.prefix_refl _) q⟩) k p⟩⟩
theorem rc_tupM {j : MR} {xs : List α} (hm : M[j.k]? = some (cLst xs)) (p : P (dy (Tp.mk xs)) M) : RC c (rTup c.K) [dy j] M P := fun as W vs Q m r k => by
  obtain ⟨v, rfl, a', h1', rfl⟩ := r.one
  obtain ⟨a, ws, h1, h2, q⟩ := m.lst hm
  rw [h1] at h1'; cases h1'
  exact ⟨_, ws, rfl, .inl ⟨sql_of h2, new_obj (z := dy (Tp.mk xs)) m (fun p F' hp e => ⟨p, ws, rfl, sqt_of hp, RepL.mono e (List.prefix_refl _) q⟩) k p⟩⟩
def rLst (K : PySem.W.Frag) : List V → Hp → VK → Prop := fun xs H Q => ∃ p ys, xs = [.ref p] ∧ (SqL K H p ys ∨ SqT K H p ys) ∧ ∀ l, H l = none → Q (.ref l) (upd H l (.lst ys))
theorem rc_lstTC {xs : Tp α} (p : P (dy (MR.mk M.length)) (M ++ [cLst xs.l])) : RC c (rLst c.K) [dy xs] M P := fun as W vs Q m r k => by
  obtain ⟨v, rfl, a, ws, rfl, hs, q⟩ := r.one
  refine ⟨a, ws, rfl, .inr (sqT_mono m.ex hs), fun l hl => ?_⟩
  obtain ⟨st, m'⟩ := MemOk.newCell (o := .lst ws) (d := cLst xs.l) m hl ⟨ws, rfl, q⟩
  exact k _ _ _ (dy (MR.mk M.length)) _ st m' ⟨l, by show (as ++ [l])[M.length]? = some l; rw [m.len]; simp, rfl⟩ p
/-! ### int, abs, min -/
def rInt1 : List V → Hp → VK → Prop := fun xs H Q => (∃ i, xs = [.int i] ∧ Q (.int i) H) ∨ ∃ k, xs = [.bl k] ∧ Q (.int (if k then 1 else 0)) H
theorem rc_int {x : Int} (p : P (dy x) M) : RC c rInt1 [dy x] M P := rc_pure (fun as W vs Q m r k => by
  obtain ⟨v, rfl, q⟩ := r.one
  obtain rfl : v = .int x := q
  exact .inl ⟨x, rfl, k _ rfl⟩) p
def rAbs : List V → Hp → VK → Prop := fun xs H Q => ∃ i, xs = [.int i] ∧ Q (.int (if i < 0 then -i else i)) H
theorem rc_abs {x : Int} (p : P (dy (if x < 0 then -x else x)) M) : RC c rAbs [dy x] M P := rc_pure (fun as W vs Q m r k => by
  obtain ⟨v, rfl, q⟩ := r.one
  obtain rfl : v = .int x := q
  exact ⟨x, rfl, k _ rfl⟩) p
def rMin2 : List V → Hp → VK → Prop := fun xs H Q => ∃ i j, xs = [.int i, .int j] ∧ Q (.int (if j < i then j else i)) H
theorem rc_min2 {x y : Int} (p : P (dy (if y < x then y else x)) M) : RC c rMin2 [dy x, dy y] M P := rc_pure (fun as W vs Q m r k => by
  obtain ⟨v, w, rfl, q1, q2⟩ := r.two
  obtain rfl : v = .int x := q1
  obtain rfl : w = .int y := q2
  exact ⟨x, y, rfl, k _ rfl⟩) p
/-! ### all, any -/
theorem repB : ∀ {F : Hp} {as : List Addr} {vs : List V} {bs : List Bool}, RepL c F as vs bs → vs = bs.map V.bl
  | _, _, _, _, .nil => rfl
  | _, _, _, _, .cons r t => by rw [List.map_cons, repB t, show _ = V.bl _ from r]
theorem repI : ∀ {F : Hp} {as : List Addr} {vs : List V} {xs : List Int}, RepL c F as vs xs → vs = xs.map V.int
  | _, _, _, _, .nil => rfl
  | _, _, _, _, .cons r t => by rw [List.map_cons, repI t, show _ = V.int _ from r]
theorem Irep : ∀ {F : Hp} {as : List Addr} (xs : List Int), RepL c F as (xs.map V.int) xs
  | _, _, [] => .nil
  | _, _, x :: xs => .cons rfl (Irep xs)
theorem rc_all {bs : List Bool} (p : P (dy (bs.all id)) M) : RC c (rAll c.K) [dy bs] M P := rc_pure (fun as W vs Q m r k => by
  obtain ⟨v, rfl, a, ws, rfl, hs, q⟩ := r.one
  rw [repB q] at hs
  exact ⟨a, bs, rfl, sqL_mono m.ex hs, k _ rfl⟩) p
theorem rc_any {bs : List Bool} (p : P (dy (bs.any id)) M) : RC c (rAny c.K) [dy bs] M P := rc_pure (fun as W vs Q m r k => by
  obtain ⟨v, rfl, a, ws, rfl, hs, q⟩ := r.one
  rw [repB q] at hs
  exact ⟨a, bs, rfl, sqL_mono m.ex hs, k _ rfl⟩) p
/-! ### sorted -/
theorem rc_sortI {ns : List Int} (p : ∀ zs : List Int, zs.Perm ns → zs.Pairwise (· ≤ ·) → P (dy zs) M) : RC c (rSortedI c.K) [dy ns] M P := fun as W vs Q m r k => by
  obtain ⟨v, rfl, a, ws, rfl, hs, q⟩ := r.one
  rw [repI q] at hs
  exact ⟨a, ns, rfl, sqL_mono m.ex hs, fun zs p' h1 h2 hp => new_obj (z := dy zs) m (fun p F' hp e => ⟨p, _, rfl, sql_of hp, Irep zs⟩) k (p zs h1 h2) p' hp⟩
theorem rc_sortIM {j : MR} {ns : List Int} (hm : M[j.k]? = some (cLst ns)) (p : ∀ zs : List Int, zs.Perm ns → zs.Pairwise (· ≤ ·) → P (dy zs) M) : RC c (rSortedI c.K) [dy j] M P := fun as W vs Q m r k => by
  obtain ⟨v, rfl, a', h1', rfl⟩ := r.one
  obtain ⟨a, ws, h1, h2, q⟩ := m.lst hm
  rw [h1] at h1'; cases h1'
  rw [repI q] at h2
  exact ⟨_, ns, rfl, sql_of h2, fun zs p' h1 h2 hp => new_obj (z := dy zs) m (fun p F' hp e => ⟨p, _, rfl, sql_of hp, Irep zs⟩) k (p zs h1 h2) p' hp⟩
abbrev Kind := Int × Tp Int
def kd (k : Kind) : Zr.Kd := (k.1, k.2.l)
theorem rep_kd {F : Hp} {as : List Addr} {v : V} {k : Kind} (h : rep c F as v k) : Zr.KdAt c.K F v (kd k) := by
  obtain ⟨a, v1, v2, rfl, hs, r1, b, ws, rfl, hs2, q⟩ := h
  obtain rfl : v1 = .int k.1 := r1
  rw [repI q] at hs2
  exact ⟨a, b, rfl, hs, hs2⟩
theorem kd_rep {F : Hp} {as : List Addr} {v : V} {k : Zr.Kd} (h : Zr.KdAt c.K F v k) : rep c F as v ((k.1, Tp.mk k.2) : Kind) := by
  obtain ⟨a, b, rfl, h1, h2⟩ := h
  exact ⟨a, _, _, rfl, h1, rfl, b, _, rfl, h2, Irep _⟩
theorem KdAt.mono {F F' : Hp} {v : V} {k : Zr.Kd} (e : Ex F F') (h : Zr.KdAt c.K F v k) : Zr.KdAt c.K F' v k := by
  obtain ⟨a, b, rfl, h1, h2⟩ := h
  exact ⟨a, b, rfl, sqT_mono e h1, sqT_mono e h2⟩
theorem kds {F : Hp} {as : List Addr} : ∀ {vs : List V} {ks : List Kind}, RepL c F as vs ks → Paired (Zr.KdAt c.K F) vs (ks.map kd)
  | _, _, .nil => .nil
  | _, _, .cons r t => .cons (rep_kd r) (kds t)
def unkd (k : Zr.Kd) : Kind := (k.1, Tp.mk k.2)
theorem kd_unkd (k : Zr.Kd) : kd (unkd k) = k := rfl
theorem unkd_kd (k : Kind) : unkd (kd k) = k := rfl
theorem unkds (ks : List Kind) : (ks.map kd).map unkd = ks := by
  rw [List.map_map]
  exact List.map_id' ks
theorem kdsR {F : Hp} {as : List Addr} : ∀ {vs : List V} {ks : List Zr.Kd}, Paired (Zr.KdAt c.K F) vs ks → RepL c F as vs (ks.map unkd)
  | _, _, .nil => .nil
  | _, _, .cons r t => .cons (kd_rep r) (kdsR t)
/-- k before l -/
def kbef (k l : Kind) : Bool := Zr.klt (kd k) (kd l)
/-- a list of kinds, sorted: in order, the same ones -/
structure KSort (zs ks : List Kind) : Prop where
  perm : zs.Perm ks
  asc : zs.Pairwise fun x y => kbef y x = false
theorem ksort_of {zs : List Zr.Kd} {ks : List Kind} (h1 : zs.Perm (ks.map kd)) (h2 : zs.Pairwise (fun x y => Zr.klt y x = false)) : KSort (zs.map unkd) ks := by
  refine ⟨?_, ?_⟩
  · have := h1.map unkd
    rw [unkds] at this; exact this
  · rw [List.pairwise_map]; exact h2
theorem rc_sortK {ks : List Kind} (p : ∀ zs, KSort zs ks → P (dy zs) M) : RC c (Zr.rSortK c.K) [dy ks] M P := fun as W vs Q m r k => by
  obtain ⟨v, rfl, a, ws, rfl, hs, q⟩ := r.one
  exact ⟨a, ws, ks.map kd, Zr.KdAt c.K W.F, rfl, sqL_mono m.ex hs, fun v k h => KdAt.mono m.ex h, kds q, fun ys zs p' h1 h2 h3 hp =>
    new_obj (z := dy (zs.map unkd)) m (fun p F' hp e => ⟨p, _, rfl, sql_of hp, RepL.mono e (List.prefix_refl _) (kdsR h1)⟩) k (p _ (ksort_of h2 h3)) p' hp⟩
theorem rc_sortKM {j : MR} {ks : List Kind} (hm : M[j.k]? = some (cLst ks)) (p : ∀ zs, KSort zs ks → P (dy zs) M) : RC c (Zr.rSortK c.K) [dy j] M P := fun as W vs Q m r k => by
  obtain ⟨v, rfl, a', h1', rfl⟩ := r.one
  obtain ⟨a, ws, h1, h2, q⟩ := m.lst hm
  rw [h1] at h1'; cases h1'
  exact ⟨_, ws, ks.map kd, Zr.KdAt c.K W.F, rfl, sql_of h2, fun v k h => KdAt.mono m.ex h, kds q, fun ys zs p' h1 h2 h3 hp =>
    new_obj (z := dy (zs.map unkd)) m (fun p F' hp e => ⟨p, _, rfl, sql_of hp, RepL.mono e (List.prefix_refl _) (kdsR h1)⟩) k (p _ (ksort_of h2 h3)) p' hp⟩
theorem rr_leK {x y : Kind} (p : P (dy (!kbef y x)) M) : RR c (Zr.rLeK c.K) (dy x) (dy y) M P :=
  rr_pure (fun as W v w Q m r1 r2 k => ⟨kd x, kd y, KdAt.mono m.ex (rep_kd r1), KdAt.mono m.ex (rep_kd r2), k _ rfl⟩) p
end
end Zq
end
section
set_option Elab.async false
set_option linter.all false
set_option maxRecDepth 100000
/-! Dicts, sets, iterators, lists that grow, cuts. -/
namespace Zq
open PySem PySem.Spec PyProof.Rows L2
open Rep (rep)
section
variable {c : Cc} {env : Env'} {M : Mem} {Q : List Dy → Mem → Prop} {α β γ : Type} [Rep α] [Rep β] [Rep γ] {ta tb te : TE} {P : Dy → Mem → Prop} {B : Bool → Mem → Prop} {k : Nat} {nx : Env' → Mem → Prop} {rt : Dy → Mem → Prop}
/-! ### dicts with int keys, as lists of pairs in their order -/
def dget {β : Type} : List (Int × β) → Int → Option β
  | [], _ => none
  | p :: r, k => if p.1 = k then some p.2 else dget r k
def dput {β : Type} : List (Int × β) → Int → β → List (Int × β)
  | [], k, v => [(k, v)]
  | p :: r, k, v => if p.1 = k then (k, v) :: r else p :: dput r k v
theorem inl_eq {i j : Int} : ((Sum.inl i : Key) = Sum.inl j) ↔ i = j := ⟨Sum.inl.inj, fun h => by rw [h]⟩
theorem rk_get {F : Hp} {as : List Addr} (i : Int) : ∀ {ps : List (Key × V)} {kvs : List (Int × β)}, RepK c F as ps kvs →
    (dget kvs i = none ∧ valV ps (Sum.inl i) = none) ∨ ∃ y v, dget kvs i = some y ∧ valV ps (Sum.inl i) = some v ∧ rep c F as v y
  | _, [], .nil => .inl ⟨rfl, rfl⟩
  | p :: ps, q :: qs, .cons r t => by
    by_cases h : q.1 = i
    · refine .inr ⟨q.2, p.2, if_pos h, valV_pos (by rw [r.1, h]), r.2⟩
    · have e1 : dget (q :: qs) i = dget qs i := if_neg h
      have e2 : valV (p :: ps) (Sum.inl i : Key) = valV ps (Sum.inl i) := valV_neg (by rw [r.1]; exact fun z => h (inl_eq.mp z))
      rw [e1, e2]
      exact rk_get i t
theorem rk_any {F : Hp} {as : List Addr} (i : Int) : ∀ {ps : List (Key × V)} {kvs : List (Int × β)}, RepK c F as ps kvs → (ps.any fun kv => decide (kv.1 = (Sum.inl i : Key))) = kvs.any fun kv => decide (kv.1 = i)
  | _, [], .nil => rfl
  | p :: ps, q :: qs, .cons r t => by
    rw [List.any_cons, List.any_cons, rk_any i t, r.1]
    have : decide ((Sum.inl q.1 : Key) = Sum.inl i) = decide (q.1 = i) := by
      by_cases h : q.1 = i
      · rw [h]; simp
      · rw [decide_eq_false h, decide_eq_false (fun z => h (inl_eq.mp z))]
    rw [this]
theorem rk_len {F : Hp} {as : List Addr} {ps : List (Key × V)} {kvs : List (Int × β)} (h : RepK c F as ps kvs) : ps.length = kvs.length := Paired.length h
/-- no key twice -/
def Keys1 {β : Type} (kvs : List (Int × β)) : Prop := (kvs.map (·.1)).Nodup
theorem dput_new {β : Type} {k : Int} {v : β} : ∀ {kvs : List (Int × β)}, (kvs.any fun kv => decide (kv.1 = k)) = false → dput kvs k v = kvs ++ [(k, v)]
  | [], _ => rfl
  | p :: r, h => by
    rw [List.any_cons, Bool.or_eq_false_iff] at h
    have h1 : ¬ p.1 = k := of_decide_eq_false h.1
    show (if p.1 = k then _ else p :: dput r k v) = _
    rw [if_neg h1, dput_new h.2]
    rfl
theorem dput_old {β : Type} {k : Int} {v : β} : ∀ {kvs : List (Int × β)}, Keys1 kvs → (kvs.any fun kv => decide (kv.1 = k)) = true → dput kvs k v = kvs.map fun kv => if kv.1 = k then (kv.1, v) else kv
  | [], _, h => by cases h
  | p :: r, nd, h => by
    unfold Keys1 at nd
    rw [List.map_cons, List.nodup_cons] at nd
    by_cases h1 : p.1 = k
    · show (if p.1 = k then (k, v) :: r else _) = _
      rw [if_pos h1, List.map_cons, if_pos h1]
      have : (r.map fun kv => if kv.1 = k then (kv.1, v) else kv) = r := by
        have e : ∀ x ∈ r, (if x.1 = k then (x.1, v) else x) = x := fun x hx => by
          rw [if_neg]
          intro z
          exact nd.1 (by rw [h1, ← z]; exact List.mem_map_of_mem hx)
        conv => rhs; rw [← List.map_id r]
        exact List.map_congr_left e
      rw [this, h1]
    · rw [List.any_cons, decide_eq_false h1, Bool.false_or] at h
      show (if p.1 = k then _ else p :: dput r k v) = _
      rw [if_neg h1, dput_old nd.2 h, List.map_cons, if_neg h1]
theorem rk_map {F : Hp} {as : List Addr} {i : Int} {v : V} {y : β} (hv : rep c F as v y) : ∀ {ps : List (Key × V)} {kvs : List (Int × β)}, RepK c F as ps kvs →
    RepK c F as (ps.map fun kv => if kv.1 = (Sum.inl i : Key) then (kv.1, v) else kv) (kvs.map fun kv => if kv.1 = i then (kv.1, y) else kv)
  | _, [], .nil => .nil
  | p :: ps, q :: qs, .cons r t => by
    refine .cons ?_ (rk_map hv t)
    dsimp only
    by_cases h : q.1 = i
    · rw [if_pos h, if_pos (by rw [r.1, h])]
      exact ⟨r.1, hv⟩
    · rw [if_neg h, if_neg (by rw [r.1]; exact fun z => h (inl_eq.mp z))]
      exact r
theorem RepK.append {F : Hp} {as : List Addr} : ∀ {vs ws} {xs ys : List (Int × β)}, RepK c F as vs xs → RepK c F as ws ys → RepK c F as (vs ++ ws) (xs ++ ys)
  | _, _, [], _, .nil, s => s
  | _, _, _ :: _, _, .cons r t, s => .cons r (RepK.append t s)
theorem rk_put {F : Hp} {as : List Addr} {i : Int} {v : V} {y : β} {ps : List (Key × V)} {kvs : List (Int × β)} (nd : Keys1 kvs) (h : RepK c F as ps kvs) (hv : rep c F as v y) : RepK c F as (putK ps (Sum.inl i) v) (dput kvs i y) := by
  unfold putK
  rw [rk_any i h]
  cases e : kvs.any fun kv => decide (kv.1 = i) with
  | true =>
    rw [if_pos rfl, dput_old nd e]
    exact rk_map hv h
  | false =>
    rw [if_neg (by simp), dput_new e]
    exact RepK.append h (.cons ⟨rfl, hv⟩ .nil)
/-- k in d, d.. of a dict that changes, of one that does not -/
theorem we_dinM {ty td : TE} (h : WE c ty env M (As Int fun i m1 => WE c td env m1 (As MR fun j m2 => ∃ kvs : List (Int × β), m2[j.k]? = some (cDic kvs) ∧ P (dy (dget kvs i).isSome) m2))) : WE c (tDIn ty td) env M P := fun as σ w Q s q =>
  h as σ w _ s fun v as1 w1 d m1 st1 mm1 r1 p1 => by
    obtain ⟨i, rfl, p1⟩ := p1
    refine p1 as1 σ w1 _ (s.step st1 mm1) fun v2 as2 w2 d2 m2 st2 mm2 r2 p2 => ?_
    obtain ⟨j, rfl, kvs, hm, p⟩ := p2
    obtain ⟨a, o, ha, ho, ps, rfl, hr⟩ := mm2.at_ _ _ hm
    obtain ⟨a', ha', rfl⟩ := r2
    rw [ha] at ha'; cases ha'
    obtain rfl : v = .int i := r1
    refine ⟨_, _, rfl, DGet.k (k := Sum.inl i) ho, ?_⟩
    have e : (valV ps (Sum.inl i : Key)).isSome = (dget kvs i).isSome := by
      rcases rk_get i hr with ⟨h1, h2⟩ | ⟨y, v, h1, h2, _⟩
      · rw [h1, h2]; rfl
      · rw [h1, h2]; rfl
    rw [e]
    exact q _ as2 w2 (dy (dget kvs i).isSome) m2 (st1.trans st2) mm2 rfl p
theorem we_dnotinM {ty td : TE} (h : WE c ty env M (As Int fun i m1 => WE c td env m1 (As MR fun j m2 => ∃ kvs : List (Int × β), m2[j.k]? = some (cDic kvs) ∧ P (dy (!(dget kvs i).isSome)) m2))) : WE c (tDNotIn ty td) env M P := fun as σ w Q s q =>
  h as σ w _ s fun v as1 w1 d m1 st1 mm1 r1 p1 => by
    obtain ⟨i, rfl, p1⟩ := p1
    refine p1 as1 σ w1 _ (s.step st1 mm1) fun v2 as2 w2 d2 m2 st2 mm2 r2 p2 => ?_
    obtain ⟨j, rfl, kvs, hm, p⟩ := p2
    obtain ⟨a, o, ha, ho, ps, rfl, hr⟩ := mm2.at_ _ _ hm
    obtain ⟨a', ha', rfl⟩ := r2
    rw [ha] at ha'; cases ha'
    obtain rfl : v = .int i := r1
    refine ⟨_, _, rfl, DGet.k (k := Sum.inl i) ho, ?_⟩
    have e : (valV ps (Sum.inl i : Key)).isSome = (dget kvs i).isSome := by
      rcases rk_get i hr with ⟨h1, h2⟩ | ⟨y, v, h1, h2, _⟩
      · rw [h1, h2]; rfl
      · rw [h1, h2]; rfl
    rw [e]
    exact q _ as2 w2 (dy (!(dget kvs i).isSome)) m2 (st1.trans st2) mm2 rfl p
theorem we_dinF {ty td : TE} (h : WE c ty env M (As Int fun i m1 => WE c td env m1 (As (Dc β) fun d m2 => P (dy (dget d.kvs i).isSome) m2))) : WE c (tDIn ty td) env M P := fun as σ w Q s q =>
  h as σ w _ s fun v as1 w1 d m1 st1 mm1 r1 p1 => by
    obtain ⟨i, rfl, p1⟩ := p1
    refine p1 as1 σ w1 _ (s.step st1 mm1) fun v2 as2 w2 d2 m2 st2 mm2 r2 p2 => ?_
    obtain ⟨d, rfl, p⟩ := p2
    obtain ⟨a, ps, rfl, ho, hr⟩ := r2
    obtain rfl : v = .int i := r1
    refine ⟨_, _, rfl, DGet.k (k := Sum.inl i) (mm2.ex _ _ ho), ?_⟩
    have e : (valV ps (Sum.inl i : Key)).isSome = (dget d.kvs i).isSome := by
      rcases rk_get i hr with ⟨h1, h2⟩ | ⟨y, v, h1, h2, _⟩
      · rw [h1, h2]; rfl
      · rw [h1, h2]; rfl
    rw [e]
    exact q _ as2 w2 (dy (dget d.kvs i).isSome) m2 (st1.trans st2) mm2 rfl p
theorem we_dnotinF {ty td : TE} (h : WE c ty env M (As Int fun i m1 => WE c td env m1 (As (Dc β) fun d m2 => P (dy (!(dget d.kvs i).isSome)) m2))) : WE c (tDNotIn ty td) env M P := fun as σ w Q s q =>
  h as σ w _ s fun v as1 w1 d m1 st1 mm1 r1 p1 => by
    obtain ⟨i, rfl, p1⟩ := p1
    refine p1 as1 σ w1 _ (s.step st1 mm1) fun v2 as2 w2 d2 m2 st2 mm2 r2 p2 => ?_
    obtain ⟨d, rfl, p⟩ := p2
    obtain ⟨a, ps, rfl, ho, hr⟩ := r2
    obtain rfl : v = .int i := r1
    refine ⟨_, _, rfl, DGet.k (k := Sum.inl i) (mm2.ex _ _ ho), ?_⟩
    have e : (valV ps (Sum.inl i : Key)).isSome = (dget d.kvs i).isSome := by
      rcases rk_get i hr with ⟨h1, h2⟩ | ⟨y, v, h1, h2, _⟩
      · rw [h1, h2]; rfl
      · rw [h1, h2]; rfl
    rw [e]
    exact q _ as2 w2 (dy (!(dget d.kvs i).isSome)) m2 (st1.trans st2) mm2 rfl p
/-- d[i] = e -/
theorem ws_dput {td ty tv : TE} (h : WE c tv env M (As β fun y m0 => WE c td env m0 (As MR fun j m1 => WE c ty env m1 (As Int fun i m2 => ∃ kvs : List (Int × β), m2[j.k]? = some (cDic kvs) ∧ Keys1 kvs ∧ kvs.length < 100000 ∧ nx env (m2.set j.k (cDic (dput kvs i y))))))) : WS c k (sDPut td ty tv) env M nx rt := fun as σ w D s q1 q2 =>
  h as σ w _ s fun v as1 w1 d m1 st1 mm1 r1 p1 => by
    obtain ⟨y, rfl, p1⟩ := p1
    refine p1 as1 σ w1 _ (s.step st1 mm1) fun v2 as2 w2 d2 m2 st2 mm2 r2 p2 => ?_
    obtain ⟨j, rfl, p2⟩ := p2
    refine p2 as2 σ w2 _ (s.step (st1.trans st2) mm2) fun v3 as3 w3 d3 m3 st3 mm3 r3 p3 => ?_
    obtain ⟨i, rfl, kvs, hm, nd, hl, p⟩ := p3
    obtain ⟨a, o, ha, ho, ps, rfl, hr⟩ := mm3.at_ _ _ hm
    obtain ⟨a', ha', rfl⟩ := Rep.mono (x := j) st3.ex st3.pre r2
    rw [ha] at ha'; cases ha'
    obtain rfl : v3 = .int i := r3
    refine ⟨_, _, rfl, DPut.k (k := Sum.inl i) ho (Nat.lt_of_lt_of_le (by rw [rk_len hr]; exact hl) (by decide : 100000 ≤ sizeLine)), ?_⟩
    obtain ⟨F3, H3⟩ := w3
    obtain ⟨st4, mm4⟩ := MemOk.put (o := .dK (putK ps (Sum.inl i) v)) (d := cDic (dput kvs i y)) mm3 ha ⟨_, rfl, rk_put nd hr (Rep.mono (x := y) (st2.trans st3).ex (st2.trans st3).pre r1)⟩
    exact q1 env _ as3 σ _ (((st1.trans st2).trans st3).trans st4) ⟨s.sl.step (((st1.trans st2).trans st3).trans st4), mm4⟩ p
/-- {} -/
theorem we_dnew (p : P (dy (MR.mk M.length)) (M ++ [cDic ([] : List (Int × β))])) : WE c tDNewK env M P := fun as σ w Q s q => by
  intro l hl
  obtain ⟨st, m'⟩ := MemOk.newCell (o := .dK []) (d := cDic ([] : List (Int × β))) s.me hl ⟨[], rfl, .nil⟩
  exact q _ _ _ (dy (MR.mk M.length)) _ st m' ⟨l, by show (as ++ [l])[M.length]? = some l; rw [s.me.len]; simp, rfl⟩ p
/-- dict(a list of pairs) -/
def rDictP (K : PySem.W.Frag) : List V → Hp → VK → Prop := fun xs H Q => ∃ (a : Addr) (ps : List Addr) (kvs : List (Key × V)), xs = [.ref a] ∧ SqL K H a (ps.map V.ref) ∧ Paired (fun p kv => SqT K H p [kV kv.1, kv.2]) ps kvs ∧
    ∀ p, H p = none → Q (.ref p) (upd H p (.dK (mergeK [] kvs)))
def dmerge (xs : List (Int × β)) : List (Int × β) := xs.foldl (fun acc p => dput acc p.1 p.2) []
theorem keys1_put {kvs : List (Int × β)} (h : Keys1 kvs) (i : Int) (y : β) : Keys1 (dput kvs i y) := by
  unfold Keys1 at h ⊢
  have e : (dput kvs i y).map (·.1) = if (kvs.any fun kv => decide (kv.1 = i)) = true then kvs.map (·.1) else kvs.map (·.1) ++ [i] := by
    cases q : kvs.any fun kv => decide (kv.1 = i) with
    | true =>
      rw [if_pos rfl, dput_old h q, List.map_map]
      refine List.map_congr_left fun x _ => ?_
      show (if x.1 = i then (x.1, y) else x).1 = x.1
      split <;> rfl
    | false => rw [if_neg (by simp), dput_new q, List.map_append]; rfl
  rw [e]
  split
  · exact h
  · rename_i q
    rw [List.nodup_append]
    refine ⟨h, by simp, fun a ha b hb => ?_⟩
    have : b = i := by simpa using hb
    subst this
    intro z
    subst z
    apply q
    obtain ⟨x, hx, rfl⟩ := List.mem_map.mp ha
    exact List.any_eq_true.mpr ⟨x, hx, by simp⟩
theorem keys1_nil : Keys1 ([] : List (Int × β)) := List.nodup_nil
theorem rk_merge {F : Hp} {as : List Addr} : ∀ {ps : List (Key × V)} {xs : List (Int × β)} {qs : List (Key × V)} {ys : List (Int × β)}, RepK c F as ps xs → Keys1 ys → RepK c F as qs ys → RepK c F as (mergeK qs ps) (xs.foldl (fun acc p => dput acc p.1 p.2) ys)
  | _, [], _, _, .nil, _, h => h
  | p :: ps, q :: xs, qs, ys, .cons r t, nd, h => by
    show RepK c F as (mergeK (putK qs p.1 p.2) ps) (xs.foldl _ (dput ys q.1 q.2))
    rw [r.1]
    exact rk_merge t (keys1_put nd _ _) (rk_put nd h r.2)
theorem pairs_of {F H : Hp} (e : Ex F H) {as : List Addr} : ∀ {vs : List V} {xs : List (Int × β)}, RepL c F as vs xs → ∃ (ps : List Addr) (kvs : List (Key × V)), vs = ps.map V.ref ∧ Paired (fun p kv => SqT c.K H p [kV kv.1, kv.2]) ps kvs ∧ RepK c F as kvs xs
  | _, [], .nil => ⟨[], [], rfl, .nil, .nil⟩
  | v :: vs, x :: xs, .cons r t => by
    obtain ⟨ps, kvs, rfl, h1, h2⟩ := pairs_of e t
    obtain ⟨a, v1, v2, rfl, hs, q1, q2⟩ := r
    obtain rfl : v1 = .int x.1 := q1
    exact ⟨a :: ps, (Sum.inl x.1, v2) :: kvs, rfl, .cons (sqT_mono e hs) h1, .cons ⟨rfl, q2⟩ h2⟩
theorem rc_dictC {xs : List (Int × β)} (p : P (dy (MR.mk M.length)) (M ++ [cDic (dmerge xs)])) : RC c (rDictP c.K) [dy xs] M P := fun as W vs Q m r k => by
  obtain ⟨v, rfl, a, ws, rfl, hs, q⟩ := r.one
  obtain ⟨ps, kvs, rfl, h1, h2⟩ := pairs_of m.ex q
  refine ⟨a, ps, kvs, rfl, sqL_mono m.ex hs, h1, fun l hl => ?_⟩
  obtain ⟨st, m'⟩ := MemOk.newCell (o := .dK (mergeK [] kvs)) (d := cDic (dmerge xs)) m hl ⟨_, rfl, rk_merge h2 keys1_nil .nil⟩
  exact k _ _ _ (dy (MR.mk M.length)) _ st m' ⟨l, by show (as ++ [l])[M.length]? = some l; rw [m.len]; simp, rfl⟩ p
/-- a dict of this def's own, handed out -/
theorem ws_retD (h : WE c te env M (As MR fun x m => ∃ kvs : List (Int × β), k ≤ x.k ∧ m[x.k]? = some (cDic kvs) ∧ okK k kvs ∧ okM k (m.take k) ∧ rt (dy (Dc.mk kvs)) (m.take k))) : WS c k (tRet te) env M nx rt := fun as σ H D s q1 q2 =>
  h as σ H _ s fun v as1 H1 x m1 st1 mm1 r1 p1 => by
    obtain ⟨x, rfl, kvs, hk, hm, hok, hok2, p⟩ := p1
    obtain ⟨a, o, ha, ho, vs, rfl, hr⟩ := mm1.at_ _ _ hm
    obtain ⟨a', ha', rfl⟩ := r1
    rw [ha] at ha'; cases ha'
    have hain : a ∈ as1 := List.mem_of_getElem? ha
    have hF : H1.F a = none := mm1.dis a hain
    have hnot : a ∉ as1.take k := fun z => by
      obtain ⟨j, hj, e⟩ := List.getElem_of_mem z
      rw [List.getElem_take] at e
      obtain ⟨l1, g1⟩ := List.getElem?_eq_some_iff.mp ha
      have hjk : j < k := by rw [List.length_take] at hj; omega
      have := (List.getElem_inj mm1.nd).mp (e.trans g1.symm)
      omega
    have ex : Ex H1.F (upd H1.F a (.dK vs)) := Evl.Ex.new hF
    have mk := mm1.take k hok2
    refine q2 _ as1 ⟨upd H1.F a (.dK vs), H1.H⟩ (dy (Dc.mk kvs)) _ (st1.trans ⟨List.prefix_refl _, ex, fun b h h' => ?_, fun b h h' => absurd h h', fun b u h _ => h, fun b h => h⟩) ⟨mk.nd, mk.len, fun b u h => ?_, fun b h => ?_, fun j d q => ?_⟩ ⟨a, vs, rfl, upd_same, ?_⟩ p
    · by_cases z : b = a
      · rw [z]; exact .inr hain
      · dsimp only at h'; rw [upd_ne z] at h'; exact absurd h h'
    · dsimp only at h ⊢
      by_cases z : b = a
      · subst z; rw [upd_same] at h; cases h; exact ho
      · rw [upd_ne z] at h; exact mm1.ex b u h
    · dsimp only
      rw [upd_ne (fun z => hnot (by rw [← z]; exact h))]; exact mk.dis b h
    · obtain ⟨b, o', h1, h2, h3⟩ := mk.at_ j d q
      exact ⟨b, o', h1, h2, d.mono ex (List.prefix_refl _) h3⟩
    · exact RepK.mono ex (List.prefix_refl _) (RepK.cut hok hr)
/-- sorted(d) -/
theorem rc_sortD {d : Dc β} (p : ∀ zs : List Int, zs.Perm (d.kvs.map (·.1)) → zs.Pairwise (· ≤ ·) → P (dy zs) M) : RC c Zr.rSortD [dy d] M P := fun as W vs Q m r k => by
  obtain ⟨v, rfl, a, ps, rfl, ho, hr⟩ := r.one
  have e : ∀ {ps : List (Key × V)} {kvs : List (Int × β)}, RepK c W.F as ps kvs → ps.map (·.1) = (kvs.map (·.1)).map Sum.inl := by
    intro ps kvs h
    induction h with
    | nil => rfl
    | cons r t ih => rw [List.map_cons, List.map_cons, List.map_cons, ih, r.1]
  exact ⟨a, ps, d.kvs.map (·.1), rfl, .inl (m.ex _ _ ho), e hr, fun zs p' h1 h2 hp => new_obj (z := dy zs) m (fun p F' hp e => ⟨p, _, rfl, sql_of hp, Irep zs⟩) k (p zs h1 h2) p' hp⟩
/-! ### sets of ints -/
structure ISet where
  ns : List Int
  n : Nat
  w : World
instance : Rep ISet where
  rep c F as v x := ∃ a, v = .ref a ∧ F a = some (SetO x.w a (fun j => decide (j ∈ x.ns)) x.n)
  ok _ _ := True
  mono := by rintro c F F' as as' v x e p ⟨a, rfl, h⟩; exact ⟨a, rfl, e _ _ h⟩
  cut := by rintro c F as v x k hk ⟨a, rfl, h⟩; exact ⟨a, rfl, h⟩
theorem rc_set {w : World} {ns : List Int} (hl : ns.length + 1 < scanBound) (p : ∀ n, n ≤ ns.length → P (dy (ISet.mk ns n w)) M) : RC c (Zr.rSetI c.K w) [dy ns] M P := fun as W vs Q m r k => by
  obtain ⟨v, rfl, a, ws, rfl, hs, q⟩ := r.one
  rw [repI q] at hs
  refine ⟨a, ns, rfl, sqL_mono m.ex hs, hl, fun p' n hn hp => ?_⟩
  obtain ⟨st, m'⟩ := MemOk.new (o := SetO w p' (fun j => decide (j ∈ ns)) n) m hp
  exact k _ as _ (dy (ISet.mk ns n w)) M st m' ⟨p', rfl, upd_same⟩ (p n hn)
theorem rc_sortS {w : World} {x : ISet} (hw : x.w = w) (h64 : x.n < 64) (p : ∀ zs : List Int, zs.Pairwise (· < ·) → (∀ j, j ∈ zs ↔ j ∈ x.ns) → zs.length = x.n → P (dy zs) M) : RC c (rSortedSet w) [dy x] M P := fun as W vs Q m r k => by
  obtain ⟨v, rfl, a, rfl, h⟩ := r.one
  refine ⟨a, _, x.n, rfl, by rw [m.ex _ _ h, hw], h64, fun zs p' h1 h2 h3 hp => ?_⟩
  exact new_obj (z := dy zs) m (fun p F' hp e => ⟨p, _, rfl, sql_of hp, Irep zs⟩) k (p zs h1 (fun j => by rw [h2]; simp) h3) p' hp
/-! ### lists that grow and shrink -/
theorem tyL {as : List Addr} {W : Hw} {v : V} {j : MR} {xs : List α} (m : MemOk c as W M) (h : M[j.k]? = some (cLst xs)) (r : rep c W.F as v j) : tyV c.K "list" v W.H := by
  obtain ⟨a, vs, ha, hv, hr⟩ := m.lst h
  obtain ⟨a', ha', rfl⟩ := r
  rw [ha] at ha'; cases ha'
  exact .inl ⟨rfl, vs, .inl (.inl hv)⟩
/-- l.append(e) -/
theorem ws_app {to : TE} (h : WE c to env M (As MR fun j m1 => ∃ ys : List α, m1[j.k]? = some (cLst ys) ∧ WE c te env m1 (As α fun x m2 => ∃ xs : List α, m2[j.k]? = some (cLst xs) ∧ xs.length < 100000 ∧ nx env (m2.set j.k (cLst (xs ++ [x])))))) : WS c k (tDrop (tBM c.K "list" rAppend to (tCons te tNil))) env M nx rt := fun as σ w D s q1 q2 =>
  h as σ w _ s fun v1 as1 w1 d1 m1 st1 mm1 r1 p1 => by
    obtain ⟨j, rfl, ys, hy, p1⟩ := p1
    refine ⟨tyL mm1 hy r1, p1 as1 σ w1 _ (s.step st1 mm1) fun v2 as2 w2 d2 m2 st2 mm2 r2 p2 => ?_⟩
    obtain ⟨x, rfl, xs, hx, hl, p⟩ := p2
    obtain ⟨a, vs, ha, hv, hr⟩ := mm2.lst hx
    obtain ⟨a', ha', rfl⟩ := Rep.mono (x := j) st2.ex st2.pre r1
    rw [ha] at ha'; cases ha'
    refine ⟨_, vs, v2, rfl, rfl, hv, Nat.lt_of_lt_of_le (by rw [hr.length]; exact hl) (by decide : 100000 ≤ sizeLine), ?_⟩
    obtain ⟨F2, H2⟩ := w2
    obtain ⟨st3, mm3⟩ := MemOk.put (o := .lst (vs ++ [v2])) (d := cLst (xs ++ [x])) mm2 ha ⟨_, rfl, hr.append (.cons r2 .nil)⟩
    exact q1 env _ as2 σ _ ((st1.trans st2).trans st3) ⟨s.sl.step ((st1.trans st2).trans st3), mm3⟩ p
/-- l.extend(a new list) -/
theorem ws_ext {to : TE} (h : WE c to env M (As MR fun j m1 => ∃ ys : List α, m1[j.k]? = some (cLst ys) ∧ WE c te env m1 (As MR fun j2 m2 => ∃ xs zs : List α, m2[j.k]? = some (cLst xs) ∧ m2[j2.k]? = some (cLst zs) ∧ xs.length + zs.length ≤ 100000 ∧ nx env (m2.set j.k (cLst (xs ++ zs)))))) : WS c k (tDrop (tBM c.K "list" rExtend to (tCons te tNil))) env M nx rt := fun as σ w D s q1 q2 =>
  h as σ w _ s fun v1 as1 w1 d1 m1 st1 mm1 r1 p1 => by
    obtain ⟨j, rfl, ys, hy, p1⟩ := p1
    refine ⟨tyL mm1 hy r1, p1 as1 σ w1 _ (s.step st1 mm1) fun v2 as2 w2 d2 m2 st2 mm2 r2 p2 => ?_⟩
    obtain ⟨j2, rfl, xs, zs, hx, hz, hl, p⟩ := p2
    obtain ⟨a, vs, ha, hv, hr⟩ := mm2.lst hx
    obtain ⟨b, us, hb, hu, hr2⟩ := mm2.lst hz
    obtain ⟨a', ha', rfl⟩ := Rep.mono (x := j) st2.ex st2.pre r1
    obtain ⟨b', hb', rfl⟩ := r2
    rw [ha] at ha'; cases ha'
    rw [hb] at hb'; cases hb'
    refine ⟨_, _, vs, us, rfl, rfl, hv, hu, small_le (by rw [hr.length, hr2.length]; exact hl), ?_⟩
    obtain ⟨F2, H2⟩ := w2
    obtain ⟨st3, mm3⟩ := MemOk.put (o := .lst (vs ++ us)) (d := cLst (xs ++ zs)) mm2 ha ⟨_, rfl, hr.append hr2⟩
    exact q1 env _ as2 σ _ ((st1.trans st2).trans st3) ⟨s.sl.step ((st1.trans st2).trans st3), mm3⟩ p
/-- l.pop() -/
theorem we_pop {to : TE} (h : WE c to env M (As MR fun j m1 => ∃ (xs : List α) (x : α), m1[j.k]? = some (cLst (xs ++ [x])) ∧ P (dy x) (m1.set j.k (cLst xs)))) : WE c (tBM0 c.K "list" rPop to) env M P := fun as σ w Q s q =>
  h as σ w _ s fun v1 as1 w1 d1 m1 st1 mm1 r1 p1 => by
    obtain ⟨j, rfl, xs, x, hx, p⟩ := p1
    refine ⟨tyL mm1 hx r1, ?_⟩
    obtain ⟨a, vs, ha, hv, hr⟩ := mm1.lst hx
    obtain ⟨a', ha', rfl⟩ := r1
    rw [ha] at ha'; cases ha'
    have hl := hr.length
    rw [List.length_append, List.length_singleton] at hl
    obtain ⟨u, hu, ru⟩ := hr.get (i := xs.length) (x := x) (by simp)
    have e : vs.length - 1 = xs.length := by omega
    refine ⟨_, vs, u, rfl, rfl, hv, by rw [e]; exact hu, ?_⟩
    have hd : RepL c w1.F as1 vs.dropLast xs := by
      have := hr.take xs.length
      rw [List.take_left, ← e, ← List.dropLast_eq_take] at this
      exact this
    obtain ⟨F1, H1⟩ := w1
    obtain ⟨st3, mm3⟩ := MemOk.put (o := .lst vs.dropLast) (d := cLst xs) mm1 ha ⟨_, rfl, hd⟩
    exact q u as1 _ (dy x) _ (st1.trans st3) mm3 (Rep.mono (x := x) st3.ex st3.pre ru) p
/-! ### what is walked -/
theorem walks_list {J : It} {as : List Addr} {w : Hw} {a : Addr} {vs : List V} {xs : List α} (hs : SqL c.K w.F a vs) (hr : RepL c w.F as vs xs) : Walks c (Itl c.K a) as w (xs.map dy) := by
  refine ⟨fun i as' w' M st m h => ?_, fun i as' w' M st m h => ?_, fun i as' w' x v H2 M st m h hy => ?_⟩
  · rw [List.length_map, ← hr.length] at h
    exact ⟨vs, vs[i], sqL_mono (st.ex.trans m.ex) hs, List.getElem?_eq_getElem h⟩
  · rw [List.length_map, ← hr.length] at h
    exact ⟨vs, sqL_mono (st.ex.trans m.ex) hs, Nat.le_of_eq h.symm⟩
  · obtain ⟨rfl, hy⟩ := hy
    have hv := hy vs (sqL_mono (st.ex.trans m.ex) hs)
    obtain ⟨y, h1, h2⟩ := hr.getV hv
    rw [List.getElem?_map, h1] at h
    cases h
    exact ⟨w'.F, .refl _ _, m, Rep.mono (x := y) st.ex st.pre h2⟩
theorem walks_tup {as : List Addr} {w : Hw} {a : Addr} {vs : List V} {xs : List α} (hs : SqT c.K w.F a vs) (hr : RepL c w.F as vs xs) : Walks c (Itt c.K a) as w (xs.map dy) := by
  refine ⟨fun i as' w' M st m h => ?_, fun i as' w' M st m h => ?_, fun i as' w' x v H2 M st m h hy => ?_⟩
  · rw [List.length_map, ← hr.length] at h
    exact ⟨vs, vs[i], sqT_mono (st.ex.trans m.ex) hs, List.getElem?_eq_getElem h⟩
  · rw [List.length_map, ← hr.length] at h
    exact ⟨vs, sqT_mono (st.ex.trans m.ex) hs, Nat.le_of_eq h.symm⟩
  · obtain ⟨rfl, hy⟩ := hy
    have hv := hy vs (sqT_mono (st.ex.trans m.ex) hs)
    obtain ⟨y, h1, h2⟩ := hr.getV hv
    rw [List.getElem?_map, h1] at h
    cases h
    exact ⟨w'.F, .refl _ _, m, Rep.mono (x := y) st.ex st.pre h2⟩
theorem wi_list (h : WE c te env M fun d m => ∃ xs : List α, d = dy xs ∧ Q (xs.map dy) m) : WI c (iList c.K te) env M Q := fun as σ w R s q =>
  h as σ w _ s fun v as1 w1 d m st mm r p => by
    obtain ⟨xs, rfl, p⟩ := p
    obtain ⟨a, vs, rfl, hs, hr⟩ := r
    exact ⟨a, rfl, ⟨vs, sqL_mono mm.ex hs⟩, q _ as1 w1 _ m st mm (walks_list (J := Itl c.K a) hs hr) p⟩
theorem wi_tup (h : WE c te env M fun d m => ∃ xs : Tp α, d = dy xs ∧ Q (xs.l.map dy) m) : WI c (iTup c.K te) env M Q := fun as σ w R s q =>
  h as σ w _ s fun v as1 w1 d m st mm r p => by
    obtain ⟨xs, rfl, p⟩ := p
    obtain ⟨a, vs, rfl, hs, hr⟩ := r
    exact ⟨a, rfl, ⟨vs, sqT_mono mm.ex hs⟩, q _ as1 w1 _ m st mm (walks_tup hs hr) p⟩
/-- 0, 1, .. below n -/
def upto (n : Nat) : List Int := (List.range n).map fun (i : Nat) => (i : Int)
theorem upto_len (n : Nat) : (upto n).length = n := by simp [upto]
theorem wi_range {ta : TA} (h : WA c ta env M fun ds m => ∃ n : Int, ds = [dy n] ∧ 0 ≤ n ∧ n ≤ 100000 ∧ Q ((upto n.toNat).map dy) m) : WI c (iRng1 ta) env M Q := fun as σ w R s q =>
  h as σ w _ s fun vs as1 w1 ds m st mm r p => by
    obtain ⟨n, rfl, h0, h1, p⟩ := p
    obtain ⟨v, rfl, rv⟩ := r.one
    obtain rfl : v = .int n := rv
    refine ⟨n, rfl, by omega, by omega, q _ as1 w1 _ m st mm ⟨fun i as' w' M' st m h => ?_, fun i as' w' M' st m h => ?_, fun i as' w' x v H2 M' st m h hy => ?_⟩ p⟩
    · rw [List.length_map, upto_len] at h; exact h
    · rw [List.length_map, upto_len] at h; exact Nat.le_of_eq h.symm
    · obtain ⟨rfl, rfl⟩ := hy
      refine ⟨w'.F, .refl _ _, m, ?_⟩
      unfold upto at h
      rw [List.map_map, List.getElem?_map] at h
      cases e : (List.range n.toNat)[i]? with
      | none => rw [e] at h; cases h
      | some j =>
        rw [e] at h
        cases h
        have : j = i := by
          obtain ⟨h1, h2⟩ := List.getElem?_eq_some_iff.mp e
          rw [List.getElem_range] at h2; exact h2.symm
        subst this
        show V.int (0 + (j : Int)) = V.int (j : Int)
        rw [Int.zero_add]
/-- each with its number -/
def nums (xs : List α) : List (Int × α) := (upto xs.length).zip xs
theorem nums_get {xs : List α} {i : Nat} {x : α} (h : xs[i]? = some x) : (nums xs)[i]? = some ((i : Int), x) := by
  obtain ⟨hl, _⟩ := List.getElem?_eq_some_iff.mp h
  unfold nums upto
  rw [List.getElem?_zip_eq_some]
  refine ⟨?_, h⟩
  rw [List.getElem?_map, List.getElem?_range hl] <;> rfl
theorem nums_len (xs : List α) : (nums xs).length = xs.length := by
  unfold nums
  rw [List.length_zip, upto_len, Nat.min_self]
theorem enum_step {as : List Addr} {w : Hw} {i : Nat} {v v' : V} {H2 : Hp} {T : Addr} {x : α} (m : MemOk c as w M) (hT : w.H T = none) (e : H2 = upd w.H T (.tup [.int (i : Nat), v'])) (hv : v = .ref T) (hr : rep c w.F as v' x) :
    ∃ F2, Step as w as ⟨F2, H2⟩ ∧ MemOk c as ⟨F2, H2⟩ M ∧ (dy ((i : Int), x)).h c F2 as v := by
  subst e hv
  obtain ⟨F, H⟩ := w
  obtain ⟨st, m'⟩ := MemOk.new (o := .tup [.int (i : Nat), v']) m hT
  exact ⟨_, st, m', T, .int (i : Nat), v', rfl, sqt_of upd_same, rfl, Rep.mono (x := x) st.ex st.pre hr⟩
theorem wi_enumL {ta : TA} (h : WA c ta env M fun ds m => ∃ xs : List α, ds = [dy xs] ∧ Q ((nums xs).map dy) m) : WI c (iEnum c.K ta) env M Q := fun as σ w R s q =>
  h as σ w _ s fun vs as1 w1 ds m st mm r p => by
    obtain ⟨xs, rfl, p⟩ := p
    obtain ⟨v, rfl, a, ws, rfl, hs, hr⟩ := r.one
    refine ⟨a, ws, rfl, sqL_mono mm.ex hs, q _ as1 w1 _ m st mm ⟨fun i as' w' M' st m h => ?_, fun i as' w' M' st m h => ?_, fun i as' w' x v H2 M' st m h hy => ?_⟩ p⟩
    · rw [List.length_map, nums_len, ← hr.length] at h
      exact ⟨ws, ws[i], sqL_mono (st.ex.trans m.ex) hs, List.getElem?_eq_getElem h⟩
    · rw [List.length_map, nums_len, ← hr.length] at h
      exact ⟨ws, sqL_mono (st.ex.trans m.ex) hs, Nat.le_of_eq h.symm⟩
    · obtain ⟨T, v', hv, hT, hH, hy⟩ := hy
      have hv' := hy ws (sqL_mono (st.ex.trans m.ex) hs)
      obtain ⟨y, h1, h2⟩ := hr.getV hv'
      rw [List.getElem?_map, nums_get h1] at h
      cases h
      exact enum_step m hT hH hv (Rep.mono (x := y) st.ex st.pre h2)
theorem wi_enumT {ta : TA} (h : WA c ta env M fun ds m => ∃ xs : Tp α, ds = [dy xs] ∧ Q ((nums xs.l).map dy) m) : WI c (Zr.iEnumT c.K ta) env M Q := fun as σ w R s q =>
  h as σ w _ s fun vs as1 w1 ds m st mm r p => by
    obtain ⟨xs, rfl, p⟩ := p
    obtain ⟨v, rfl, a, ws, rfl, hs, hr⟩ := r.one
    refine ⟨a, ws, rfl, sqT_mono mm.ex hs, q _ as1 w1 _ m st mm ⟨fun i as' w' M' st m h => ?_, fun i as' w' M' st m h => ?_, fun i as' w' x v H2 M' st m h hy => ?_⟩ p⟩
    · rw [List.length_map, nums_len, ← hr.length] at h
      exact ⟨ws, ws[i], sqT_mono (st.ex.trans m.ex) hs, List.getElem?_eq_getElem h⟩
    · rw [List.length_map, nums_len, ← hr.length] at h
      exact ⟨ws, sqT_mono (st.ex.trans m.ex) hs, h⟩
    · obtain ⟨T, v', hv, hT, hH, hy⟩ := hy
      have hv' := hy ws (sqT_mono (st.ex.trans m.ex) hs)
      obtain ⟨y, h1, h2⟩ := hr.getV hv'
      rw [List.getElem?_map, nums_get h1] at h
      cases h
      exact enum_step m hT hH hv (Rep.mono (x := y) st.ex st.pre h2)
end
end Zq
end
section
set_option Elab.async false
set_option linter.all false
set_option maxRecDepth 100000
/-! Cuts, membership, isinstance, objects, dict comprehensions. -/
namespace Zq
open PySem PySem.Spec PyProof.Rows L2
open Rep (rep)
section
variable {c : Cc} {env : Env'} {M : Mem} {Q : List Dy → Mem → Prop} {α β γ : Type} [Rep α] [Rep β] [Rep γ] {ta tb te : TE} {P : Dy → Mem → Prop} {B : Bool → Mem → Prop} {k : Nat} {nx : Env' → Mem → Prop} {rt : Dy → Mem → Prop}
/-! ### cuts -/
theorem cut_to (xs : List V) (n : Nat) : cutV xs none (some (n : Int)) = xs.take n := by
  unfold cutV
  rw [HT.sIx_none, HT.sIx_nat, List.drop_zero, Nat.sub_zero]
  rcases Nat.le_total n xs.length with h | h
  · rw [Nat.min_eq_left h]
  · rw [Nat.min_eq_right h, List.take_length, List.take_of_length_le h]
theorem we_slTo {n : Nat} (h : WE c te env M (As (List α) fun xs m => P (dy (xs.take n)) m)) : WE c (tSl (rSlL c.K) te tNoPart (tPart (tC (.int (n : Int))))) env M P := fun as σ w Q s q =>
  h as σ w _ s fun v as1 w1 d m1 st1 mm1 r1 p1 => by
    obtain ⟨xs, rfl, p⟩ := p1
    obtain ⟨a, vs, rfl, hs, hr⟩ := r1
    refine ⟨(n : Int), rfl, a, vs, rfl, sqL_mono mm1.ex hs, ?_⟩
    rw [cut_to]
    exact new_obj (z := dy (xs.take n)) mm1 (fun p F' hp e => ⟨p, _, rfl, sql_of hp, RepL.mono e (List.prefix_refl _) (hr.take n)⟩) (fun u as' w' z M' st m r p => q u as' w' z M' (st1.trans st) m r p) p
/-- t * n -/
theorem rr_repT {xs : Tp α} {n : Int} (h0 : xs.l ≠ []) (h1 : 2 ≤ n) (h2 : n ≤ 1000) (h3 : xs.l.length ≤ 1000) (p : P (dy (Tp.mk (List.replicate n.toNat xs.l).flatten)) M) : RR c (rRepT c.K) (dy xs) (dy n) M P := fun as W v w Q m r1 r2 k => by
  obtain ⟨a, vs, rfl, hs, hr⟩ := r1
  obtain rfl : w = .int n := r2
  have hne : vs ≠ [] := fun z => by
    have := hr.length
    rw [z] at this
    exact h0 (List.length_eq_zero_iff.mp this.symm)
  have rr : ∀ j : Nat, RepL c W.F as (List.replicate j vs).flatten (List.replicate j xs.l).flatten := by
    intro j
    induction j with
    | zero => exact .nil
    | succ j ih =>
      rw [List.replicate_succ, List.replicate_succ, List.flatten_cons, List.flatten_cons]
      exact hr.append ih
  exact ⟨a, n, vs, rfl, rfl, sqT_mono m.ex hs, hne, h1, h2, by rw [hr.length]; exact h3, new_obj (z := dy (Tp.mk (List.replicate n.toNat xs.l).flatten)) m (fun p F' hp e => ⟨p, _, rfl, sqt_of hp, RepL.mono e (List.prefix_refl _) (rr _)⟩) k p⟩
/-! ### x in .. -/
theorem inV_int (i : Int) : ∀ ns : List Int, inV (.int i) (ns.map V.int) = decide (i ∈ ns)
  | [] => by simp [inV]
  | n :: ns => by
    have ih := inV_int i ns
    unfold inV at ih ⊢
    rw [List.map_cons, List.any_cons, ih]
    show ((n == i) || decide (i ∈ ns)) = decide (i ∈ n :: ns)
    by_cases h : n = i
    · subst h; simp
    · have : ¬ i = n := fun z => h z.symm
      simp [h, this]
theorem flatI : ∀ ns : List Int, (ns.map V.int).all flatV = true
  | [] => rfl
  | n :: ns => by rw [List.map_cons, List.all_cons, flatI ns]; rfl
theorem rr_inT {i : Int} {xs : Tp Int} (p : P (dy (decide (i ∈ xs.l))) M) : RR c (rIn c.K false) (dy i) (dy xs) M P :=
  rr_pure (fun as W v w Q m r1 r2 k => by
    obtain rfl : v = .int i := r1
    obtain ⟨a, vs, rfl, hs, hr⟩ := r2
    rw [repI hr] at hs
    refine ⟨a, _, rfl, .inr (sqT_mono m.ex hs), rfl, flatI _, ?_⟩
    rw [if_neg (by simp), inV_int]
    exact k _ rfl) p
theorem rr_ninT {i : Int} {xs : Tp Int} (p : P (dy (!decide (i ∈ xs.l))) M) : RR c (rIn c.K true) (dy i) (dy xs) M P :=
  rr_pure (fun as W v w Q m r1 r2 k => by
    obtain rfl : v = .int i := r1
    obtain ⟨a, vs, rfl, hs, hr⟩ := r2
    rw [repI hr] at hs
    refine ⟨a, _, rfl, .inr (sqT_mono m.ex hs), rfl, flatI _, ?_⟩
    rw [if_pos rfl, inV_int]
    exact k _ rfl) p
theorem rr_inL {i : Int} {xs : List Int} (p : P (dy (decide (i ∈ xs))) M) : RR c (rIn c.K false) (dy i) (dy xs) M P :=
  rr_pure (fun as W v w Q m r1 r2 k => by
    obtain rfl : v = .int i := r1
    obtain ⟨a, vs, rfl, hs, hr⟩ := r2
    rw [repI hr] at hs
    refine ⟨a, _, rfl, .inl (sqL_mono m.ex hs), rfl, flatI _, ?_⟩
    rw [if_neg (by simp), inV_int]
    exact k _ rfl) p
theorem rr_ninL {i : Int} {xs : List Int} (p : P (dy (!decide (i ∈ xs))) M) : RR c (rIn c.K true) (dy i) (dy xs) M P :=
  rr_pure (fun as W v w Q m r1 r2 k => by
    obtain rfl : v = .int i := r1
    obtain ⟨a, vs, rfl, hs, hr⟩ := r2
    rw [repI hr] at hs
    refine ⟨a, _, rfl, .inl (sqL_mono m.ex hs), rfl, flatI _, ?_⟩
    rw [if_pos rfl, inV_int]
    exact k _ rfl) p
theorem rr_inM {i : Int} {j : MR} {xs : List Int} (hm : M[j.k]? = some (cLst xs)) (p : P (dy (decide (i ∈ xs))) M) : RR c (rIn c.K false) (dy i) (dy j) M P :=
  rr_pure (fun as W v w Q m r1 r2 k => by
    obtain rfl : v = .int i := r1
    obtain ⟨a, vs, h1, h2, hr⟩ := m.lst hm
    obtain ⟨a', h1', rfl⟩ := r2
    rw [h1] at h1'; cases h1'
    rw [repI hr] at h2
    refine ⟨_, _, rfl, .inl (sql_of h2), rfl, flatI _, ?_⟩
    rw [if_neg (by simp), inV_int]
    exact k _ rfl) p
theorem rr_ninM {i : Int} {j : MR} {xs : List Int} (hm : M[j.k]? = some (cLst xs)) (p : P (dy (!decide (i ∈ xs))) M) : RR c (rIn c.K true) (dy i) (dy j) M P :=
  rr_pure (fun as W v w Q m r1 r2 k => by
    obtain rfl : v = .int i := r1
    obtain ⟨a, vs, h1, h2, hr⟩ := m.lst hm
    obtain ⟨a', h1', rfl⟩ := r2
    rw [h1] at h1'; cases h1'
    rw [repI hr] at h2
    refine ⟨_, _, rfl, .inl (sql_of h2), rfl, flatI _, ?_⟩
    rw [if_pos rfl, inV_int]
    exact k _ rfl) p
theorem any_enc [Dt α] [DecidableEq α] (x : α) : ∀ xs : List α, ((xs.map Dt.enc).any fun z => PyData.eqv z (Dt.enc x)) = decide (x ∈ xs)
  | [] => by simp
  | y :: ys => by
    rw [List.map_cons, List.any_cons, any_enc x ys, Dt.eq]
    by_cases h : y = x
    · subst h; simp
    · have : ¬ x = y := fun z => h z.symm
      simp [h, this]
theorem shapedL [Dt α] [h : Lt64 (Dt.dep (α := α))] (xs : List α) : SeqAt.shaped (.list (xs.map Dt.enc)) = true := Dt.shaped (α := List α) xs
theorem rr_ninDM [Dt α] [DecidableEq α] [Lt64 (Dt.dep (α := α))] {x : α} {j : MR} {xs : List α} (hm : M[j.k]? = some (cLst xs)) (p : P (dy (!decide (x ∈ xs))) M) : RR c (rNotInD c.K) (dy x) (dy j) M P :=
  rr_pure (fun as W v w Q m r1 r2 k => by
    obtain ⟨a, vs, h1, h2, hr⟩ := m.lst hm
    obtain ⟨a', h1', rfl⟩ := r2
    rw [h1] at h1'; cases h1'
    refine ⟨Dt.enc x, xs.map Dt.enc, Dp.mono m.ex (Dt.dp r1), .lst (sql_of h2) (DpAll.mono m.ex (dpAll hr)), Dt.shaped x, shapedL xs, ?_⟩
    rw [any_enc]
    exact k _ rfl) p
theorem rr_inDL [Dt α] [DecidableEq α] [Lt64 (Dt.dep (α := α))] {x : α} {xs : List α} (p : P (dy (decide (x ∈ xs))) M) : RR c (rInD c.K) (dy x) (dy xs) M P :=
  rr_pure (fun as W v w Q m r1 r2 k => by
    refine ⟨Dt.enc x, xs.map Dt.enc, Dp.mono m.ex (Dt.dp r1), Dp.mono m.ex (Dt.dp (α := List α) r2), Dt.shaped x, shapedL xs, ?_⟩
    rw [any_enc]
    exact k _ rfl) p
/-! ### isinstance -/
structure PyTy where
  n : String
instance : Rep PyTy := ⟨fun _ _ _ v x => v = .ty x.n, fun _ _ => True, fun _ _ h => h, fun _ h => h⟩
theorem we_ty {n : String} (p : P (dy (PyTy.mk n)) M) : WE c (tC (.ty n)) env M P := fun as σ H Q s k => k _ as H (dy (PyTy.mk n)) M (.refl _ _) s.me rfl p
class OfTy (α : Type) [Rep α] (t : outParam String) : Prop where
  ty : ∀ {c F H as v} {x : α}, Ex F H → rep c F as v x → TyX c.K H v (.type t)
instance : OfTy Int "int" := ⟨fun _ h => by rw [show _ = V.int _ from h]; exact .base (.int _)⟩
instance : OfTy Bool "bool" := ⟨fun _ h => by rw [show _ = V.bl _ from h]; exact .base (.bl _)⟩
instance : OfTy Unit "NoneType" := ⟨fun _ h => by rw [show _ = V.non from h]; exact .base .non⟩
instance : OfTy Str "str" := ⟨fun _ h => by rw [show _ = V.str _ from h]; exact .base (.str _)⟩
theorem tyTup {K : PySem.W.Frag} {H : Hp} {a : Addr} {vs : List V} (h : SqT K H a vs) : TyX K H (.ref a) (.type "tuple") := by
  rcases h with (h | ⟨o, h⟩) | ⟨o, its, n, h1, h2, _⟩
  · exact .base (.tup h)
  · exact .fTuple h
  · exact .kTuple h1 h2
theorem tyLst {K : PySem.W.Frag} {H : Hp} {a : Addr} {vs : List V} (h : SqL K H a vs) : TyX K H (.ref a) (.type "list") := by
  rcases h with (h | ⟨o, h⟩) | ⟨o, its, n, h1, h2, _⟩
  · exact .base (.lst h)
  · exact .base (.frz h)
  · exact .kList h1 h2
instance : OfTy (List α) "list" := ⟨fun e h => by obtain ⟨a, vs, rfl, hs, _⟩ := h; exact tyLst (sqL_mono e hs)⟩
instance : OfTy (Tp α) "tuple" := ⟨fun e h => by obtain ⟨a, vs, rfl, hs, _⟩ := h; exact tyTup (sqT_mono e hs)⟩
instance : OfTy (α × β) "tuple" := ⟨fun e h => by obtain ⟨a, v1, v2, rfl, hs, _⟩ := h; exact tyTup (sqT_mono e hs)⟩
instance : OfTy (T3 α β γ) "tuple" := ⟨fun e h => by obtain ⟨a, v1, v2, v3, rfl, hs, _⟩ := h; exact tyTup (sqT_mono e hs)⟩
theorem rc_isi {t n : String} {x : α} [OfTy α t] {b : Bool} (hk : kitB t n = some b) (p : P (dy b) M) : RC c (rIsi c.K) [dy x, dy (PyTy.mk n)] M P := rc_pure (fun as W vs Q m r k => by
  obtain ⟨v, w, rfl, r1, r2⟩ := r.two
  obtain rfl : w = .ty n := r2
  exact ⟨v, .ty n, .type t, .type n, b, rfl, .ty n, OfTy.ty m.ex r1, kit_ty hk, k _ rfl⟩) p
/-! ### a table -/
structure Tab where
  cells : Int
  kinds : Tp Kind
deriving DecidableEq
instance : Rep Tab where
  rep c F as v x := ∃ a dx ps u, v = .ref a ∧ F a = some (.ins (c.cls "Table") dx ps) ∧ ps.lookup ("cells" : Str) = some (.int x.cells) ∧ ps.lookup ("kinds" : Str) = some u ∧ rep c F as u x.kinds
  ok x k := Rep.ok x.kinds k
  mono := by rintro c F F' as as' v x e p ⟨a, dx, ps, u, rfl, h, h1, h2, r⟩; exact ⟨a, dx, ps, u, rfl, e _ _ h, h1, h2, Rep.mono e p r⟩
  cut := by rintro c F as v x k hk ⟨a, dx, ps, u, rfl, h, h1, h2, r⟩; exact ⟨a, dx, ps, u, rfl, h, h1, h2, Rep.cut hk r⟩
instance : Some1 Tab := ⟨fun h z => by obtain ⟨a, _, _, _, e, _⟩ := h; rw [e] at z; cases z⟩
theorem we_cells (hc : Cls c.K (c.cls "Table")) (hn : NoAttr c.K (c.cls "Table") ("cells" : Str)) (h : WE c te env M (As Tab fun t m => P (dy t.cells) m)) : WE c (tFld c.K te ("cells" : Str)) env M P := fun as σ w Q s q =>
  h as σ w _ s fun v as1 w1 d m1 st1 mm1 r1 p1 => by
    obtain ⟨t, rfl, p⟩ := p1
    obtain ⟨a, dx, ps, u, rfl, ha, h1, h2, r⟩ := r1
    exact ⟨a, _, dx, ps, _, rfl, mm1.ex _ _ ha, hc, hn, h1, q _ as1 w1 (dy t.cells) m1 st1 mm1 rfl p⟩
theorem we_kinds (hc : Cls c.K (c.cls "Table")) (hn : NoAttr c.K (c.cls "Table") ("kinds" : Str)) (h : WE c te env M (As Tab fun t m => P (dy t.kinds) m)) : WE c (tFld c.K te ("kinds" : Str)) env M P := fun as σ w Q s q =>
  h as σ w _ s fun v as1 w1 d m1 st1 mm1 r1 p1 => by
    obtain ⟨t, rfl, p⟩ := p1
    obtain ⟨a, dx, ps, u, rfl, ha, h1, h2, r⟩ := r1
    exact ⟨a, _, dx, ps, _, rfl, mm1.ex _ _ ha, hc, hn, h2, q _ as1 w1 (dy t.kinds) m1 st1 mm1 r p⟩
/-- an object that is being made -/
def cIns (C : Addr) (n : Nat) (fs : List (Str × Dy)) : Cell where
  h c F as o := ∃ dx ps, o = .ins C dx ps ∧ ps.length ≤ n ∧ ∀ f d, fs.lookup f = some d → ∃ u, ps.lookup f = some u ∧ d.h c F as u
  mono := by
    rintro c F F' as as' o e p ⟨dx, ps, rfl, hn, h⟩
    exact ⟨dx, ps, rfl, hn, fun f d q => let ⟨u, h1, h2⟩ := h f d q; ⟨u, h1, d.mono e p h2⟩⟩
  ok j := ∀ f d, fs.lookup f = some d → d.ok j
  cut := by
    rintro c F as o j hj ⟨dx, ps, rfl, hn, h⟩
    exact ⟨dx, ps, rfl, hn, fun f d q => let ⟨u, h1, h2⟩ := h f d q; ⟨u, h1, d.cut (hj f d q) h2⟩⟩
theorem putF_len (f : Str) (v : V) : ∀ ps : List (Str × V), (putF f v ps).length ≤ ps.length + 1
  | [] => Nat.le_refl _
  | (g, x) :: r => by
    unfold putF
    split
    · simp
    · have := putF_len f v r
      simp only [List.length_cons]; omega
theorem ws_fld {to tv : TE} {f : Str} {C : Addr} (hc : Cls c.K C) (hf : NoAttr c.K C f) (h : WE c tv env M fun y m0 => WE c to env m0 (As MR fun j m1 => ∃ n fs, m1[j.k]? = some (cIns C n fs) ∧ n < 900 ∧ nx env (m1.set j.k (cIns C (n + 1) ((f, y) :: fs))))) : WS c k (sFld c.K to tv f) env M nx rt := fun as σ w D s q1 q2 =>
  h as σ w _ s fun v as1 w1 y m1 st1 mm1 r1 p1 => p1 as1 σ w1 _ (s.step st1 mm1) fun v2 as2 w2 d2 m2 st2 mm2 r2 p2 => by
    obtain ⟨j, rfl, n, fs, hm, hn, p⟩ := p2
    obtain ⟨a, o, ha, ho, dx, ps, rfl, hl, hfs⟩ := mm2.at_ _ _ hm
    obtain ⟨a', ha', rfl⟩ := r2
    rw [ha] at ha'; cases ha'
    refine ⟨_, C, dx, ps, rfl, ho, hc, hf, by omega, ?_⟩
    obtain ⟨F2, H2⟩ := w2
    obtain ⟨st3, mm3⟩ := MemOk.put (o := .ins C dx (putF f v ps)) (d := cIns C (n + 1) ((f, y) :: fs)) mm2 ha ⟨dx, _, rfl, by have := putF_len f v ps; omega, fun g d hg => by
      rw [lookup_putF]
      by_cases e : g = f
      · subst e
        have : (some y : Option Dy) = some d := by simpa [List.lookup] using hg
        cases this
        exact ⟨v, if_pos rfl, y.mono st2.ex st2.pre r1⟩
      · have e2 : (g == f) = false := by simpa using e
        have hg2 : fs.lookup g = some d := by simpa [List.lookup, e2] using hg
        rw [if_neg e]
        exact hfs g d hg2⟩
    exact q1 env _ as2 σ _ ((st1.trans st2).trans st3) ⟨s.sl.step ((st1.trans st2).trans st3), mm3⟩ p
theorem okDs0 : ∀ {ds : List Dy} {F : Hp} {as : List Addr} {vs : List V}, okDs 0 ds → RepDs c F as vs ds → RepDs c F [] vs ds := fun o r => by
  have := RepDs.cut (k := 0) o r
  simpa using this
/-- Table(..), its __init__ by S -/
theorem we_makeT {n : Nat} {S : ASp} {E : XK} {t : TA} (h : WA c t env M fun ds m1 => ds.length + 1 = n ∧ okDs 0 ds ∧ S (dy (MR.mk 0) :: ds) [cIns (c.cls "Table") 0 []] fun d m' => ∃ (tb : Tab) (q : Nat) (fs : List (Str × Dy)), m' = [cIns (c.cls "Table") q fs] ∧ d = dy () ∧ fs.lookup ("cells" : Str) = some (dy tb.cells) ∧ fs.lookup ("kinds" : Str) = some (dy tb.kinds) ∧ Rep.ok tb.kinds 0 ∧ P (dy tb) m1) :
    WE c (tMake (c.cls "Table") (spOf c n 1 S) [] E t) env M P := fun as σ w Q s q =>
  h as σ w _ s fun vs as1 w1 ds m1 st1 mm1 r1 p1 => by
    obtain ⟨hn, hok, hS⟩ := p1
    intro x dx hx hdx hne
    rw [List.append_nil]
    obtain ⟨F1, H1⟩ := w1
    have fx : F1 x = none := MemOk.fresh mm1 hx
    have fdx : F1 dx = none := MemOk.fresh mm1 hdx
    have ex0 : Ex F1 (upd F1 dx (.own x)) := Evl.Ex.new fdx
    have exH : Ex (upd F1 dx (.own x)) (upd (upd H1 dx (.own x)) x (.ins (c.cls "Table") dx [])) := fun b o hb => by
      by_cases e : b = dx
      · subst e; rw [upd_same] at hb; cases hb; rw [upd_ne hne, upd_same]
      · rw [upd_ne e] at hb
        have hb2 := mm1.ex b o hb
        have : b ≠ x := fun z => by rw [z, fx] at hb; cases hb
        rw [upd_ne this, upd_ne e]; exact hb2
    refine ⟨[x], upd F1 dx (.own x), dy (MR.mk 0) :: ds, [cIns (c.cls "Table") 0 []], _, rfl, by rw [List.length_cons]; exact hn, ⟨by simp, rfl, exH, fun a ha => ?_, fun j d hj => ?_⟩, .cons ⟨x, rfl, rfl⟩ (RepDs.mono ex0 ⟨[x], rfl⟩ (okDs0 hok r1)), hS, fun v w2 d m' st2 mm2 r2 p2 => ?_⟩
    · have : a = x := by simpa using ha
      subst this
      show upd F1 dx (.own a) a = none
      rw [upd_ne (Ne.symm hne)]; exact fx
    · match j, hj with
      | 0, hj =>
        have : cIns (c.cls "Table") 0 [] = d := by simpa using hj
        subst this
        exact ⟨x, _, rfl, upd_same, dx, [], rfl, Nat.le_refl _, fun f d hf => by simp [List.lookup] at hf⟩
      | j + 1, hj => simp at hj
    · obtain ⟨tb, nq, fs, rfl, rfl, hf1, hf2, hok2, p⟩ := p2
      obtain rfl : v = .non := r2
      obtain ⟨a, o, ha, ho, dx2, ps, rfl, hl2, hfs⟩ := mm2.at_ 0 _ rfl
      have : x = a := by simpa using ha
      subst this
      obtain ⟨u1, g1, g2⟩ := hfs _ _ hf1
      obtain ⟨u2, g3, g4⟩ := hfs _ _ hf2
      obtain rfl : u1 = .int tb.cells := g2
      obtain ⟨F2, H2⟩ := w2
      have fx2 : F2 x = none := mm2.dis x (by simp)
      have exT : Ex F2 (upd F2 x (.ins (c.cls "Table") dx2 ps)) := Evl.Ex.new fx2
      have exA : Ex F1 (upd F2 x (.ins (c.cls "Table") dx2 ps)) := (ex0.trans st2.ex).trans exT
      have keepH : ∀ b o, H1 b = some o → H2 b = some o := fun b o hb => by
        have n1 : b ≠ x := ne_of_none hb hx
        have n2 : b ≠ dx := ne_of_none hb hdx
        exact st2.keep b o (by dsimp only; rw [upd_ne n1, upd_ne n2]; exact hb) (by simpa using n1)
      have newF : ∀ b, F1 b = none → upd F2 x (.ins (c.cls "Table") dx2 ps) b ≠ none → H1 b = none := fun b hb hb2 => by
        by_cases e : b = x
        · rw [e]; exact hx
        · rw [upd_ne e] at hb2
          by_cases e2 : b = dx
          · rw [e2]; exact hdx
          · rcases st2.fr b (by dsimp only; rw [upd_ne e2]; exact hb) hb2 with z | z
            · dsimp only at z
              rw [upd_ne e, upd_ne e2] at z; exact z
            · exact absurd (by simpa using z) e
      refine ⟨rfl, q (.ref x) as1 ⟨upd F2 x (.ins (c.cls "Table") dx2 ps), H2⟩ (dy tb) m1 (st1.trans ⟨List.prefix_refl _, exA, fun b hb hb2 => .inl (newF b hb hb2), fun b h1 h2 => absurd h1 h2, fun b o hb _ => keepH b o hb, fun b hb => ?_⟩) ⟨mm1.nd, mm1.len, fun b o hb => ?_, fun b hb => ?_, fun j d hj => ?_⟩ ⟨x, dx2, ps, u2, rfl, upd_same, g1, g3, ?_⟩ p⟩
      · obtain ⟨o, ho2⟩ := Option.ne_none_iff_exists'.mp hb
        dsimp only
        rw [keepH b o ho2]; simp
      · dsimp only at hb ⊢
        by_cases e : b = x
        · subst e; rw [upd_same] at hb; cases hb; exact ho
        · rw [upd_ne e] at hb; exact mm2.ex b o hb
      · by_cases e : upd F2 x (.ins (c.cls "Table") dx2 ps) b = none
        · exact e
        · exact absurd (newF b (mm1.dis b hb) e) (MemOk.isSome mm1 hb)
      · obtain ⟨b, o', h1, h2, h3⟩ := mm1.at_ j d hj
        exact ⟨b, o', h1, keepH b o' h2, d.mono exA (List.prefix_refl _) h3⟩
      · have g5 := Rep.cut (k := 0) hok2 g4
        exact Rep.mono (F := F2) (as := []) exT (List.nil_prefix) (by simpa using g5)
/-! ### dict comprehensions, to change later -/
theorem dc_core {S : Type} {wi : TI} {g : TG} {tt : TT} {tk tv : TE} {vs : List Nat} {ts : List Nat} {Q : VK} {as : List Addr} {σ : L2.St} {w : Hw} (I : List β → S → List (Int × γ) → Prop) (Mm : S → Mem) (hts : ∀ t ∈ ts, t ∈ vs) (s : Sta c env M as σ w)
    (h : WI c wi env M fun ds M1 => ∃ xs : List β, ds = xs.map dy ∧ ∃ s0, I [] s0 [] ∧ M1 = Mm s0 ∧
      (∀ pre y post s acc, xs = pre ++ y :: post → I pre s acc → (Mm s).length = M1.length ∧ Keys1 acc ∧ WG c ts g (dy y) (wipeE env vs) (Mm s ++ [cDic acc]) fun e m => WT c tt e m fun b m1 =>
        (b = true → WE c tk e m1 (As Int fun i m2 => WE c tv e m2 (As γ fun z m3 => acc.length < 100000 ∧ ∃ s', I (pre ++ [y]) s' (dput acc i z) ∧ m3 = Mm s' ++ [cDic acc]))) ∧ (b = false → ∃ s', I (pre ++ [y]) s' acc ∧ m1 = Mm s' ++ [cDic acc])) ∧
      (∀ s acc, I xs s acc → (Mm s).length = M1.length ∧ ∀ as2 w2 D, Step as w (as2 ++ [D]) w2 → MemOk c (as2 ++ [D]) w2 (Mm s ++ [cDic acc]) → Q (.ref D) w2.H)) : tDc wi g tt tk tv vs σ w.H Q :=
  h as σ w _ s fun J as1 w1 ds M1 st1 mm1 wk p1 D hD => by
    obtain ⟨xs, rfl, s0, i0, rfl, turn, fin⟩ := p1
    have hml : (xs.map (dy (α := β))).length = xs.length := List.length_map _
    have sa := s.step st1 mm1
    obtain ⟨stD, mmD⟩ := MemOk.newCell (d := cDic ([] : List (Int × γ))) (o := .dK []) mm1 hD ⟨[], rfl, .nil⟩
    have hn : as1.length = (Mm s0).length := mm1.len.symm
    have hlen : ∀ i s6 acc, i ≤ xs.length → I (xs.take i) s6 acc → (Mm s6).length = (Mm s0).length := fun i s6 acc hi h6 => by
      by_cases h7 : i < xs.length
      · exact (turn (xs.take i) xs[i] (xs.drop (i + 1)) s6 _ (by rw [← List.drop_eq_getElem_cons h7, List.take_append_drop]) h6).1
      · have : xs.take i = xs := List.take_of_length_le (by omega)
        rw [this] at h6
        exact (fin s6 _ h6).1
    refine ⟨fun i m H' => m = xs.length - i ∧ i ≤ xs.length ∧ ∃ F' s' acc, Step (as1 ++ [D]) ⟨w1.F, upd w1.H D (.dK [])⟩ (as1 ++ [D]) ⟨F', H'⟩ ∧ I (xs.take i) s' acc ∧ MemOk c (as1 ++ [D]) ⟨F', H'⟩ (Mm s' ++ [cDic acc]), ⟨xs.length, by simp, Nat.zero_le _, w1.F, s0, [], .refl _ _, by simpa using i0, mmD⟩, ?_⟩
    rintro i m H' ⟨rfl, hi, F', s', acc, st, hI, hM⟩
    have stJ : Step as1 w1 (as1 ++ [D]) ⟨F', H'⟩ := stD.trans st
    by_cases hlt : i < xs.length
    · refine .inr ⟨wk.go i _ _ _ stJ hM (by rw [hml]; exact hlt), fun H2 => ∃ F2 s2 acc2, Step (as1 ++ [D]) ⟨w1.F, upd w1.H D (.dK [])⟩ (as1 ++ [D]) ⟨F2, H2⟩ ∧ I (xs.take (i + 1)) s2 acc2 ∧ MemOk c (as1 ++ [D]) ⟨F2, H2⟩ (Mm s2 ++ [cDic acc2]), fun H2 ⟨F2, s2, acc2, a1, a3, a4⟩ => ⟨xs.length - (i + 1), by omega, rfl, hlt, F2, s2, acc2, a1, a3, a4⟩, fun v H2 hy => ?_⟩
      have hx : xs[i]? = some xs[i] := List.getElem?_eq_getElem hlt
      obtain ⟨F2, st2, mm2, rv⟩ := wk.yld i _ _ (dy xs[i]) v H2 _ stJ hM (by rw [List.getElem?_map, hx] <;> rfl) hy
      have spl : xs = xs.take i ++ xs[i] :: xs.drop (i + 1) := by
        rw [← List.drop_eq_getElem_cons hlt, List.take_append_drop]
      have htk : xs.take i ++ [xs[i]] = xs.take (i + 1) := by rw [List.take_add_one, hx] <;> rfl
      obtain ⟨hle, nd, tr⟩ := turn (xs.take i) xs[i] (xs.drop (i + 1)) s' acc spl hI
      have hS2 : Sta c (wipeE env vs) (Mm s' ++ [cDic acc]) (as1 ++ [D]) (wipe σ vs) ⟨F2, H2⟩ := ⟨(sa.sl.step (stJ.trans st2)).wipe vs, mm2⟩
      refine tr (as1 ++ [D]) (wipe σ vs) ⟨F2, H2⟩ v _ hS2 rv fun e3 m3 as3 σ3 w3 st3 s3 z3 p3 => ?_
      refine ⟨(z3 vs hts).trans (wipe_idem vs fun t ht y q => wipe_none ht y q), ?_⟩
      refine p3 as3 σ3 w3 _ s3 fun b as4 w4 m4 st4 mm4 p4 => ?_
      have stA : Step (as1 ++ [D]) ⟨w1.F, upd w1.H D (.dK [])⟩ as4 w4 := (((st.trans st2).trans st3).trans st4)
      cases b with
      | true =>
        rw [if_pos rfl]
        refine p4.1 rfl as4 σ3 w4 _ (s3.step st4 mm4) fun v5 as5 w5 z m5 st5 mm5 r5 p5 => ?_
        obtain ⟨ki, rfl, p5⟩ := p5
        obtain rfl : v5 = .int ki := r5
        refine p5 as5 σ3 w5 _ (s3.step (st4.trans st5) mm5) fun v6 as6 w6 z m6 st6 mm6 r6 p6 => ?_
        obtain ⟨z, rfl, hsz, s6, i6, rfl⟩ := p6
        rw [htk] at i6
        have stB : Step (as1 ++ [D]) ⟨w1.F, upd w1.H D (.dK [])⟩ as6 w6 := (stA.trans st5).trans st6
        have h6 := hlen (i + 1) s6 _ hlt i6
        have has6 : as6 = as1 ++ [D] := by
          refine Step.unhide stB ?_
          rw [← mm6.len, List.length_append, h6, hn]; rfl
        subst has6
        have hkD : (as1 ++ [D])[(Mm s6).length]? = some D := by
          rw [h6, ← hn]; simp
        obtain ⟨a, o, ha, ho, ws, rfl, hr⟩ := mm6.at_ (Mm s6).length (cDic acc) (by simp)
        rw [hkD] at ha; cases ha
        refine ⟨ws, Sum.inl ki, rfl, ho, Nat.lt_of_lt_of_le (by rw [rk_len hr]; exact hsz) (by decide : 100000 ≤ sizeLine), ?_⟩
        obtain ⟨stP, mmP⟩ := MemOk.put (d := cDic (dput acc ki z)) (o := .dK (putK ws (Sum.inl ki) v6)) mm6 hkD ⟨_, rfl, rk_put nd hr r6⟩
        have e9 : (Mm s6 ++ [cDic acc]).set (Mm s6).length (cDic (dput acc ki z)) = Mm s6 ++ [cDic (dput acc ki z)] := by
          rw [List.set_append_right _ _ (Nat.le_refl _)]; simp
        rw [e9] at mmP
        exact ⟨w6.F, s6, dput acc ki z, stB.trans stP, i6, mmP⟩
      | false =>
        rw [if_neg Bool.false_ne_true]
        obtain ⟨s6, i6, rfl⟩ := p4.2 rfl
        rw [htk] at i6
        have h6 := hlen (i + 1) s6 _ hlt i6
        have has4 : as4 = as1 ++ [D] := by
          refine Step.unhide stA ?_
          rw [← mm4.len, List.length_append, h6, hn]; rfl
        subst has4
        exact ⟨w4.F, s6, acc, stA, i6, mm4⟩
    · have e : i = xs.length := by omega
      subst e
      rw [List.take_length] at hI
      exact .inl ⟨wk.stop _ _ _ _ stJ hM hml.symm, (fin s' acc hI).2 as1 ⟨F', H'⟩ D (st1.trans stJ) hM⟩
theorem we_dcC {S : Type} {wi : TI} {g : TG} {tt : TT} {tk tv : TE} {vs ts : List Nat} (I : List β → S → List (Int × γ) → Prop) (Mm : S → Mem) (hts : ∀ t ∈ ts, t ∈ vs)
    (h : WI c wi env M fun ds M1 => ∃ xs : List β, ds = xs.map dy ∧ ∃ s0, I [] s0 [] ∧ M1 = Mm s0 ∧
      (∀ pre y post s acc, xs = pre ++ y :: post → I pre s acc → (Mm s).length = M1.length ∧ Keys1 acc ∧ WG c ts g (dy y) (wipeE env vs) (Mm s ++ [cDic acc]) fun e m => WT c tt e m fun b m1 =>
        (b = true → WE c tk e m1 (As Int fun i m2 => WE c tv e m2 (As γ fun z m3 => acc.length < 100000 ∧ ∃ s', I (pre ++ [y]) s' (dput acc i z) ∧ m3 = Mm s' ++ [cDic acc]))) ∧ (b = false → ∃ s', I (pre ++ [y]) s' acc ∧ m1 = Mm s' ++ [cDic acc])) ∧
      (∀ s acc, I xs s acc → (Mm s).length = M1.length ∧ P (dy (MR.mk M1.length)) (Mm s ++ [cDic acc]))) : WE c (tDc wi g tt tk tv vs) env M P := fun as σ w Q s q =>
  dc_core I Mm hts s fun as1 σ1 w1 R s1 kk => h as1 σ1 w1 R s1 fun J as2 w2 ds M1 st2 mm2 wk p => kk J as2 w2 ds M1 st2 mm2 wk (by
    obtain ⟨xs, eds, s0, i0, e0, turn, fin⟩ := p
    refine ⟨xs, eds, s0, i0, e0, turn, fun s' acc hI => ⟨(fin s' acc hI).1, fun as3 w3 D st3 mm3 => ?_⟩⟩
    obtain ⟨f1, f4⟩ := fin s' acc hI
    refine q _ (as3 ++ [D]) w3 (dy (MR.mk M1.length)) _ st3 mm3 ⟨D, ?_, rfl⟩ f4
    have h1 := mm3.len
    simp only [List.length_append, List.length_cons, List.length_nil] at h1
    have : M1.length = as3.length := by omega
    show (as3 ++ [D])[M1.length]? = some D
    rw [this]; simp)
/-! ### a range from its end -/
def downto (n : Nat) : List Int := (upto n).reverse
theorem wi_rev (h : WE c te env M (As Int fun n m => 0 ≤ n ∧ n ≤ 100000 ∧ Q ((downto n.toNat).map dy) m)) : WI c (iRevR (tRg1 te)) env M Q := fun as σ w R s q =>
  h as σ w _ s fun v as1 w1 d m st mm r p => by
    obtain ⟨n, rfl, h0, h1, p⟩ := p
    obtain rfl : v = .int n := r
    have hl : ((downto n.toNat).map (dy (α := Int))).length = n.toNat := by simp [downto, upto_len]
    have e0 : (n - 0).toNat = n.toNat := by rw [Int.sub_zero]
    refine ⟨n, rfl, by omega, by omega, by omega, by omega, q _ as1 w1 _ m st mm ⟨fun i as' w' M' st m h => ?_, fun i as' w' M' st m h => ?_, fun i as' w' x v H2 M' st m h hy => ?_⟩ p⟩
    · rw [hl] at h; show i < (n - 0).toNat; rw [e0]; exact h
    · rw [hl] at h; show (n - 0).toNat ≤ i; rw [e0]; exact Nat.le_of_eq h.symm
    · obtain ⟨rfl, rfl⟩ := hy
      refine ⟨w'.F, .refl _ _, m, ?_⟩
      rw [List.getElem?_map] at h
      cases e : (downto n.toNat)[i]? with
      | none => rw [e] at h; cases h
      | some j =>
        rw [e] at h
        cases h
        have hi : i < n.toNat := by
          have := (List.getElem?_eq_some_iff.mp e).1
          simpa [downto, upto_len] using this
        have hj : j = ((n.toNat - 1 - i : Nat) : Int) := by
          unfold downto upto at e
          rw [← List.map_reverse, List.getElem?_map, List.getElem?_reverse (by simpa using hi), List.length_range, List.getElem?_range (by omega)] at e
          simpa using e.symm
        show V.int _ = V.int j
        rw [hj]
        congr 1
        rw [e0]
        omega
end
end Zq
end
section
set_option Elab.async false
set_option linter.all false
set_option maxRecDepth 100000
/-! name = {k: v for ..} on one line. -/
namespace Zr
open PySem PySem.Spec PyProof.Rows L2
theorem swD_true {kx vx : Expr} {gs : List Comprehension} {scope : Scope} {pos py : Pos} {y : Str} {l : Nat} {env : Env} (h1 : env.scope.kind = .function) (h2 : env.scope.names.lookup y = some .local) (h3 : (py.line == pos.line) = true)
    (h4 : (scope.names.any fun (n, k) => n == y && (k == .local || k == .cell)) = false) : swapsWith (.DictComp kx vx gs scope pos) (some (.Name y py)) l env = pure true := by
  have kb : env.blockKind = .function := by unfold Env.blockKind; rw [h1]; rfl
  have ky : env.kindOf y = some .local := h2
  unfold swapsWith
  simp only [kb, ky, h4, Expr.pos, h3]
  rfl
theorem ps_setDc {X : Cx} {i : Nat} {y : Str} {py : Pos} {kx vx tg iter : Expr} {ifs : List Expr} {scope : Scope} {own : List (Str × Nat)} {pos spos : Pos} {wi : TI} {g : TG} {tt : TT} {tk tv : TE} (hc : X.calm = true) (hN : X.N.Nodup) (hy : X.N[i]? = some y) (hyl : X.env.scope.names.lookup y = some .local)
    (hsw : swapsWith (.DictComp kx vx [⟨tg, iter, ifs, 0⟩] scope pos) (some (.Name y py)) spos.line X.env = pure true) (hi : PI X tg iter wi) (ok : BlkOk X.N X.env.scope scope own)
    (hg : ∀ (s : Shared) (H : Hp) (C : Addr) (cl : List (Str × Addr)) (fp : List Addr), PG (X.blk s H scope (compEnvC scope cl C X.env) fp) tg g)
    (ht : ∀ (s : Shared) (H : Hp) (C : Addr) (cl : List (Str × Addr)) (fp : List Addr), PTs (X.blk s H scope (compEnvC scope cl C X.env) fp) ifs tt)
    (hk : ∀ (s : Shared) (H : Hp) (C : Addr) (cl : List (Str × Addr)) (fp : List Addr), PE (X.blk s H scope (compEnvC scope cl C X.env) fp) kx tk)
    (he : ∀ (s : Shared) (H : Hp) (C : Addr) (cl : List (Str × Addr)) (fp : List Addr), PE (X.blk s H scope (compEnvC scope cl C X.env) fp) vx tv)
    (hs : ∀ x, foldedSetIterable iter X.env x = pure x := by intro _; rfl) :
    PS X (.Assign [.Name y py] (.DictComp kx vx [⟨tg, iter, ifs, 0⟩] scope pos) spos) (tAsg (tDc wi g tt tk tv (own.map (·.2))) (gName i)) := by
  constructor
  intro pins s σ H D I h
  rw [exec_Assign_Name_used _ _ _ _ hsw]
  refine wpAny_bind (wpAny_standAt (wpAny_bind ?_))
  show wpAny _ X.A (do
    let _ ← comprehension (.DictComp kx vx [⟨tg, iter, ifs, 0⟩] scope pos) scope X.env (firstIterPos [⟨tg, iter, ifs, 0⟩] pos) newDict false (eval iter X.env) (some (assign (.Name y py) X.env))) _ _ s
  have ask : tDc wi g tt tk tv (own.map (·.2)) σ H (fun x H1 => gName i x σ H1 D.nx) := h
  refine wpAny_bind (thn (dc_core (Qf := fun _ s2 => SP X pins D .next s2) hc hN I hi ok hg ht hk he hs ask ?_) fun _ s2 hq => wpAny_pure (wpAny_pure hq))
  intro L C s2 m H2 I2 q hn fr
  show wpAny _ _ (assign (.Name y py) X.env (.ref L)) _ _ _
  refine wpAny_assign_Name (store_ok2 (v := V.ref L) I2 hN hy (.inl hyl) rfl ?_ (.inr hyl))
  rintro s3 I3 ⟨a, sb, ha⟩
  obtain ⟨f0, f1, f2, f3, f4, f5⟩ := fr
  have ne : C ≠ a := ha.elim (fun z => by rw [z]; exact f1) fun z e => f4 y a z e.symm
  exact ⟨m, hn.sameBut sb ne, fun h3 sb3 => ⟨_, H2, I3.turned (t' := s3.toks) (fun b o hb e => (sb3.2 b hb).trans e) f0 f1 f3 f4 f5, q⟩⟩
end Zr
end
section
set_option Elab.async false
set_option linter.all false
set_option maxRecDepth 100000
/-! The hand that draws; promises' small change. -/
namespace Zq
open PySem PySem.Spec PyProof.Rows L2
open Rep (rep)
/-- the drawing hand, its five parts -/
def cHandX (cells : List Int) (a b s n : Int) : Cell where
  h c F as o := ∃ v, o = .lst [v, .int a, .int b, .int s, .int n] ∧ rep c F as v cells
  mono := by rintro c F F' as as' o e p ⟨v, rfl, r⟩; exact ⟨v, rfl, Rep.mono (x := cells) e p r⟩
  ok k := Rep.ok cells k
  cut := by rintro c F as o k hk ⟨v, rfl, r⟩; exact ⟨v, rfl, Rep.cut (x := cells) hk r⟩
theorem okL_int {k : Nat} : ∀ xs : List Int, okL k xs
  | [] => trivial
  | _ :: xs => ⟨trivial, okL_int xs⟩
/-- the drawing hand -/
def cHand : Cell where
  h c F as o := ∃ (cells : List Int) (a b s n : Int), 0 ≤ a ∧ (cHandX cells a b s n).h c F as o
  mono := by rintro c F F' as as' o e p ⟨cs, a, b, s, n, h0, h⟩; exact ⟨cs, a, b, s, n, h0, (cHandX cs a b s n).mono e p h⟩
  ok _ := True
  cut := by rintro c F as o k hk ⟨cs, a, b, s, n, h0, h⟩; exact ⟨cs, a, b, s, n, h0, (cHandX cs a b s n).cut (okL_int cs) h⟩
section
variable {c : Cc} {env : Env'} {M : Mem} {Q : List Dy → Mem → Prop} {α β γ : Type} [Rep α] [Rep β] [Rep γ] {ta tb te : TE} {P : Dy → Mem → Prop} {B : Bool → Mem → Prop} {k : Nat} {nx : Env' → Mem → Prop} {rt rt' : Dy → Mem → Prop}
/-- it is opened -/
theorem ws_open {t : TS} (h : ∀ (cells : List Int) (a b s n : Int), 0 ≤ a → WS c k t env [cHandX cells a b s n] nx rt) : WS c k t env [cHand] nx rt := fun as σ w D st q1 q2 => by
  obtain ⟨a0, o, h1, h2, cs, a, b, s, n, h0, hh⟩ := st.me.at_ 0 cHand rfl
  refine h cs a b s n h0 as σ w D ⟨st.sl, st.me.nd, st.me.len, st.me.ex, st.me.dis, fun j d hj => ?_⟩ q1 q2
  match j, hj with
  | 0, hj =>
    have : cHandX cs a b s n = d := by simpa using hj
    subst this
    exact ⟨a0, o, h1, h2, hh⟩
  | j + 1, hj => simp at hj
/-- .. and shut at the end -/
theorem ws_shut {t : TS} (h : WS c k t env M nx fun x m => ∃ (cells : List Int) (a b s n : Int), 0 ≤ a ∧ m = [cHandX cells a b s n] ∧ rt x [cHand]) : WS c k t env M nx rt := fun as σ w D st q1 q2 =>
  h as σ w D st q1 fun v as' w' x m' st' mm r p => by
    obtain ⟨cs, a, b, s, n, h0, rfl, p⟩ := p
    refine q2 v as' w' x [cHand] st' ⟨mm.nd, mm.len, mm.ex, mm.dis, fun j d hj => ?_⟩ r p
    match j, hj with
    | 0, hj =>
      have : cHand = d := by simpa using hj
      subst this
      obtain ⟨a0, o, h1, h2, hh⟩ := mm.at_ 0 _ rfl
      exact ⟨a0, o, h1, h2, cs, a, b, s, n, h0, hh⟩
    | j + 1, hj => simp at hj
section
variable {cells : List Int} {a b s n : Int}
theorem rr_hand (i : Int) {z : Dy} (hz : ∀ F as v, rep c F as v cells → (i = 0 → z.h c F as v) ∧ (i = 1 → z.h c F as (.int a)) ∧ (i = 2 → z.h c F as (.int b)) ∧ (i = 3 → z.h c F as (.int s)) ∧ (i = 4 → z.h c F as (.int n))) (hi : i = 0 ∨ i = 1 ∨ i = 2 ∨ i = 3 ∨ i = 4) (h0 : M[0]? = some (cHandX cells a b s n)) (p : P z M) : RR c (rIxL c.K) (dy (MR.mk 0)) (dy i) M P :=
  rr_pure (fun as W v w Q m r1 r2 k => by
    obtain ⟨a0, o, h1, h2, v0, rfl, r⟩ := m.at_ 0 _ h0
    obtain ⟨a1, h1', rfl⟩ := r1
    rw [h1] at h1'; cases h1'
    obtain ⟨g0, g1, g2, g3, g4⟩ := hz W.F as v0 r
    rcases hi with rfl | rfl | rfl | rfl | rfl
    · exact ⟨_, _, _, v0, rfl, r2, sql_of h2, rfl, k _ (g0 rfl)⟩
    · exact ⟨_, _, _, _, rfl, r2, sql_of h2, rfl, k _ (g1 rfl)⟩
    · exact ⟨_, _, _, _, rfl, r2, sql_of h2, rfl, k _ (g2 rfl)⟩
    · exact ⟨_, _, _, _, rfl, r2, sql_of h2, rfl, k _ (g3 rfl)⟩
    · exact ⟨_, _, _, _, rfl, r2, sql_of h2, rfl, k _ (g4 rfl)⟩) p
theorem rr_hand0 (h0 : M[0]? = some (cHandX cells a b s n)) (p : P (dy cells) M) : RR c (rIxL c.K) (dy (MR.mk 0)) (dy (0 : Int)) M P :=
  rr_hand 0 (z := dy cells) (fun F as v r => ⟨fun _ => r, by omega, by omega, by omega, by omega⟩) (by omega) h0 p
theorem rr_hand1 (h0 : M[0]? = some (cHandX cells a b s n)) (p : P (dy a) M) : RR c (rIxL c.K) (dy (MR.mk 0)) (dy (1 : Int)) M P :=
  rr_hand 1 (z := dy a) (fun F as v r => ⟨by omega, fun _ => rfl, by omega, by omega, by omega⟩) (by omega) h0 p
theorem rr_hand2 (h0 : M[0]? = some (cHandX cells a b s n)) (p : P (dy b) M) : RR c (rIxL c.K) (dy (MR.mk 0)) (dy (2 : Int)) M P :=
  rr_hand 2 (z := dy b) (fun F as v r => ⟨by omega, by omega, fun _ => rfl, by omega, by omega⟩) (by omega) h0 p
theorem rr_hand3 (h0 : M[0]? = some (cHandX cells a b s n)) (p : P (dy s) M) : RR c (rIxL c.K) (dy (MR.mk 0)) (dy (3 : Int)) M P :=
  rr_hand 3 (z := dy s) (fun F as v r => ⟨by omega, by omega, by omega, fun _ => rfl, by omega⟩) (by omega) h0 p
theorem rr_hand4 (h0 : M[0]? = some (cHandX cells a b s n)) (p : P (dy n) M) : RR c (rIxL c.K) (dy (MR.mk 0)) (dy (4 : Int)) M P :=
  rr_hand 4 (z := dy n) (fun F as v r => ⟨by omega, by omega, by omega, by omega, fun _ => rfl⟩) (by omega) h0 p
/-- one of its ints set -/
theorem wg_hand {to ti : TE} {x : Int} (h : WE c to env [cHandX cells a b s n] (As MR fun j m1 => j.k = 0 ∧ m1 = [cHandX cells a b s n] ∧ WE c ti env m1 (As Int fun i m2 => m2 = [cHandX cells a b s n] ∧
    ((i = 1 ∧ nx env [cHandX cells x b s n]) ∨ (i = 2 ∧ nx env [cHandX cells a x s n]) ∨ (i = 3 ∧ nx env [cHandX cells a b x n]) ∨ (i = 4 ∧ nx env [cHandX cells a b s x]))))) : WG c [] (gSub to ti rSetL) (dy x) env [cHandX cells a b s n] nx := fun as σ w v N st r q =>
  h as σ w _ st fun u1 as1 w1 d1 m1 st1 mm1 r1 p1 => by
    obtain ⟨j, rfl, hj, rfl, p1⟩ := p1
    refine p1 as1 σ w1 _ (st.step st1 mm1) fun u2 as2 w2 d2 m2 st2 mm2 r2 p2 => ?_
    obtain ⟨i, rfl, rfl, p⟩ := p2
    obtain ⟨a0, o, h1, h2, v0, rfl, rr⟩ := mm2.at_ 0 _ rfl
    obtain ⟨a1, h1', rfl⟩ := Rep.mono (x := j) st2.ex st2.pre r1
    rw [hj, h1] at h1'; cases h1'
    obtain rfl : v = .int x := r
    obtain rfl : u2 = .int i := r2
    obtain ⟨F2, H2⟩ := w2
    have put : ∀ (l : List V) (d : Cell), d.h c F2 as2 (.lst l) → nx env [d] → N σ (upd H2 a0 (.lst l)) := fun l d hd hp => by
      obtain ⟨st3, mm3⟩ := MemOk.put (o := .lst l) (d := d) mm2 h1 hd
      exact q env _ as2 σ _ ((st1.trans st2).trans st3) ⟨st.sl.step ((st1.trans st2).trans st3), mm3⟩ (fun _ _ => rfl) hp
    rcases p with ⟨rfl, p⟩ | ⟨rfl, p⟩ | ⟨rfl, p⟩ | ⟨rfl, p⟩
    · exact ⟨_, _, 1, 1, rfl, rfl, h2, rfl, put _ (cHandX cells x b s n) ⟨v0, rfl, rr⟩ p⟩
    · exact ⟨_, _, 2, 2, rfl, rfl, h2, rfl, put _ (cHandX cells a x s n) ⟨v0, rfl, rr⟩ p⟩
    · exact ⟨_, _, 3, 3, rfl, rfl, h2, rfl, put _ (cHandX cells a b x n) ⟨v0, rfl, rr⟩ p⟩
    · exact ⟨_, _, 4, 4, rfl, rfl, h2, rfl, put _ (cHandX cells a b s x) ⟨v0, rfl, rr⟩ p⟩
end
theorem RepDs.cons_inv {F : Hp} {as : List Addr} {vs : List V} {x : Dy} {ds : List Dy} (h : RepDs c F as vs (x :: ds)) : ∃ v us, vs = v :: us ∧ x.h c F as v ∧ RepDs c F as us ds := by
  cases h with
  | cons r t => exact ⟨_, _, rfl, r, t⟩
/-- a new hand -/
theorem we_lstH {t : TA} (h : WA c t env M fun ds m => ∃ (cells : List Int) (a b s n : Int), ds = [dy cells, dy a, dy b, dy s, dy n] ∧ 0 ≤ a ∧ P (dy (MR.mk m.length)) (m ++ [cHand])) : WE c (tLst t) env M P := fun as σ H Q s k =>
  h as σ H _ s fun vs as1 H1 ds M1 st1 m1 r1 p1 => by
    obtain ⟨cells, a, b, s, n, rfl, h0, p⟩ := p1
    obtain ⟨v1, us, rfl, q1, t⟩ := RepDs.cons_inv r1
    obtain ⟨v2, us, rfl, q2, t⟩ := RepDs.cons_inv t
    obtain ⟨v3, v4, v5, rfl, q3, q4, q5⟩ := RepDs.three t
    obtain rfl : v2 = .int a := q2
    obtain rfl : v3 = .int b := q3
    obtain rfl : v4 = .int s := q4
    obtain rfl : v5 = .int n := q5
    refine ⟨small_le (by simp), fun q hq => ?_⟩
    obtain ⟨F1, H1⟩ := H1
    obtain ⟨st, m'⟩ := MemOk.newCell (o := .lst [v1, .int a, .int b, .int s, .int n]) (d := cHand) m1 hq ⟨cells, a, b, s, n, h0, v1, rfl, q1⟩
    exact k _ _ _ (dy (MR.mk M1.length)) _ (st1.trans st) m' ⟨q, by show (as1 ++ [q])[M1.length]? = some q; rw [m1.len]; simp, rfl⟩ p
def spHand (c : Cc) : Sp := fun vs H Q _ => ∃ (F : Hp) (ns : List Int), MemOk c [] ⟨F, H⟩ [] ∧ RepDs c F [] vs [dy ns] ∧ ns.length ≤ 63 ∧ ∀ p w', Step [] ⟨F, H⟩ [p] w' → MemOk c [p] w' [cHand] → Q (.ref p) w'.H
theorem we_callH {E : XK} {t : TA} (h : WA c t env M fun ds m => ∃ ns : List Int, ds = [dy ns] ∧ ns.length ≤ 63 ∧ P (dy (MR.mk m.length)) (m ++ [cHand])) : WE c (tCall (spHand c) [] E t) env M P := fun as σ w Q s q =>
  h as σ w _ s fun vs as1 w1 ds m1 st1 mm1 r1 p1 => by
    obtain ⟨ns, rfl, hl, p⟩ := p1
    rw [List.append_nil]
    refine ⟨w1.F, ns, ⟨List.nodup_nil, rfl, mm1.ex, (fun a h => by cases h), fun j d hj => by simp at hj⟩, okDs0 ⟨okL_int ns, trivial⟩ r1, hl, fun x w2 st2 mm2 => ?_⟩
    have hx : w1.H x = none := st2.frA x (by simp) (by simp)
    have hnot : x ∉ as1 := MemOk.notin (F := w1.F) (H := w1.H) mm1 hx
    have keep : ∀ a o, w1.H a = some o → w2.H a = some o := fun a o ha => st2.keep a o ha (by simp)
    have fr : ∀ a, w1.F a = none → w2.F a ≠ none → w1.H a = none := fun a h1 h2 => (st2.fr a h1 h2).elim id fun z => by simp at z
    have st3 : Step as1 w1 (as1 ++ [x]) w2 := ⟨⟨[x], rfl⟩, st2.ex, fun a h1 h2 => .inl (fr a h1 h2), fun a h1 h2 => by
      have : a = x := by
        rcases List.mem_append.mp h1 with z | z
        · exact absurd z h2
        · simpa using z
      rw [this]; exact hx, fun a o ha _ => keep a o ha, st2.dom⟩
    obtain ⟨a0, o, g1, g2, g3⟩ := mm2.at_ 0 _ rfl
    have e0 : x = a0 := by simpa using g1
    subst e0
    refine q (.ref x) (as1 ++ [x]) w2 (dy (MR.mk m1.length)) (m1 ++ [cHand]) (st1.trans st3) ⟨?_, by rw [List.length_append, List.length_append, mm1.len] <;> rfl, mm2.ex, fun a ha => ?_, fun j d hj => ?_⟩ ⟨x, by show (as1 ++ [x])[m1.length]? = some x; rw [mm1.len]; simp, rfl⟩ p
    · rw [List.nodup_append]
      refine ⟨mm1.nd, by simp, fun a ha b hb => ?_⟩
      have : b = x := by simpa using hb
      subst this
      intro z; subst z; exact hnot ha
    · rcases List.mem_append.mp ha with z | z
      · by_cases e : w2.F a = none
        · exact e
        · exact absurd (fr a (mm1.dis a z) e) (MemOk.isSome (F := w1.F) (H := w1.H) mm1 z)
      · exact mm2.dis a (by simpa using z)
    · by_cases hjl : j < m1.length
      · rw [List.getElem?_append_left hjl] at hj
        obtain ⟨b, o', h1, h2, h3⟩ := mm1.at_ j d hj
        exact ⟨b, o', by rw [List.getElem?_append_left (by rw [← mm1.len]; exact hjl)]; exact h1, keep b o' h2, d.mono st2.ex ⟨[x], rfl⟩ h3⟩
      · rw [List.getElem?_append_right (by omega)] at hj
        have h0 : j - m1.length = 0 := by
          have := (List.getElem?_eq_some_iff.mp hj).1
          simp at this; omega
        rw [h0] at hj
        have : cHand = d := by simpa using hj
        subst this
        have hj2 : j = as1.length := by have := mm1.len; omega
        subst hj2
        exact ⟨x, o, by simp, g2, by
          obtain ⟨cs, a', b', s', n', z0, z1⟩ := g3
          exact ⟨cs, a', b', s', n', z0, by
            have := (cHandX cs a' b' s' n').cut (k := 0) (okL_int cs) z1
            exact (cHandX cs a' b' s' n').mono (F := w2.F) (as := []) (Evl.Ex.refl _) List.nil_prefix (by simpa using this)⟩⟩
/-- the last statement, as it is -/
theorem ret_raw {as : List Addr} {σ : L2.St} {w : Hw} {D : Ends} (h : WE c te env M P) (s : Sta c env M as σ w) (k : ∀ v as' w' d m, Step as w as' w' → MemOk c as' w' m → d.h c w'.F as' v → P d m → D.rt v w'.H) : tRet te D σ w.H := h as σ w _ s k
end
end Zq
end
section
set_option Elab.async false
set_option linter.all false
set_option maxRecDepth 100000
/-! Data that names no cell; loops and comprehensions of the common kinds. -/
namespace Zq
open PySem PySem.Spec PyProof.Rows L2
open Rep (rep)
/-- data that names no cell -/
class Free (α : Type) [Rep α] : Prop where
  ok : ∀ (x : α) (k : Nat), Rep.ok x k
instance : Free Int := ⟨fun _ _ => trivial⟩
instance : Free Bool := ⟨fun _ _ => trivial⟩
instance : Free Unit := ⟨fun _ _ => trivial⟩
instance : Free Str := ⟨fun _ _ => trivial⟩
instance : Free ISet := ⟨fun _ _ => trivial⟩
theorem Free.l {α : Type} [Rep α] [Free α] (k : Nat) : ∀ xs : List α, okL k xs
  | [] => trivial
  | x :: xs => ⟨Free.ok x k, Free.l k xs⟩
theorem Free.k {α : Type} [Rep α] [Free α] (k : Nat) : ∀ xs : List (Int × α), okK k xs
  | [] => trivial
  | x :: xs => ⟨Free.ok x.2 k, Free.k k xs⟩
instance {α : Type} [Rep α] [Free α] : Free (List α) := ⟨fun x k => Free.l k x⟩
instance {α : Type} [Rep α] [Free α] : Free (Tp α) := ⟨fun x k => Free.l k x.l⟩
instance {α β : Type} [Rep α] [Rep β] [Free α] [Free β] : Free (α × β) := ⟨fun x k => ⟨Free.ok x.1 k, Free.ok x.2 k⟩⟩
instance {α β γ : Type} [Rep α] [Rep β] [Rep γ] [Free α] [Free β] [Free γ] : Free (T3 α β γ) := ⟨fun x k => ⟨Free.ok x.a k, Free.ok x.b k, Free.ok x.c k⟩⟩
instance {α : Type} [Rep α] [Free α] : Free (Option α) := ⟨fun x k => by cases x with | none => trivial | some y => exact Free.ok y k⟩
instance {β : Type} [Rep β] [Free β] : Free (Dc β) := ⟨fun x k => Free.k k x.kvs⟩
instance : Free Tab := ⟨fun x k => Free.ok x.kinds k⟩
theorem dy_ok {α : Type} [Rep α] [Free α] (x : α) (k : Nat) : (dy x).ok k := Free.ok x k
theorem cLst_ok {α : Type} [Rep α] [Free α] (xs : List α) (k : Nat) : (cLst xs).ok k := Free.l k xs
theorem cDic_ok {α : Type} [Rep α] [Free α] (xs : List (Int × α)) (k : Nat) : (cDic xs).ok k := Free.k k xs
theorem hand_ok (k : Nat) : cHand.ok k := trivial
theorem mr_ok {j k : Nat} (h : j < k) : (dy (MR.mk j)).ok k := h
theorem okM_nil {k : Nat} : okM k [] := trivial
theorem okM_cons {k : Nat} {d : Cell} {m : Mem} (h : d.ok k) (h2 : okM k m) : okM k (d :: m) := ⟨h, h2⟩
theorem okE_nil {k : Nat} : okE k [] := trivial
theorem okE_none {k : Nat} {e : Env'} (h2 : okE k e) : okE k (none :: e) := h2
theorem okE_cons {k : Nat} {d : Dy} {e : Env'} (h : d.ok k) (h2 : okE k e) : okE k (some d :: e) := ⟨h, h2⟩
theorem okDs_nil {k : Nat} : okDs k [] := trivial
theorem okDs_cons {k : Nat} {d : Dy} {e : List Dy} (h : d.ok k) (h2 : okDs k e) : okDs k (d :: e) := ⟨h, h2⟩
theorem paired_snoc {α β : Type} {R : α → β → Prop} {x : α} {y : β} (h2 : R x y) : ∀ {xs : List α} {ys : List β}, Paired R xs ys → Paired R (xs ++ [x]) (ys ++ [y])
  | _, _, .nil => .cons h2 .nil
  | _, _, .cons r t => .cons r (paired_snoc h2 t)
theorem paired_len {α β : Type} {R : α → β → Prop} : ∀ {xs : List α} {ys : List β}, Paired R xs ys → xs.length = ys.length
  | _, _, .nil => rfl
  | _, _, .cons _ t => by rw [List.length_cons, List.length_cons, paired_len t]
instance : Lt64 (Dt.dep (α := Int)) := ⟨by decide⟩
instance : Lt64 (Dt.dep (α := Bool)) := ⟨by decide⟩
instance dtTI : Dt (Tp Int) := instDtT
instance dtLI : Dt (List Int) := instDtL
instance : Lt64 (Dt.dep (α := Tp Int)) := ⟨by decide⟩
instance dtKd : Dt Kind := instDtP
instance : Lt64 (Dt.dep (α := Kind)) := ⟨by decide⟩
instance dtTK : Dt (Tp Kind) := instDtT
theorem tup_nil {c : Cc} {P : Dy → Mem → Prop} {M : Mem} (h : P (dy (Tp.mk ([] : List Int))) M) : TupOk c [] P M := tup_tp (α := Int) [] rfl (Nat.zero_le _) h
theorem bt_tt {X Y : Prop} (h : X) : (true = true → X) ∧ (true = false → Y) := ⟨fun _ => h, fun z => absurd z (by decide)⟩
theorem bt_ff {X Y : Prop} (h : Y) : (false = true → X) ∧ (false = false → Y) := ⟨fun z => absurd z (by decide), fun _ => h⟩
theorem bt_nt {X Y : Prop} (h : Y) : ((!true) = true → X) ∧ ((!true) = false → Y) := ⟨fun z => absurd z (by decide), fun _ => h⟩
theorem bt_nf {X Y : Prop} (h : X) : ((!false) = true → X) ∧ ((!false) = false → Y) := ⟨fun _ => h, fun z => absurd z (by decide)⟩
theorem bt_ft {X Y : Prop} (h : X) : (true = false → Y) ∧ (true = true → X) := ⟨fun z => absurd z (by decide), fun _ => h⟩
theorem bt_tf {X Y : Prop} (h : Y) : (false = false → Y) ∧ (false = true → X) := ⟨fun _ => h, fun z => absurd z (by decide)⟩
theorem bt_nt' {X Y : Prop} (h : Y) : ((!true) = false → Y) ∧ ((!true) = true → X) := ⟨fun _ => h, fun z => absurd z (by decide)⟩
theorem bt_nf' {X Y : Prop} (h : X) : ((!false) = false → Y) ∧ ((!false) = true → X) := ⟨fun z => absurd z (by decide), fun _ => h⟩
theorem bt_t {b : Bool} {X Y : Prop} (e : b = true) (h : X) : (b = true → X) ∧ (b = false → Y) := ⟨fun _ => h, fun z => absurd (e.symm.trans z) (by decide)⟩
theorem bt_f {b : Bool} {X Y : Prop} (e : b = false) (h : Y) : (b = true → X) ∧ (b = false → Y) := ⟨fun z => absurd (e.symm.trans z) (by decide), fun _ => h⟩
theorem bt_t' {b : Bool} {X Y : Prop} (e : b = true) (h : X) : (b = false → Y) ∧ (b = true → X) := ⟨fun z => absurd (e.symm.trans z) (by decide), fun _ => h⟩
theorem bt_f' {b : Bool} {X Y : Prop} (e : b = false) (h : Y) : (b = false → Y) ∧ (b = true → X) := ⟨fun _ => h, fun z => absurd (e.symm.trans z) (by decide)⟩
theorem ex_l {α : Type} [Rep α] {m : Mem} {k : Nat} {Z : List α → Prop} {xs : List α} (h : m[k]? = some (cLst xs)) (z : Z xs) : ∃ ys : List α, m[k]? = some (cLst ys) ∧ Z ys := ⟨xs, h, z⟩
theorem ex_d {α : Type} [Rep α] {m : Mem} {k : Nat} {Z : List (Int × α) → Prop} {xs : List (Int × α)} (h : m[k]? = some (cDic xs)) (z : Z xs) : ∃ ys : List (Int × α), m[k]? = some (cDic ys) ∧ Z ys := ⟨xs, h, z⟩
theorem ca5 {n k : Nat} {ds : List Dy} {M : Mem} {Z : Prop} (h1 : ds.length = n) (h2 : k ≤ M.length) (h3 : okDs k ds) (h4 : okM k (M.take k)) (h5 : Z) : ds.length = n ∧ k ≤ M.length ∧ okDs k ds ∧ okM k (M.take k) ∧ Z := ⟨h1, h2, h3, h4, h5⟩
theorem ca3 {k : Nat} {d : Dy} {M : Mem} {Z : Prop} (h1 : d.ok k) (h4 : okM k (M.take k)) (h5 : Z) : d.ok k ∧ okM k (M.take k) ∧ Z := ⟨h1, h4, h5⟩
section
variable {c : Cc} {env : Env'} {M : Mem} {α β γ : Type} [Rep α] [Rep β] [Rep γ] [Free γ] {ta tb te : TE} {P : Dy → Mem → Prop} {B : Bool → Mem → Prop} {k : Nat} {nx : Env' → Mem → Prop} {rt : Dy → Mem → Prop}
theorem rr_ixTm1 {xs : Tp α} {y : α} (h : xs.l[xs.l.length - 1]? = some y) (p : P (dy y) M) : RR c (rIxT c.K) (dy xs) (dy (-1 : Int)) M P :=
  rr_pure (fun as W v w Q m r1 r2 k => by
    obtain ⟨a, vs, rfl, hs, r⟩ := r1
    obtain ⟨u, hu, ru⟩ := r.get h
    have hl := (List.getElem?_eq_some_iff.mp hu).1
    have hv := r.length
    have e : atI vs (-1) = some u := by
      unfold atI ixN
      rw [if_neg (by omega), if_pos (by omega)]
      show vs[(-1 + (vs.length : Int)).toNat]? = some u
      rw [show (-1 + (vs.length : Int)).toNat = xs.l.length - 1 by omega]
      exact hu
    exact ⟨a, vs, -1, u, rfl, r2, sqT_mono m.ex hs, e, k _ ru⟩) p
/-- a comprehension that leaves the cells as they are: what is let, told -/
theorem we_lcF {wi : TI} {g : TG} {tt : TT} {vs : List Nat} (ts : List Nat) (f : β → γ) (p : β → Bool) (hts : ∀ t ∈ ts, t ∈ vs) (om : okM M.length M)
    (h : WI c wi env M fun ds M1 => M1 = M ∧ ∃ xs : List β, ds = xs.map dy ∧ xs.length ≤ 100000 ∧
      (∀ y, y ∈ xs → ∀ acc : List γ, WG c ts g (dy y) (wipeE env vs) (M ++ [cLst acc]) fun e m => WT c tt e m fun b m1 => m1 = M ++ [cLst acc] ∧ b = p y ∧ (b = true → WE c te e (M ++ [cLst acc]) fun z m2 => z = dy (f y) ∧ m2 = M ++ [cLst acc])) ∧
      P (dy ((xs.filter p).map f)) M) : WE c (tLc wi g tt te vs) env M P := by
  refine we_lc (β := β) (γ := γ) (S := Unit) (ts := ts) (fun pre _ acc => acc = (pre.filter p).map f) (fun _ => M) hts fun as σ w R s q => h as σ w R s fun J as' w' ds M1 st mm wk hp => q J as' w' ds M1 st mm wk ?_
  obtain ⟨rfl, xs, rfl, hl, turn, fin⟩ := hp
  refine ⟨xs, rfl, (), rfl, rfl, fun pre y post s acc e I => ⟨rfl, fun as σ w v N s' r q => turn y (by rw [e]; simp) acc as σ w v N s' r fun e' M' as' σ' w' st sta wp hp => q e' M' as' σ' w' st sta wp (WT.mono hp fun b m1 hb => ?_)⟩, fun s acc I => ⟨rfl, Free.l _ _, om, by rw [I]; exact fin⟩⟩
  obtain ⟨rfl, hb, hw⟩ := hb
  subst I
  refine ⟨fun b1 => ?_, fun b0 => ⟨(), ?_, rfl⟩⟩
  · subst b1
    refine WE.mono (hw rfl) fun z m2 hz => ?_
    obtain ⟨rfl, rfl⟩ := hz
    refine ⟨f y, rfl, ?_, (), ?_, rfl⟩
    · rw [List.length_map]
      have h1 := List.length_filter_le p pre
      have h2 : pre.length < xs.length := by rw [e]; simp
      omega
    · show _ = List.map f (List.filter p (pre ++ [y]))
      rw [List.filter_append, List.map_append, List.filter_cons, ← hb, if_pos rfl] <;> rfl
  · subst b0
    show _ = List.map f (List.filter p (pre ++ [y]))
    rw [List.filter_append, List.filter_cons, ← hb, if_neg Bool.false_ne_true, List.filter_nil, List.append_nil]
/-- the same, all told -/
theorem we_lcM {wi : TI} {g : TG} {vs : List Nat} (ts : List Nat) (f : β → γ) (hts : ∀ t ∈ ts, t ∈ vs) (om : okM M.length M)
    (h : WI c wi env M fun ds M1 => M1 = M ∧ ∃ xs : List β, ds = xs.map dy ∧ xs.length ≤ 100000 ∧
      (∀ y, y ∈ xs → ∀ acc : List γ, WG c ts g (dy y) (wipeE env vs) (M ++ [cLst acc]) fun e m => m = M ++ [cLst acc] ∧ WE c te e m fun z m2 => z = dy (f y) ∧ m2 = M ++ [cLst acc]) ∧
      P (dy (xs.map f)) M) : WE c (tLc wi g tYes te vs) env M P := by
  refine we_lcF ts f (fun _ => true) hts om fun as σ w R s q => h as σ w R s fun J as' w' ds M1 st mm wk hp => q J as' w' ds M1 st mm wk ?_
  obtain ⟨rfl, xs, rfl, hl, turn, fin⟩ := hp
  refine ⟨rfl, xs, rfl, hl, fun y hy acc as σ w v N s' r q => turn y hy acc as σ w v N s' r fun e' M' as' σ' w' st sta wp hp => q e' M' as' σ' w' st sta wp (wt_yes ⟨hp.1, rfl, fun _ => ?_⟩), ?_⟩
  · have := hp.2
    rw [hp.1] at this
    exact this
  · rw [List.filter_eq_self.mpr (fun _ _ => rfl)]; exact fin
/-- all are told, each in G with what it is made of -/
theorem we_lcR {wi : TI} {g : TG} {vs : List Nat} (ts : List Nat) (G : β → γ → Prop) (hts : ∀ t ∈ ts, t ∈ vs) (om : okM M.length M)
    (h : WI c wi env M fun ds M1 => M1 = M ∧ ∃ xs : List β, ds = xs.map dy ∧ xs.length ≤ 100000 ∧
      (∀ y, y ∈ xs → ∀ acc : List γ, WG c ts g (dy y) (wipeE env vs) (M ++ [cLst acc]) fun e m => m = M ++ [cLst acc] ∧ WE c te e (M ++ [cLst acc]) (As γ fun z m2 => m2 = M ++ [cLst acc] ∧ G y z)) ∧
      ∀ zs : List γ, Paired G xs zs → P (dy zs) M) : WE c (tLc wi g tYes te vs) env M P := by
  refine we_lc (β := β) (γ := γ) (S := Unit) (ts := ts) (fun pre _ acc => Paired G pre acc) (fun _ => M) hts fun as σ w R s q => h as σ w R s fun J as' w' ds M1 st mm wk hp => q J as' w' ds M1 st mm wk ?_
  obtain ⟨rfl, xs, rfl, hl, turn, fin⟩ := hp
  refine ⟨xs, rfl, (), .nil, rfl, fun pre y post s acc e I => ⟨rfl, fun as σ w v N s' r q => turn y (by rw [e]; simp) acc as σ w v N s' r fun e' M' as' σ' w' st sta wp hp => q e' M' as' σ' w' st sta wp (wt_yes ?_)⟩, fun s acc I => ⟨rfl, Free.l _ _, om, fin acc I⟩⟩
  obtain ⟨rfl, hw⟩ := hp
  refine ⟨fun _ => WE.mono hw fun z m2 hz => ?_, fun b0 => by cases b0⟩
  obtain ⟨z, rfl, rfl, hG⟩ := hz
  refine ⟨z, rfl, ?_, (), paired_snoc hG I, rfl⟩
  have h1 := paired_len I
  have h2 : pre.length < xs.length := by rw [e]; simp
  omega
/-- a dict comprehension that leaves the other cells as they are -/
theorem we_dcF {wi : TI} {g : TG} {tk tv : TE} {vs : List Nat} (ts : List Nat) (kf : β → Int) (vf : β → γ) (hts : ∀ t ∈ ts, t ∈ vs)
    (h : WI c wi env M fun ds M1 => M1 = M ∧ ∃ xs : List β, ds = xs.map dy ∧ xs.length ≤ 100000 ∧
      (∀ y, y ∈ xs → ∀ acc : List (Int × γ), WG c ts g (dy y) (wipeE env vs) (M ++ [cDic acc]) fun e m => m = M ++ [cDic acc] ∧ WE c tk e m (As Int fun i m2 => i = kf y ∧ WE c tv e m2 fun z m3 => z = dy (vf y) ∧ m3 = M ++ [cDic acc])) ∧
      P (dy (MR.mk M.length)) (M ++ [cDic (xs.foldl (fun m y => dput m (kf y) (vf y)) [])])) : WE c (tDc wi g tYes tk tv vs) env M P := by
  refine we_dcC (β := β) (γ := γ) (S := Unit) (ts := ts) (fun pre _ acc => acc = pre.foldl (fun m y => dput m (kf y) (vf y)) [] ∧ Keys1 acc ∧ acc.length ≤ pre.length) (fun _ => M) hts fun as σ w R s q => h as σ w R s fun J as' w' ds M1 st mm wk hp => q J as' w' ds M1 st mm wk ?_
  obtain ⟨rfl, xs, rfl, hl, turn, fin⟩ := hp
  refine ⟨xs, rfl, (), ⟨rfl, keys1_nil, Nat.le_refl _⟩, rfl, fun pre y post s acc e I => ⟨rfl, I.2.1, fun as σ w v N s' r q => turn y (by rw [e]; simp) acc as σ w v N s' r fun e' M' as' σ' w' st sta wp hp => q e' M' as' σ' w' st sta wp (wt_yes ?_)⟩, fun s acc I => ⟨rfl, by rw [I.1]; exact fin⟩⟩
  obtain ⟨rfl, hw⟩ := hp
  refine ⟨fun _ => WE.mono hw fun z m2 hz => ?_, fun b0 => absurd b0 (by decide)⟩
  obtain ⟨i, rfl, rfl, hv⟩ := hz
  refine ⟨_, rfl, WE.mono hv fun z m3 hz => ?_⟩
  obtain ⟨rfl, rfl⟩ := hz
  have h2 : pre.length < xs.length := by rw [e]; simp
  have h3 := I.2.2
  refine ⟨vf y, rfl, by omega, (), ⟨?_, keys1_put I.2.1 _ _, ?_⟩, rfl⟩
  · rw [List.foldl_append, ← I.1]; rfl
  · have : ∀ (m : List (Int × γ)) (k : Int) (b : γ), (dput m k b).length ≤ m.length + 1 := fun m k b => by
      induction m with
      | nil => exact Nat.le_refl _
      | cons p r ih =>
        show (if p.1 = k then (k, b) :: r else p :: dput r k b).length ≤ _
        split
        · simp
        · simp only [List.length_cons]; omega
    have := this acc (kf y) (vf y)
    rw [List.length_append, List.length_cons, List.length_nil]; omega
/-- for as a fold -/
theorem ws_fold {S : Type} {wi : TI} {g : TG} {tb : TS} (ts : List Nat) (f : S → β → S) (s0 : S) (E : S → Env') (Mm : S → Mem) (J : List β → S → Prop)
    (h : WI c wi env M fun ds M1 => ∃ xs : List β, ds = xs.map dy ∧ J [] s0 ∧ Cut M1.length env M1 (E s0) (Mm s0) ∧
      (∀ pre y post s, xs = pre ++ y :: post → s = pre.foldl f s0 → J pre s → WG c ts g (dy y) (E s) (Mm s) fun e m => WS c k tb e m (fun e' m' => J (pre ++ [y]) (f s y) ∧ Cut M1.length e' m' (E (f s y)) (Mm (f s y))) rt) ∧
      (∀ s, s = xs.foldl f s0 → J xs s → nx (E s) (Mm s))) : WS c k (tFor wi g tb) env M nx rt := by
  refine ws_for (β := β) (S := S) (ts := ts) (fun pre s => s = pre.foldl f s0 ∧ J pre s) E Mm fun as σ w R s q => h as σ w R s fun J' as' w' ds M1 st mm wk hp => q J' as' w' ds M1 st mm wk ?_
  obtain ⟨xs, rfl, j0, c0, turn, fin⟩ := hp
  refine ⟨xs, rfl, s0, ⟨rfl, j0⟩, c0, fun pre y post s e I => ?_, fun s I => fin s I.1 I.2⟩
  have T := turn pre y post s e I.1 I.2
  intro as σ w v N s' r q
  refine T as σ w v N s' r fun e' M' as' σ' w' st sta wp hp => q e' M' as' σ' w' st sta wp ?_
  refine WS.mono hp (fun e m z => ⟨f s y, ⟨?_, z.1⟩, z.2⟩) fun _ _ z => z
  rw [I.1, List.foldl_append]; rfl
end
end Zq
end
section
set_option Elab.async false
set_option linter.all false
set_option maxRecDepth 100000
/-! Cells handed out at a def's end; lists of new lists. -/
namespace Zq
open PySem PySem.Spec PyProof.Rows L2
open Rep (rep)
/-- what d is when the cells from k on do not change any more -/
def Melt (k : Nat) (m : Mem) (d z : Dy) : Prop := ∀ (c : Cc) (F : Hp) (as : List Addr) (v : V), (∀ (j : Nat) (e : Cell), k ≤ j → m[j]? = some e → ∃ a o, as[j]? = some a ∧ F a = some o ∧ e.h c F as o) → d.h c F as v → z.h c F (as.take k) v
section
variable {c : Cc} {env : Env'} {M : Mem} {α β γ δ : Type} [Rep α] [Rep β] [Rep γ] [Rep δ] [Free α] [Free β] [Free γ] [Free δ] {ta tb te : TE} {P : Dy → Mem → Prop} {k : Nat} {nx : Env' → Mem → Prop} {rt : Dy → Mem → Prop}
theorem melt_l {F : Hp} {as : List Addr} {m : Mem} {j : Nat} {xs : List α} {v : V} (h : ∀ (j : Nat) (e : Cell), k ≤ j → m[j]? = some e → ∃ a o, as[j]? = some a ∧ F a = some o ∧ e.h c F as o) (hk : k ≤ j) (hm : m[j]? = some (cLst xs)) (r : rep c F as v (MR.mk j)) : rep c F (as.take k) v xs := by
  obtain ⟨a, o, h1, h2, vs, rfl, h3⟩ := h j _ hk hm
  obtain ⟨a', h1', rfl⟩ := r
  rw [h1] at h1'; cases h1'
  exact ⟨a, vs, rfl, sql_of h2, RepL.cut (Free.l k xs) h3⟩
theorem melt_list {m : Mem} {j : Nat} {xs : List α} (hk : k ≤ j) (hm : m[j]? = some (cLst xs)) : Melt k m (dy (MR.mk j)) (dy xs) := fun c F as v h r => melt_l (xs := xs) h hk hm r
theorem melt_3 {m : Mem} {i j l : Nat} {xs : List α} {ys : List β} {zs : List γ} (h1 : k ≤ i ∧ m[i]? = some (cLst xs)) (h2 : k ≤ j ∧ m[j]? = some (cLst ys)) (h3 : k ≤ l ∧ m[l]? = some (cLst zs)) : Melt k m (dy (T3.mk (MR.mk i) (MR.mk j) (MR.mk l))) (dy (T3.mk xs ys zs)) := fun c F as v h r => by
  obtain ⟨a, v1, v2, v3, rfl, hs, r1, r2, r3⟩ := r
  exact ⟨a, v1, v2, v3, rfl, hs, melt_l (xs := xs) h h1.1 h1.2 r1, melt_l (xs := ys) h h2.1 h2.2 r2, melt_l (xs := zs) h h3.1 h3.2 r3⟩
/-- a list of lists -/
theorem melt_ll {m : Mem} {j : Nat} {ms : List MR} {xs : List (List α)} (hk : k ≤ j) (hm : m[j]? = some (cLst ms)) (hp : Paired (fun (r : MR) (x : List α) => k ≤ r.k ∧ m[r.k]? = some (cLst x)) ms xs) : Melt k m (dy (MR.mk j)) (dy xs) := fun c F as v h r => by
  obtain ⟨a, o, h1, h2, vs, rfl, h3⟩ := h j _ hk hm
  obtain ⟨a', h1', rfl⟩ := r
  rw [h1] at h1'; cases h1'
  refine ⟨a, vs, rfl, sql_of h2, ?_⟩
  have key : ∀ {ms : List MR} {xs : List (List α)} {vs : List V}, Paired (fun (r : MR) (x : List α) => k ≤ r.k ∧ m[r.k]? = some (cLst x)) ms xs → RepL c F as vs ms → RepL c F (as.take k) vs xs := by
    intro ms xs vs hp
    induction hp generalizing vs with
    | nil => intro q; cases q; exact .nil
    | cons g t ih =>
      intro q
      cases q with
      | cons q1 q2 => exact .cons (melt_l h g.1 g.2 q1) (ih q2)
  exact key hp h3
/-- what a def hands out, its own cells with it -/
theorem ws_retF (h : WE c te env M fun d m => ∃ z, Melt k m d z ∧ okM k (m.take k) ∧ rt z (m.take k)) : WS c k (tRet te) env M nx rt := fun as σ H D s q1 q2 =>
  h as σ H _ s fun v as1 H1 d m1 st1 mm1 r1 p1 => by
    obtain ⟨z, hz, hok2, p⟩ := p1
    let F' : Hp := fun a => if a ∈ as1.drop k then H1.H a else H1.F a
    have hd : ∀ a, a ∈ as1.drop k → H1.F a = none := fun a ha => mm1.dis a (List.mem_of_mem_drop ha)
    have ex : Ex H1.F F' := fun a u ha => by
      show (if a ∈ as1.drop k then H1.H a else H1.F a) = some u
      by_cases e : a ∈ as1.drop k
      · rw [hd a e] at ha; cases ha
      · rw [if_neg e]; exact ha
    have exH : Ex F' H1.H := fun a u ha => by
      have ha' : (if a ∈ as1.drop k then H1.H a else H1.F a) = some u := ha
      by_cases e : a ∈ as1.drop k
      · rw [if_pos e] at ha'; exact ha'
      · rw [if_neg e] at ha'; exact mm1.ex a u ha'
    have spl : as1.take k ++ as1.drop k = as1 := List.take_append_drop k as1
    have nd := mm1.nd
    rw [← spl, List.nodup_append] at nd
    have hnot : ∀ a, a ∈ as1.take k → a ∉ as1.drop k := fun a ha z => nd.2.2 a ha a z rfl
    have mk := mm1.take k hok2
    refine q2 v as1 ⟨F', H1.H⟩ z _ (st1.trans ⟨List.prefix_refl _, ex, fun b h h' => ?_, fun b h h' => absurd h h', fun b u h _ => h, fun b h => h⟩) ⟨mk.nd, mk.len, exH, fun b h => ?_, fun j d q => ?_⟩ (hz c F' as1 v (fun j e hj he => ?_) (d.mono ex (List.prefix_refl _) r1)) p
    · have h2 : (if b ∈ as1.drop k then H1.H b else H1.F b) ≠ none := h'
      by_cases e : b ∈ as1.drop k
      · exact .inr (List.mem_of_mem_drop e)
      · rw [if_neg e] at h2; exact absurd h h2
    · show (if b ∈ as1.drop k then H1.H b else H1.F b) = none
      rw [if_neg (hnot b h)]; exact mk.dis b h
    · obtain ⟨b, o', h1, h2, h3⟩ := mk.at_ j d q
      exact ⟨b, o', h1, h2, d.mono ex (List.prefix_refl _) h3⟩
    · obtain ⟨a, o, h1, h2, h3⟩ := mm1.at_ j e he
      have ha : a ∈ as1.drop k := List.mem_of_getElem? (i := j - k) (by
        rw [List.getElem?_drop]
        have : k + (j - k) = j := by omega
        rw [this]; exact h1)
      refine ⟨a, o, h1, ?_, e.mono ex (List.prefix_refl _) h3⟩
      show (if a ∈ as1.drop k then H1.H a else H1.F a) = some o
      rw [if_pos ha]; exact h2
/-! ### a comprehension whose list will change -/
theorem we_lcMC {wi : TI} {g : TG} {vs : List Nat} (ts : List Nat) (f : β → γ) (hts : ∀ t ∈ ts, t ∈ vs)
    (h : WI c wi env M fun ds M1 => M1 = M ∧ ∃ xs : List β, ds = xs.map dy ∧ xs.length ≤ 100000 ∧
      (∀ y, y ∈ xs → ∀ acc : List γ, WG c ts g (dy y) (wipeE env vs) (M ++ [cLst acc]) fun e m => m = M ++ [cLst acc] ∧ WE c te e m fun z m2 => z = dy (f y) ∧ m2 = M ++ [cLst acc]) ∧
      P (dy (MR.mk M.length)) (M ++ [cLst (xs.map f)])) : WE c (tLc wi g tYes te vs) env M P := by
  refine we_lcC (β := β) (γ := γ) (S := Unit) (ts := ts) (fun pre _ acc => acc = pre.map f) (fun _ => M) hts fun as σ w R s q => h as σ w R s fun J as' w' ds M1 st mm wk hp => q J as' w' ds M1 st mm wk ?_
  obtain ⟨rfl, xs, rfl, hl, turn, fin⟩ := hp
  refine ⟨xs, rfl, (), rfl, rfl, fun pre y post s acc e I => ⟨rfl, fun as σ w v N s' r q => turn y (by rw [e]; simp) acc as σ w v N s' r fun e' M' as' σ' w' st sta wp hp => q e' M' as' σ' w' st sta wp (wt_yes ?_)⟩, fun s acc I => ⟨rfl, by rw [I]; exact fin⟩⟩
  obtain ⟨rfl, hw⟩ := hp
  refine ⟨fun _ => WE.mono hw fun z m2 hz => ?_, fun b0 => absurd b0 (by decide)⟩
  obtain ⟨rfl, rfl⟩ := hz
  subst I
  refine ⟨f y, rfl, ?_, (), ?_, rfl⟩
  · rw [List.length_map]
    have h2 : pre.length < xs.length := by rw [e]; simp
    omega
  · show _ = List.map f (pre ++ [y])
    rw [List.map_append]; rfl
theorem we_lcFC {wi : TI} {g : TG} {tt : TT} {vs : List Nat} (ts : List Nat) (f : β → γ) (p : β → Bool) (hts : ∀ t ∈ ts, t ∈ vs)
    (h : WI c wi env M fun ds M1 => M1 = M ∧ ∃ xs : List β, ds = xs.map dy ∧ xs.length ≤ 100000 ∧
      (∀ y, y ∈ xs → ∀ acc : List γ, WG c ts g (dy y) (wipeE env vs) (M ++ [cLst acc]) fun e m => WT c tt e m fun b m1 => m1 = M ++ [cLst acc] ∧ b = p y ∧ (b = true → WE c te e (M ++ [cLst acc]) fun z m2 => z = dy (f y) ∧ m2 = M ++ [cLst acc])) ∧
      P (dy (MR.mk M.length)) (M ++ [cLst ((xs.filter p).map f)])) : WE c (tLc wi g tt te vs) env M P := by
  refine we_lcC (β := β) (γ := γ) (S := Unit) (ts := ts) (fun pre _ acc => acc = (pre.filter p).map f) (fun _ => M) hts fun as σ w R s q => h as σ w R s fun J as' w' ds M1 st mm wk hp => q J as' w' ds M1 st mm wk ?_
  obtain ⟨rfl, xs, rfl, hl, turn, fin⟩ := hp
  refine ⟨xs, rfl, (), rfl, rfl, fun pre y post s acc e I => ⟨rfl, fun as σ w v N s' r q => turn y (by rw [e]; simp) acc as σ w v N s' r fun e' M' as' σ' w' st sta wp hp => q e' M' as' σ' w' st sta wp (WT.mono hp fun b m1 hb => ?_)⟩, fun s acc I => ⟨rfl, by rw [I]; exact fin⟩⟩
  obtain ⟨rfl, hb, hw⟩ := hb
  subst I
  refine ⟨fun b1 => ?_, fun b0 => ⟨(), ?_, rfl⟩⟩
  · subst b1
    refine WE.mono (hw rfl) fun z m2 hz => ?_
    obtain ⟨rfl, rfl⟩ := hz
    refine ⟨f y, rfl, ?_, (), ?_, rfl⟩
    · rw [List.length_map]
      have h1 := List.length_filter_le p pre
      have h2 : pre.length < xs.length := by rw [e]; simp
      omega
    · show _ = List.map f (List.filter p (pre ++ [y]))
      rw [List.filter_append, List.map_append, List.filter_cons, ← hb, if_pos rfl] <;> rfl
  · subst b0
    show _ = List.map f (List.filter p (pre ++ [y]))
    rw [List.filter_append, List.filter_cons, ← hb, if_neg Bool.false_ne_true, List.filter_nil, List.append_nil]
theorem ws_seqJ {t u : TS} (J : Env' → Mem → Prop) (h1 : WS c k t env M J rt) (h2 : ∀ e m, J e m → WS c k u e m nx rt) : WS c k (tSeq t u) env M nx rt := ws_seq (WS.mono h1 h2 fun _ _ h => h)
/-! ### a list of new lists -/
def mrs (b n : Nat) : List MR := (List.range n).map fun i => MR.mk (b + 1 + i)
theorem mrs_snoc (b n : Nat) : mrs b (n + 1) = mrs b n ++ [MR.mk (b + 1 + n)] := by
  unfold mrs; rw [List.range_succ, List.map_append]; rfl
theorem mrs_len (b n : Nat) : (mrs b n).length = n := by simp [mrs]
theorem mrs_get {b n i : Nat} (h : i < n) : (mrs b n)[i]? = some (MR.mk (b + 1 + i)) := by
  unfold mrs; rw [List.getElem?_map, List.getElem?_range h] <;> rfl
theorem we_lcN {wi : TI} {g : TG} {vs : List Nat} (ts : List Nat) (f : β → List γ) (hts : ∀ t ∈ ts, t ∈ vs)
    (h : WI c wi env M fun ds M1 => M1 = M ∧ ∃ xs : List β, ds = xs.map dy ∧ xs.length ≤ 100000 ∧
      (∀ y, y ∈ xs → ∀ N : Mem, WG c ts g (dy y) (wipeE env vs) N fun e m => WE c te e m fun d m2 => d = dy (MR.mk N.length) ∧ m2 = N ++ [cLst (f y)]) ∧
      P (dy (MR.mk M.length)) (M ++ [cLst (mrs M.length xs.length)] ++ xs.map fun y => cLst (f y))) : WE c (tLc wi g tYes te vs) env M P := fun as σ w Q s q =>
  h as σ w _ s fun J as1 w1 ds M1 st1 mm1 wk p1 D hD => by
    obtain ⟨rfl, xs, rfl, hl, turn, fin⟩ := p1
    have hml : (xs.map (dy (α := β))).length = xs.length := List.length_map _
    have sa := s.step st1 mm1
    obtain ⟨stD, mmD⟩ := MemOk.newCell (d := cLst ([] : List MR)) (o := .lst []) mm1 hD ⟨[], rfl, .nil⟩
    have hn : as1.length = M1.length := mm1.len.symm
    refine ⟨fun i m H' => m = xs.length - i ∧ i ≤ xs.length ∧ ∃ F' as', Step (as1 ++ [D]) ⟨w1.F, upd w1.H D (.lst [])⟩ as' ⟨F', H'⟩ ∧ MemOk c as' ⟨F', H'⟩ (M1 ++ [cLst (mrs M1.length i)] ++ (xs.take i).map fun y => cLst (f y)), ⟨xs.length, by simp, Nat.zero_le _, w1.F, as1 ++ [D], .refl _ _, by simpa [mrs] using mmD⟩, ?_⟩
    rintro i m H' ⟨rfl, hi, F', as', st, hM⟩
    have stJ : Step as1 w1 as' ⟨F', H'⟩ := stD.trans st
    have posD : ∀ {as2 : List Addr}, (as1 ++ [D]) <+: as2 → as2[M1.length]? = some D := by
      rintro as2 ⟨t, rfl⟩
      rw [← hn, List.append_assoc, List.getElem?_append_right (Nat.le_refl _), Nat.sub_self]; rfl
    by_cases hlt : i < xs.length
    · refine .inr ⟨wk.go i _ _ _ stJ hM (by rw [hml]; exact hlt), fun H2 => ∃ F2 as2, Step (as1 ++ [D]) ⟨w1.F, upd w1.H D (.lst [])⟩ as2 ⟨F2, H2⟩ ∧ MemOk c as2 ⟨F2, H2⟩ (M1 ++ [cLst (mrs M1.length (i + 1))] ++ (xs.take (i + 1)).map fun y => cLst (f y)), fun H2 ⟨F2, as2, a1, a4⟩ => ⟨xs.length - (i + 1), by omega, rfl, hlt, F2, as2, a1, a4⟩, fun v H2 hy => ?_⟩
      have hx : xs[i]? = some xs[i] := List.getElem?_eq_getElem hlt
      obtain ⟨F2, st2, mm2, rv⟩ := wk.yld i _ _ (dy xs[i]) v H2 _ stJ hM (by rw [List.getElem?_map, hx] <;> rfl) hy
      have hS2 : Sta c (wipeE env vs) _ as' (wipe σ vs) ⟨F2, H2⟩ := ⟨(sa.sl.step (stJ.trans st2)).wipe vs, mm2⟩
      refine turn xs[i] (List.getElem_mem hlt) _ as' (wipe σ vs) ⟨F2, H2⟩ v _ hS2 rv fun e3 m3 as3 σ3 w3 st3 s3 z3 p3 => ?_
      refine ⟨(z3 vs hts).trans (wipe_idem vs fun t ht y q => wipe_none ht y q), ?_⟩
      refine wt_yes (c := c) (env := e3) (M := m3) (B := fun b m => b = true ∧ m = m3) ⟨rfl, rfl⟩ as3 σ3 w3 _ s3 fun b as4 w4 m4 st4 mm4 p4 => ?_
      obtain ⟨rfl, rfl⟩ := p4
      rw [if_pos rfl]
      refine p3 as4 σ3 w4 _ (s3.step st4 mm4) fun v5 as5 w5 z m5 st5 mm5 r5 p5 => ?_
      obtain ⟨rfl, rfl⟩ := p5
      have stB : Step (as1 ++ [D]) ⟨w1.F, upd w1.H D (.lst [])⟩ as5 w5 := ((((st.trans st2).trans st3).trans st4).trans st5)
      have hkD := posD stB.pre
      have hat : ∀ (X : Mem), (M1 ++ [cLst (mrs M1.length i)] ++ X)[M1.length]? = some (cLst (mrs M1.length i)) := fun X => by
        rw [List.append_assoc, List.getElem?_append_right (Nat.le_refl _), Nat.sub_self]; rfl
      obtain ⟨a, o, ha, ho, ws, rfl, hr⟩ := mm5.at_ M1.length (cLst (mrs M1.length i)) (by rw [List.append_assoc]; exact hat _)
      rw [hkD] at ha; cases ha
      have hwl := hr.length
      rw [mrs_len] at hwl
      refine ⟨ws, ho, Nat.lt_of_lt_of_le (by omega : ws.length < 100000) (by decide : 100000 ≤ sizeLine), ?_⟩
      have hN : (M1 ++ [cLst (mrs M1.length i)] ++ (xs.take i).map fun y => cLst (f y)).length = M1.length + 1 + i := by
        simp only [List.length_append, List.length_cons, List.length_nil, List.length_map, List.length_take]; omega
      rw [hN] at r5
      obtain ⟨stP, mmP⟩ := MemOk.put (d := cLst (mrs M1.length (i + 1))) (o := .lst (ws ++ [v5])) mm5 hkD ⟨_, rfl, by rw [mrs_snoc]; exact hr.append (.cons r5 .nil)⟩
      have e9 : ((M1 ++ [cLst (mrs M1.length i)] ++ (xs.take i).map fun y => cLst (f y)) ++ [cLst (f xs[i])]).set M1.length (cLst (mrs M1.length (i + 1))) = M1 ++ [cLst (mrs M1.length (i + 1))] ++ (xs.take (i + 1)).map fun y => cLst (f y) := by
        rw [List.append_assoc, List.append_assoc, List.set_append_right _ _ (Nat.le_refl _), Nat.sub_self, List.take_add_one, hx, List.map_append, List.append_assoc]
        rfl
      rw [e9] at mmP
      exact ⟨w5.F, as5, stB.trans stP, mmP⟩
    · have e : i = xs.length := by omega
      subst e
      rw [List.take_length] at hM
      refine .inl ⟨wk.stop _ _ _ _ stJ hM hml.symm, q (.ref D) as' ⟨F', H'⟩ (dy (MR.mk M1.length)) _ (st1.trans stJ) hM ⟨D, posD st.pre, rfl⟩ fin⟩
end
end Zq
end
section
set_option Elab.async false
set_option linter.all false
set_option maxRecDepth 100000
/-! Small change for the drawing hand. -/
namespace Zq
open PySem PySem.Spec PyProof.Rows L2
open Rep (rep)
theorem hh0 {M : Mem} {X : Prop} (h : X) : (MR.mk 0).k = 0 ∧ M = M ∧ X := ⟨rfl, rfl, h⟩
theorem hh1 {M : Mem} {X Y Z W : Prop} (h : X) : M = M ∧ (((1 : Int) = 1 ∧ X) ∨ ((1 : Int) = 2 ∧ Y) ∨ ((1 : Int) = 3 ∧ Z) ∨ ((1 : Int) = 4 ∧ W)) := ⟨rfl, .inl ⟨rfl, h⟩⟩
theorem hh2 {M : Mem} {X Y Z W : Prop} (h : Y) : M = M ∧ (((2 : Int) = 1 ∧ X) ∨ ((2 : Int) = 2 ∧ Y) ∨ ((2 : Int) = 3 ∧ Z) ∨ ((2 : Int) = 4 ∧ W)) := ⟨rfl, .inr (.inl ⟨rfl, h⟩)⟩
theorem hh3 {M : Mem} {X Y Z W : Prop} (h : Z) : M = M ∧ (((3 : Int) = 1 ∧ X) ∨ ((3 : Int) = 2 ∧ Y) ∨ ((3 : Int) = 3 ∧ Z) ∨ ((3 : Int) = 4 ∧ W)) := ⟨rfl, .inr (.inr (.inl ⟨rfl, h⟩))⟩
theorem hh4 {M : Mem} {X Y Z W : Prop} (h : W) : M = M ∧ (((4 : Int) = 1 ∧ X) ∨ ((4 : Int) = 2 ∧ Y) ∨ ((4 : Int) = 3 ∧ Z) ∨ ((4 : Int) = 4 ∧ W)) := ⟨rfl, .inr (.inr (.inr ⟨rfl, h⟩))⟩
section
variable {c : Cc} {env : Env'} {M : Mem} {P : Dy → Mem → Prop} {ta tb te : TE}
theorem rr_mulR {x y : Int} (p : P (dy (x * y)) M) (h : -(2 ^ 64) < y ∧ y < 2 ^ 64) : RR c (rI CMul fun i j => .int (i * j)) (dy x) (dy y) M P := rr_IC (.inr h) p
theorem rr_mulL {x y : Int} (p : P (dy (x * y)) M) (h : -(2 ^ 64) < x ∧ x < 2 ^ 64) : RR c (rI CMul fun i j => .int (i * j)) (dy x) (dy y) M P := rr_IC (.inl h) p
theorem rr_mod {x y : Int} (p : P (dy (x % y)) M) (h : 0 < y) : RR c (rI (fun _ j => 0 < j) fun i j => .int (i % j)) (dy x) (dy y) M P := rr_IC (C := fun _ j => 0 < j) h p
theorem rr_div {x y : Int} (p : P (dy (x / y)) M) (h : 0 < y ∧ y < 1073741824) : RR c (rI CDiv fun i j => .int (i / j)) (dy x) (dy y) M P := rr_IC h p
theorem rr_pow {x y : Int} (p : P (dy (x ^ y.toNat)) M) (h : 0 ≤ y ∧ y ≤ 1000000 ∧ x.natAbs < 2 ^ 64) : RR c (rI CPow fun i j => .int (i ^ j.toNat)) (dy x) (dy y) M P := rr_IC h p
theorem handX_ok {cells : List Int} {a b s n : Int} {k : Nat} : (cHandX cells a b s n).ok k := Free.l k cells
theorem paired_r {α β : Type} {G : β → Prop} : ∀ {xs : List α} {ys : List β} {y : β}, Paired (fun _ z => G z) xs ys → y ∈ ys → G y
  | _, _, _, .nil, h => by simp at h
  | _, _, y, .cons r t, h => by
    rcases List.mem_cons.mp h with z | z
    · rw [z]; exact r
    · exact paired_r t z
theorem ksort_lt : ∀ {zs : List Kind}, zs.Pairwise (fun x y => kbef y x = false) → zs.Nodup → zs.Pairwise fun x y => kbef x y = true
  | [], _, _ => .nil
  | x :: zs, h, n => by
    rw [List.pairwise_cons] at h ⊢
    rw [List.nodup_cons] at n
    refine ⟨fun y hy => ?_, ksort_lt h.2 n.2⟩
    have h1 : Zr.klt (kd y) (kd x) = false := h.1 y hy
    rcases Zr.klt_tri (kd x) (kd y) with z | z | z
    · exact z
    · have : x = y := by
        have := congrArg unkd z
        rwa [unkd_kd, unkd_kd] at this
      exact absurd hy (by rw [← this]; exact n.1)
    · rw [h1] at z; cases z
/-- the hand's making -/
theorem body_hand {t1 : TS} {N : List Str} {vs : List V} {H : Hp} {Q : VK} {E : XK} (h : spHand c vs H Q E) (hN : 1 ≤ N.length)
    (b : ∀ ns : List Int, ns.length ≤ 63 → WS c 0 t1 (envOf N.length [dy ns]) [] (fun e m => WE c te e m fun d m' => d = dy (MR.mk 0) ∧ m' = [cHand]) fun _ _ => False) : tSeq t1 (tRet te) { nx := fun _ H' => Q .non H', rt := Q } (L2.start N vs) H := by
  obtain ⟨F, ns, mm, rd, hl, fin⟩ := h
  refine b ns hl [] _ ⟨F, H⟩ _ ⟨slots_start rd (by simpa using hN), mm⟩ (fun e m as' σ' w' st s' p => ?_) fun v as' w' x m st mm' r p => p.elim
  refine p as' σ' w' _ s' fun v as2 w2 d m2 st2 mm2 r2 p2 => ?_
  obtain ⟨rfl, rfl⟩ := p2
  have hl2 := mm2.len
  obtain ⟨p, rfl⟩ : ∃ p, as2 = [p] := by
    cases as2 with
    | nil => simp at hl2
    | cons a t => cases t with
      | nil => exact ⟨a, rfl⟩
      | cons b t => simp at hl2
  obtain ⟨a, ha, rfl⟩ := r2
  have : p = a := by simpa using ha
  subst this
  exact fin p w2 (st.trans st2) mm2
end
end Zq
end
section
set_option Elab.async false
set_option linter.all false
set_option maxRecDepth 100000
/-! Any thing that is handed in: None, flags, ints, texts, tuples, lists, empty dicts, tables, nested. -/
namespace Zq
open PySem PySem.Spec PyProof.Rows L2
open Rep (rep)
inductive Th where
  | non
  | bl (b : Bool)
  | int (i : Int)
  | str (s : Str)
  | tup (l : List Th)
  | lst (l : List Th)
  | dic
  | tab (t : Tab)
mutual
def Th.rp (c : Cc) (F : Hp) (as : List Addr) (v : V) : Th → Prop
  | .non => v = .non
  | .bl b => v = .bl b
  | .int i => v = .int i
  | .str s => v = .str s
  | .tup l => ∃ a vs, v = .ref a ∧ SqT c.K F a vs ∧ Th.rps c F as vs l
  | .lst l => ∃ a vs, v = .ref a ∧ SqL c.K F a vs ∧ Th.rps c F as vs l
  | .dic => ∃ a, v = .ref a ∧ F a = some (.dK [])
  | .tab t => rep c F as v t
def Th.rps (c : Cc) (F : Hp) (as : List Addr) (vs : List V) : List Th → Prop
  | [] => vs = []
  | x :: xs => ∃ v us, vs = v :: us ∧ Th.rp c F as v x ∧ Th.rps c F as us xs
end
mutual
theorem Th.rp_mono {c : Cc} {F F' : Hp} {as as' : List Addr} (e : Ex F F') (p : as <+: as') : ∀ {v : V} (x : Th), Th.rp c F as v x → Th.rp c F' as' v x
  | _, .non, h => h
  | _, .bl _, h => h
  | _, .int _, h => h
  | _, .str _, h => h
  | _, .tup l, h => by
    simp only [Th.rp] at h ⊢
    obtain ⟨a, vs, rfl, h1, h2⟩ := h
    exact ⟨a, vs, rfl, sqT_mono e h1, Th.rps_mono e p l h2⟩
  | _, .lst l, h => by
    simp only [Th.rp] at h ⊢
    obtain ⟨a, vs, rfl, h1, h2⟩ := h
    exact ⟨a, vs, rfl, sqL_mono e h1, Th.rps_mono e p l h2⟩
  | _, .dic, h => by
    simp only [Th.rp] at h ⊢
    obtain ⟨a, rfl, h1⟩ := h
    exact ⟨a, rfl, e _ _ h1⟩
  | _, .tab t, h => by
    simp only [Th.rp] at h ⊢
    exact Rep.mono (x := t) e p h
theorem Th.rps_mono {c : Cc} {F F' : Hp} {as as' : List Addr} (e : Ex F F') (p : as <+: as') : ∀ {vs : List V} (l : List Th), Th.rps c F as vs l → Th.rps c F' as' vs l
  | _, [], h => h
  | _, x :: xs, h => by
    simp only [Th.rps] at h ⊢
    obtain ⟨v, us, rfl, h1, h2⟩ := h
    exact ⟨v, us, rfl, Th.rp_mono e p x h1, Th.rps_mono e p xs h2⟩
end
mutual
theorem Th.rp_cut {c : Cc} {F : Hp} {as : List Addr} {k : Nat} : ∀ {v : V} (x : Th), Th.rp c F as v x → Th.rp c F (as.take k) v x
  | _, .non, h => h
  | _, .bl _, h => h
  | _, .int _, h => h
  | _, .str _, h => h
  | _, .tup l, h => by
    simp only [Th.rp] at h ⊢
    obtain ⟨a, vs, rfl, h1, h2⟩ := h
    exact ⟨a, vs, rfl, h1, Th.rps_cut l h2⟩
  | _, .lst l, h => by
    simp only [Th.rp] at h ⊢
    obtain ⟨a, vs, rfl, h1, h2⟩ := h
    exact ⟨a, vs, rfl, h1, Th.rps_cut l h2⟩
  | _, .dic, h => by
    simp only [Th.rp] at h ⊢
    exact h
  | _, .tab t, h => by
    simp only [Th.rp] at h ⊢
    exact Rep.cut (Free.ok t k) h
theorem Th.rps_cut {c : Cc} {F : Hp} {as : List Addr} {k : Nat} : ∀ {vs : List V} (l : List Th), Th.rps c F as vs l → Th.rps c F (as.take k) vs l
  | _, [], h => h
  | _, x :: xs, h => by
    simp only [Th.rps] at h ⊢
    obtain ⟨v, us, rfl, h1, h2⟩ := h
    exact ⟨v, us, rfl, Th.rp_cut x h1, Th.rps_cut xs h2⟩
end
instance : Rep Th where
  rep c F as v x := Th.rp c F as v x
  ok _ _ := True
  mono := fun {c F F' as as' v x} e p h => Th.rp_mono e p x h
  cut := fun {c F as v x k} _ h => Th.rp_cut x h
instance : Free Th := ⟨fun _ _ => trivial⟩
theorem Dy.ext' {d e : Dy} (h : ∀ c F as v, d.h c F as v ↔ e.h c F as v) (o : ∀ k, d.ok k ↔ e.ok k) : d = e := by
  obtain ⟨dh, dok, _, _⟩ := d
  obtain ⟨eh, eok, _, _⟩ := e
  obtain rfl : dh = eh := funext fun c => funext fun F => funext fun as => funext fun v => propext (h c F as v)
  obtain rfl : dok = eok := funext fun k => propext (o k)
  rfl
theorem th_rps {c : Cc} {F : Hp} {as : List Addr} : ∀ {vs : List V} {l : List Th}, Th.rps c F as vs l ↔ RepL c F as vs l
  | vs, [] => by
    simp only [Th.rps]
    exact ⟨fun h => by subst h; exact .nil, fun h => by cases h; rfl⟩
  | vs, x :: xs => by
    simp only [Th.rps]
    constructor
    · rintro ⟨v, us, rfl, h1, h2⟩
      exact .cons h1 (th_rps.mp h2)
    · intro h
      cases h with
      | cons r t => exact ⟨_, _, rfl, r, th_rps.mpr t⟩
theorem th_non : dy Th.non = dy () := Dy.ext' (fun c F as v => by show Th.rp c F as v .non ↔ _; simp only [Th.rp]; exact Iff.rfl) fun k => Iff.rfl
theorem th_bl (b : Bool) : dy (Th.bl b) = dy b := Dy.ext' (fun c F as v => by show Th.rp c F as v (.bl b) ↔ _; simp only [Th.rp]; exact Iff.rfl) fun k => Iff.rfl
theorem th_int (i : Int) : dy (Th.int i) = dy i := Dy.ext' (fun c F as v => by show Th.rp c F as v (.int i) ↔ _; simp only [Th.rp]; exact Iff.rfl) fun k => Iff.rfl
theorem th_str (s : Str) : dy (Th.str s) = dy s := Dy.ext' (fun c F as v => by show Th.rp c F as v (.str s) ↔ _; simp only [Th.rp]; exact Iff.rfl) fun k => Iff.rfl
theorem th_tab (t : Tab) : dy (Th.tab t) = dy t := Dy.ext' (fun c F as v => by show Th.rp c F as v (.tab t) ↔ _; simp only [Th.rp]; exact Iff.rfl) fun k => ⟨fun _ => Free.ok t k, fun _ => trivial⟩
theorem th_tup (l : List Th) : dy (Th.tup l) = dy (Tp.mk l) := Dy.ext' (fun c F as v => by
  show Th.rp c F as v (.tup l) ↔ ∃ a vs, v = .ref a ∧ SqT c.K F a vs ∧ RepL c F as vs l
  simp only [Th.rp, th_rps]) fun k => ⟨fun _ => Free.l k l, fun _ => trivial⟩
theorem th_lst (l : List Th) : dy (Th.lst l) = dy l := Dy.ext' (fun c F as v => by
  show Th.rp c F as v (.lst l) ↔ ∃ a vs, v = .ref a ∧ SqL c.K F a vs ∧ RepL c F as vs l
  simp only [Th.rp, th_rps]) fun k => ⟨fun _ => Free.l k l, fun _ => trivial⟩
theorem rep_ints {c : Cc} {F : Hp} {as : List Addr} : ∀ {vs : List V} {xs : List Int}, RepL c F as vs (xs.map Th.int) ↔ RepL c F as vs xs
  | vs, [] => ⟨fun h => by cases h; exact .nil, fun h => by cases h; exact .nil⟩
  | vs, x :: xs => by
    constructor
    · intro h
      cases h with
      | cons r t => exact .cons (show _ = V.int x by have h : Th.rp c F as _ (.int x) := r; simpa only [Th.rp] using h) (rep_ints.mp t)
    · intro h
      cases h with
      | cons r t => exact .cons (show Th.rp c F as _ (.int x) by simp only [Th.rp]; exact r) (rep_ints.mpr t)
theorem th_ints (xs : List Int) : dy (xs.map Th.int) = dy xs := Dy.ext' (fun c F as v => by
  show (∃ a vs, v = .ref a ∧ SqL c.K F a vs ∧ RepL c F as vs (xs.map Th.int)) ↔ ∃ a vs, v = .ref a ∧ SqL c.K F a vs ∧ RepL c F as vs xs
  simp only [rep_ints]) fun k => ⟨fun _ => Free.l k xs, fun _ => Free.l k _⟩
theorem th_tints (xs : List Int) : dy (Tp.mk (xs.map Th.int)) = dy (Tp.mk xs) := Dy.ext' (fun c F as v => by
  show (∃ a vs, v = .ref a ∧ SqT c.K F a vs ∧ RepL c F as vs (xs.map Th.int)) ↔ ∃ a vs, v = .ref a ∧ SqT c.K F a vs ∧ RepL c F as vs xs
  simp only [rep_ints]) fun k => ⟨fun _ => Free.l k xs, fun _ => Free.l k _⟩
/-! ### isinstance of any thing -/
/-- what the table's class has for isinstance -/
structure IsI (c : Cc) : Prop where
  cl : Cls c.K (c.cls "Table")
  ha : PySem.W.findIn c.K (.ref (c.cls "Table")) "__class__" = some (some (.builtin "object.__class__"))
  hn : PySem.W.specialIn c.K (.builtin "object.__class__") "__get__" = some (some (.builtin "getset_descriptor.__get__"))
  htk : PySem.W.takesIn c.K (.builtin "object.__class__") = some true
  hm : PySem.W.mroIn c.K (c.cls "Table") (.type "object") = some true
  ki : PySem.W.kitOne c.K (.ref (c.cls "Table")) (.type "int") = some false
  kb : PySem.W.kitOne c.K (.ref (c.cls "Table")) (.type "bool") = some false
  kt : PySem.W.kitOne c.K (.ref (c.cls "Table")) (.type "tuple") = some false
  ks : PySem.W.kitOne c.K (.ref (c.cls "Table")) (.type "str") = some false
def Th.isInt : Th → Bool
  | .int _ => true
  | .bl _ => true
  | _ => false
def Th.isBl : Th → Bool
  | .bl _ => true
  | _ => false
def Th.isTup : Th → Bool
  | .tup _ => true
  | _ => false
def Th.isStr : Th → Bool
  | .str _ => true
  | _ => false
def below (n : Int) : Th → Bool
  | .int i => decide (0 ≤ i) && decide (i < n)
  | _ => false
def isIn (a b : Int) : Th → Bool
  | .int i => decide (a ≤ i) && decide (i ≤ b)
  | _ => false
def isBits (n : Int) : Th → Bool
  | .tup l => decide ((l.length : Int) = n) && l.all (below 2)
  | _ => false
def Th.ty (c : Cc) : Th → Value
  | .non => .type "NoneType"
  | .bl _ => .type "bool"
  | .int _ => .type "int"
  | .str _ => .type "str"
  | .tup _ => .type "tuple"
  | .lst _ => .type "list"
  | .dic => .type "dict"
  | .tab _ => .ref (c.cls "Table")
theorem Th.tyX {c : Cc} (I : IsI c) {F H : Hp} {as : List Addr} {v : V} (e : Ex F H) : ∀ {x : Th}, rep c F as v x → TyX c.K H v (x.ty c)
  | .non, h => by rw [show v = V.non from h]; exact .base .non
  | .bl _, h => by rw [show v = V.bl _ from h]; exact .base (.bl _)
  | .int _, h => by rw [show v = V.int _ from h]; exact .base (.int _)
  | .str _, h => by rw [show v = V.str _ from h]; exact .base (.str _)
  | .tup l, h => by
    have h : Th.rp c F as v (.tup l) := h
    simp only [Th.rp] at h
    obtain ⟨a, vs, rfl, hs, _⟩ := h; exact tyTup (sqT_mono e hs)
  | .lst l, h => by
    have h : Th.rp c F as v (.lst l) := h
    simp only [Th.rp] at h
    obtain ⟨a, vs, rfl, hs, _⟩ := h; exact tyLst (sqL_mono e hs)
  | .dic, h => by
    have h : Th.rp c F as v .dic := h
    simp only [Th.rp] at h
    obtain ⟨a, rfl, hs⟩ := h; exact .base (.dK (e _ _ hs))
  | .tab t, h => by
    have h : Th.rp c F as v (.tab t) := h
    simp only [Th.rp] at h
    obtain ⟨a, dx, ps, u, rfl, ha, _⟩ := h
    exact .base (.ins (e _ _ ha) I.cl I.ha I.hn I.htk I.hm)
section
variable {c : Cc} {M : Mem} {P : Dy → Mem → Prop}
theorem rc_isiK (I : IsI c) {x : Th} {n : String} {b : Bool} (hk : PySem.W.kitOne c.K (x.ty c) (.type n) = some b) (p : P (dy b) M) : RC c (rIsi c.K) [dy x, dy (PyTy.mk n)] M P := rc_pure (fun as W vs Q m r k => by
  obtain ⟨v, w, rfl, r1, r2⟩ := r.two
  obtain rfl : w = .ty n := r2
  exact ⟨v, .ty n, x.ty c, .type n, b, rfl, .ty n, Th.tyX I m.ex r1, hk, k _ rfl⟩) p
theorem rc_isInt (I : IsI c) {x : Th} (p : P (dy x.isInt) M) : RC c (rIsi c.K) [dy x, dy (PyTy.mk "int")] M P := by
  refine rc_isiK I (b := x.isInt) ?_ p
  cases x with
  | non => exact kit_ty (show kitB "NoneType" "int" = some false by decide +kernel)
  | bl b => exact kit_ty (show kitB "bool" "int" = some true by decide +kernel)
  | int i => exact kit_ty (show kitB "int" "int" = some true by decide +kernel)
  | str z => exact kit_ty (show kitB "str" "int" = some false by decide +kernel)
  | tup l => exact kit_ty (show kitB "tuple" "int" = some false by decide +kernel)
  | lst l => exact kit_ty (show kitB "list" "int" = some false by decide +kernel)
  | dic => exact kit_ty (show kitB "dict" "int" = some false by decide +kernel)
  | tab t => exact I.ki
theorem rc_isBl (I : IsI c) {x : Th} (p : P (dy x.isBl) M) : RC c (rIsi c.K) [dy x, dy (PyTy.mk "bool")] M P := by
  refine rc_isiK I (b := x.isBl) ?_ p
  cases x with
  | non => exact kit_ty (show kitB "NoneType" "bool" = some false by decide +kernel)
  | bl b => exact kit_ty (show kitB "bool" "bool" = some true by decide +kernel)
  | int i => exact kit_ty (show kitB "int" "bool" = some false by decide +kernel)
  | str z => exact kit_ty (show kitB "str" "bool" = some false by decide +kernel)
  | tup l => exact kit_ty (show kitB "tuple" "bool" = some false by decide +kernel)
  | lst l => exact kit_ty (show kitB "list" "bool" = some false by decide +kernel)
  | dic => exact kit_ty (show kitB "dict" "bool" = some false by decide +kernel)
  | tab t => exact I.kb
theorem rc_isTup (I : IsI c) {x : Th} (p : P (dy x.isTup) M) : RC c (rIsi c.K) [dy x, dy (PyTy.mk "tuple")] M P := by
  refine rc_isiK I (b := x.isTup) ?_ p
  cases x with
  | non => exact kit_ty (show kitB "NoneType" "tuple" = some false by decide +kernel)
  | bl b => exact kit_ty (show kitB "bool" "tuple" = some false by decide +kernel)
  | int i => exact kit_ty (show kitB "int" "tuple" = some false by decide +kernel)
  | str z => exact kit_ty (show kitB "str" "tuple" = some false by decide +kernel)
  | tup l => exact kit_ty (show kitB "tuple" "tuple" = some true by decide +kernel)
  | lst l => exact kit_ty (show kitB "list" "tuple" = some false by decide +kernel)
  | dic => exact kit_ty (show kitB "dict" "tuple" = some false by decide +kernel)
  | tab t => exact I.kt
theorem rc_isStr (I : IsI c) {x : Th} (p : P (dy x.isStr) M) : RC c (rIsi c.K) [dy x, dy (PyTy.mk "str")] M P := by
  refine rc_isiK I (b := x.isStr) ?_ p
  cases x with
  | non => exact kit_ty (show kitB "NoneType" "str" = some false by decide +kernel)
  | bl b => exact kit_ty (show kitB "bool" "str" = some false by decide +kernel)
  | int i => exact kit_ty (show kitB "int" "str" = some false by decide +kernel)
  | str z => exact kit_ty (show kitB "str" "str" = some true by decide +kernel)
  | tup l => exact kit_ty (show kitB "tuple" "str" = some false by decide +kernel)
  | lst l => exact kit_ty (show kitB "list" "str" = some false by decide +kernel)
  | dic => exact kit_ty (show kitB "dict" "str" = some false by decide +kernel)
  | tab t => exact I.ks
end
end Zq
end
section
set_option Elab.async false
set_option linter.all false
set_option maxRecDepth 100000
/-! Cells that are forgotten; + of tuples and lists; parts of tuples; items of dicts; shifts. -/
namespace Zq
open PySem PySem.Spec PyProof.Rows L2
open Rep (rep)
section
variable {c : Cc} {env : Env'} {M : Mem} {α β γ : Type} [Rep α] [Rep β] [Rep γ] {ta tb te : TE} {P : Dy → Mem → Prop} {k : Nat}
/-- what an expression has made beside its value is forgotten -/
theorem we_gc (h : WE c te env M fun d m => d.ok M.length ∧ okM M.length (m.take M.length) ∧ P d (m.take M.length)) : WE c te env M P := fun as σ w Q s q =>
  h as σ w _ s fun v as1 w1 d m1 st1 mm1 r1 p1 => by
    have hn : as.length = M.length := s.me.len.symm
    have e : as1.take M.length = as := by
      obtain ⟨t, rfl⟩ := st1.pre
      rw [← hn]; simp
    have m2 := mm1.take M.length p1.2.1
    rw [e] at m2
    have st2 := st1.cut (n := M.length) (by omega)
    rw [e] at st2
    have r2 := d.cut p1.1 r1
    rw [e] at r2
    exact q v as w1 d _ st2 m2 r2 p1.2.2
/-- + of two lists that stand in cells; the new one will not change -/
theorem rr_catM {i j : MR} {xs ys : List α} (h1 : M[i.k]? = some (cLst xs)) (h2 : M[j.k]? = some (cLst ys)) (hl : xs.length + ys.length ≤ 100000) (p : P (dy (xs ++ ys)) M) : RR c rCat (dy i) (dy j) M P := fun as W v w Q m r1 r2 k => by
  obtain ⟨a, vs, ha, hv, hr⟩ := m.lst h1
  obtain ⟨b, ws, hb, hw, hs⟩ := m.lst h2
  obtain ⟨a', ha', rfl⟩ := r1
  obtain ⟨b', hb', rfl⟩ := r2
  rw [ha] at ha'; cases ha'
  rw [hb] at hb'; cases hb'
  exact ⟨a, b, vs, ws, rfl, rfl, hv, hw, small_le (by rw [hr.length, hs.length]; exact hl), new_obj (z := dy (xs ++ ys)) m (fun p F' hp e => ⟨p, _, rfl, sql_of hp, RepL.mono e (List.prefix_refl _) (hr.append hs)⟩) k p⟩
/-- + of two tuples -/
theorem rr_catT {xs ys : Tp α} (hl : xs.l.length + ys.l.length ≤ 100000) (p : P (dy (Tp.mk (xs.l ++ ys.l))) M) : RR c (rCatA c.K) (dy xs) (dy ys) M P := fun as W v w Q m r1 r2 k => by
  obtain ⟨a, vs, rfl, hs, hr⟩ := r1
  obtain ⟨b, ws, rfl, ht, hq⟩ := r2
  have l1 := hr.length
  have l2 := hq.length
  refine ⟨a, b, vs, ws, rfl, rfl, sqT_mono m.ex hs, sqT_mono m.ex ht, small_le (by rw [l1, l2]; exact hl), fun h => ?_, fun _ h => ?_, fun _ _ => ?_⟩
  · subst h
    have hx : xs.l = [] := List.length_eq_zero_iff.mp l1.symm
    rw [hx, List.nil_append] at p
    exact k _ as W (dy (Tp.mk ys.l)) M (.refl _ _) m ⟨b, ws, rfl, ht, hq⟩ p
  · subst h
    have hy : ys.l = [] := List.length_eq_zero_iff.mp l2.symm
    rw [hy, List.append_nil] at p
    exact k _ as W (dy (Tp.mk xs.l)) M (.refl _ _) m ⟨a, vs, rfl, hs, hr⟩ p
  · exact new_obj (z := dy (Tp.mk (xs.l ++ ys.l))) m (fun p F' hp e => ⟨p, _, rfl, sqt_of hp, RepL.mono e (List.prefix_refl _) (hr.append hq)⟩) k p
/-! ### parts -/
def cutL {δ : Type} (xs : List δ) (lo hi : Option Int) : List δ := (xs.drop (HT.sIx xs.length 0 lo)).take (HT.sIx xs.length xs.length hi - HT.sIx xs.length 0 lo)
theorem rep_cut {F : Hp} {as : List Addr} {vs : List V} {xs : List α} (h : RepL c F as vs xs) (lo hi : Option Int) : RepL c F as (cutV vs lo hi) (cutL xs lo hi) := by
  unfold cutV cutL
  rw [h.length]
  exact RepL.take _ (RepL.drop _ h)
/-- a part of a slice's two bounds -/
def WO (c : Cc) (t : TO) (env : Env') (M : Mem) (P : Option Int → Mem → Prop) : Prop :=
  ∀ as σ w (Q : Option Int → Hp → Prop), Sta c env M as σ w → (∀ o as' w' M', Step as w as' w' → MemOk c as' w' M' → P o M' → Q o w'.H) → t σ w.H Q
theorem wo_none {P : Option Int → Mem → Prop} (p : P none M) : WO c tNoPart env M P := fun as σ w Q s q => q none as w M (.refl _ _) s.me p
theorem wo_some {P : Option Int → Mem → Prop} (h : WE c te env M (As Int fun i m => P (some i) m)) : WO c (tPart te) env M P := fun as σ w Q s q =>
  h as σ w _ s fun v as1 w1 d m1 st1 mm1 r1 p1 => by
    obtain ⟨i, rfl, p⟩ := p1
    exact ⟨i, r1, q (some i) as1 w1 m1 st1 mm1 p⟩
theorem we_slA {tl th : TO} (h : WE c te env M (As (Tp α) fun xs m => WO c tl env m fun lo m => WO c th env m fun hi m => P (dy (Tp.mk (cutL xs.l lo hi))) m)) : WE c (tSl (rSlA c.K) te tl th) env M P := fun as σ w Q s q =>
  h as σ w _ s fun v as1 w1 d m1 st1 mm1 r1 p1 => by
    obtain ⟨xs, rfl, p1⟩ := p1
    refine p1 as1 σ w1 _ (s.step st1 mm1) fun lo as2 w2 m2 st2 mm2 p2 => ?_
    refine p2 as2 σ w2 _ (s.step (st1.trans st2) mm2) fun hi as3 w3 m3 st3 mm3 p3 => ?_
    obtain ⟨a, vs, rfl, hs, hr⟩ := Rep.mono (x := xs) (st2.trans st3).ex (st2.trans st3).pre r1
    have st := (st1.trans st2).trans st3
    refine ⟨a, vs, rfl, sqT_mono mm3.ex hs, fun hw => ?_, fun _ => ?_⟩
    · have e : cutL xs.l lo hi = xs.l := by
        unfold cutL
        rw [← hr.length, hw.1, hw.2, List.drop_zero, Nat.sub_zero, hr.length, List.take_length]
      have p4 : P (dy (Tp.mk (cutL xs.l lo hi))) m3 := p3
      rw [e] at p4
      exact q (.ref a) as3 w3 (dy (Tp.mk xs.l)) m3 st mm3 ⟨a, vs, rfl, hs, hr⟩ p4
    · exact new_obj (z := dy (Tp.mk (cutL xs.l lo hi))) mm3 (fun p F' hp e => ⟨p, _, rfl, sqt_of hp, RepL.mono e (List.prefix_refl _) (rep_cut hr lo hi)⟩) (fun u as' w' z M' st' m r p => q u as' w' z M' (st.trans st') m r p) p3
/-! ### d[i] -/
theorem we_dgetM {td ty : TE} (h : WE c td env M (As MR fun j m1 => WE c ty env m1 (As Int fun i m2 => ∃ (kvs : List (Int × β)) (y : β), m2[j.k]? = some (cDic kvs) ∧ dget kvs i = some y ∧ P (dy y) m2))) : WE c (tDGet td ty) env M P := fun as σ w Q s q =>
  h as σ w _ s fun v as1 w1 d m1 st1 mm1 r1 p1 => by
    obtain ⟨j, rfl, p1⟩ := p1
    refine p1 as1 σ w1 _ (s.step st1 mm1) fun v2 as2 w2 d2 m2 st2 mm2 r2 p2 => ?_
    obtain ⟨i, rfl, kvs, y, hm, hg, p⟩ := p2
    obtain ⟨a, o, ha, ho, ps, rfl, hr⟩ := mm2.at_ _ _ hm
    obtain ⟨a', ha', rfl⟩ := Rep.mono (x := j) st2.ex st2.pre r1
    rw [ha] at ha'; cases ha'
    obtain rfl : v2 = .int i := r2
    rcases rk_get i hr with ⟨h1, _⟩ | ⟨y', u, h1, h2, h3⟩
    · rw [hg] at h1; cases h1
    · rw [hg] at h1; cases h1
      have hd := DGet.k (k := Sum.inl i) ho
      rw [h2] at hd
      exact ⟨_, u, rfl, hd, q u as2 w2 (dy y) m2 (st1.trans st2) mm2 h3 p⟩
theorem we_dgetF {td ty : TE} (h : WE c td env M (As (Dc β) fun dd m1 => WE c ty env m1 (As Int fun i m2 => ∃ (y : β), dget dd.kvs i = some y ∧ P (dy y) m2))) : WE c (tDGet td ty) env M P := fun as σ w Q s q =>
  h as σ w _ s fun v as1 w1 d m1 st1 mm1 r1 p1 => by
    obtain ⟨dd, rfl, p1⟩ := p1
    refine p1 as1 σ w1 _ (s.step st1 mm1) fun v2 as2 w2 d2 m2 st2 mm2 r2 p2 => ?_
    obtain ⟨i, rfl, y, hg, p⟩ := p2
    obtain ⟨a, ps, rfl, ho, hr⟩ := Rep.mono (x := dd) st2.ex st2.pre r1
    obtain rfl : v2 = .int i := r2
    rcases rk_get i hr with ⟨h1, _⟩ | ⟨y', u, h1, h2, h3⟩
    · rw [hg] at h1; cases h1
    · rw [hg] at h1; cases h1
      have hd := DGet.k (k := Sum.inl i) (mm2.ex _ _ ho)
      rw [h2] at hd
      exact ⟨_, u, rfl, hd, q u as2 w2 (dy y) m2 (st1.trans st2) mm2 h3 p⟩
theorem rr_shl {x y : Int} (p : P (dy (x * 2 ^ y.toNat)) M) (h : 0 ≤ y ∧ y ≤ 1000000 ∧ x.natAbs < 2 ^ 64) : RR c (rI CPow fun i j => .int (i * 2 ^ j.toNat)) (dy x) (dy y) M P := rr_IC h p
/-- {}, never to change -/
theorem we_dic0 (p : P (dy Th.dic) M) : WE c tDNewK env M P := fun as σ w Q s q =>
  new_obj (z := dy Th.dic) s.me (fun p F' hp e => by
    show Th.rp c F' as (.ref p) .dic
    simp only [Th.rp]
    exact ⟨p, rfl, hp⟩) q p
end
end Zq
end
section
set_option Elab.async false
set_option linter.all false
set_option maxRecDepth 100000
/-! zip of two sequences, each a list or a tuple; tuples turned about. -/
namespace Zr
open PySem PySem.Spec PyProof.Rows L2
/-- the items of a tuple (true), of a list (false) -/
def SqX (t : Bool) (K : PySem.W.Frag) (H : Hp) (a : Addr) (xs : List V) : Prop := if t then SqT K H a xs else SqL K H a xs
def HasX (t : Bool) (h : Heap) (a : Addr) (its : Array Value) : Prop := if t then h.IsTuple a its else h.IsList a its
def ItX (t : Bool) (h : Heap) (it a : Addr) (i : Nat) : Prop := if t then h.IsTupleIter it a i else h.IsListIter it a i
theorem ItX.keeps {t : Bool} {h h2 : Heap} {it a : Addr} {i : Nat} (x : ItX t h it a i) (k : ∀ o, h.get? it = some o → h2.get? it = some o) : ItX t h2 it a i := by
  cases t with
  | true => exact Heap.IsTupleIter.at (show h.IsTupleIter it a i from x) k
  | false => exact Heap.IsListIter.at (show h.IsListIter it a i from x) k
theorem ItX.has {t : Bool} {h : Heap} {it a : Addr} {i : Nat} (x : ItX t h it a i) : ∃ o, h.get? it = some o ∧ ∀ v, o.data ≠ .seq v := by
  cases t with
  | true =>
    obtain ⟨o, e, _, d⟩ := (show h.IsTupleIter it a i from x)
    exact ⟨o, e, fun v q => by rw [d] at q; cases q⟩
  | false =>
    obtain ⟨o, e, _, d⟩ := (show h.IsListIter it a i from x)
    exact ⟨o, e, fun v q => by rw [d] at q; cases q⟩
theorem hasX {t : Bool} {X : Cx} {pins : List (Addr × Obj)} {σ : L2.St} {H : Hp} {s : Shared} (I : Inv X pins σ H s) {a : Addr} {xs : List V} (q : SqX t X.K H a xs) : ∃ its : List Value, Vals xs its ∧ HasX t s.heap a its.toArray ∧ a < s.heap.objs.size := by
  cases t with
  | true =>
    obtain ⟨its, rv, p, _⟩ := I.tuple (show SqT X.K H a xs from q)
    have pt : s.heap.IsTuple a its.toArray := p
    refine ⟨its, rv, pt, ?_⟩
    obtain ⟨o, ho, _⟩ := pt
    exact Heap.lt_size ho
  | false =>
    obtain ⟨its, rv, p, _⟩ := I.list (show SqL X.K H a xs from q)
    exact ⟨its, rv, p.isList, p.lt⟩
theorem sqX_inj {t : Bool} {X : Cx} {pins : List (Addr × Obj)} {σ : L2.St} {H : Hp} {s : Shared} (I : Inv X pins σ H s) {a : Addr} {xs ys : List V} (p : SqX t X.K H a xs) (q : SqX t X.K H a ys) : xs = ys := by
  cases t with
  | true => exact I.tuple_inj (show SqT X.K H a xs from p) q
  | false => exact I.list_inj (show SqL X.K H a xs from p) q
theorem drawsX {P : Program} {w : World} {A : Around} (t : Bool) (hh : A.handled = none) (it a : Addr) (hne : a ≠ it) (its : Array Value) :
    Draws P w A it [it, a] its.size (fun i v => its[i]? = some v) (fun i h => ItX t h it a i ∧ HasX t h a its) := by
  cases t with
  | true => exact Draws.tuple hh it a hne its
  | false => exact Draws.list hh it a hne its
/-- the sequences at a and b, their items in new pairs -/
def ItZ (t1 t2 : Bool) (K : PySem.W.Frag) (a b : Addr) : It where
  go i H := ∃ (xs ys : List V) (x y : V), SqX t1 K H a xs ∧ SqX t2 K H b ys ∧ xs[i]? = some x ∧ ys[i]? = some y
  yld i H v H' := ∃ T x y, v = .ref T ∧ H T = none ∧ H' = upd H T (.tup [x, y]) ∧ (∀ xs, SqX t1 K H a xs → xs[i]? = some x) ∧ ∀ ys, SqX t2 K H b ys → ys[i]? = some y
  stop i H := ∃ xs ys : List V, SqX t1 K H a xs ∧ SqX t2 K H b ys ∧ ((i = xs.length ∧ i ≤ ys.length) ∨ (i = ys.length ∧ i ≤ xs.length))
structure ZApart (z TI TO i1 i2 a b : Addr) : Prop where
  sep : ZipSep2 z TI TO i1 i2 [i1, a] [i2, b]
  ai : a ≠ i1
  bi : b ≠ i2
theorem turn_zipX {P : Program} {w : World} {K : PySem.W.Frag} {elts : List Expr} {kk : Nat} {tpos : Pos} {t1 t2 : Bool} {a b z TI TO i1 i2 : Addr} (D : ZApart z TI TO i1 i2 a b) :
    Turn P w K (.Tuple elts kk tpos) (ItZ t1 t2 K a b) [z, TI, TO, i1, i2] z
      (fun i h => IsZip h z TI TO .none ∧ IsTupOf2 h TI (.ref i1) (.ref i2) ∧ (∃ x y, IsTupOf2 h TO x y) ∧ ItX t1 h i1 a i ∧ ItX t2 h i2 b i) := by
  have S := D.sep
  have z1 : i1 ≠ z := fun e => S.zi1 e.symm
  have z2 : i2 ≠ z := fun e => S.zi2 e.symm
  constructor
  case mem => exact List.mem_cons_self
  case obj =>
    rintro i h ⟨hz, hTI, ⟨x, y, hTO⟩, h1, h2⟩ b hb
    simp only [List.mem_cons, List.not_mem_nil, or_false] at hb
    rcases hb with rfl | rfl | rfl | rfl | rfl
    · exact ⟨_, hz, fun v q => nomatch q⟩
    · exact ⟨_, hTI, fun v q => nomatch q⟩
    · exact ⟨_, hTO, fun v q => nomatch q⟩
    · obtain ⟨o, e, d⟩ := h1.has
      exact ⟨o, e, fun v q => by cases t1 <;> (obtain ⟨o', e', _, d'⟩ := h1; rw [e] at e'; cases e'; rw [d'] at q; cases q)⟩
    · obtain ⟨o, e, d⟩ := h2.has
      exact ⟨o, e, fun v q => by cases t2 <;> (obtain ⟨o', e', _, d'⟩ := h2; rw [e] at e'; cases e'; rw [d'] at q; cases q)⟩
  case keep =>
    rintro i h h2 ⟨hz, hTI, ⟨x, y, hTO⟩, e1, e2⟩ k
    exact ⟨k z (by simp) _ hz, k TI (by simp) _ hTI, ⟨x, y, k TO (by simp) _ hTO⟩, e1.keeps fun o q => k i1 (by simp) o q, e2.keeps fun o q => k i2 (by simp) o q⟩
  case item =>
    intro X hP hw hK hc i pins s σ H E I hf st hg
    subst hP hw hK
    obtain ⟨hz, hTI, ⟨x0, y0, hTO⟩, h1, h2⟩ := st
    obtain ⟨xs, ys, x, y, q1, q2, hx, hy⟩ := hg
    obtain ⟨its1, r1, p1, _⟩ := hasX I q1
    obtain ⟨its2, r2, p2, _⟩ := hasX I q2
    obtain ⟨u1, hu1, ru1⟩ := r1.get hx
    obtain ⟨u2, hu2, ru2⟩ := r2.get hy
    have a1 : its1.toArray[i]? = some u1 := by simpa using hu1
    have a2 : its2.toArray[i]? = some u2 := by simpa using hu2
    have lz : z < s.heap.objs.size := Heap.lt_size hz
    refine wpAny_pyNext_zipD2_item S (drawsX t1 (by simp [I.ok.hd hc]) i1 a D.ai its1.toArray) (drawsX t2 (by simp [I.ok.hd hc]) i2 b D.bi its2.toArray) hz hTI hTO ⟨h1, p1⟩ ⟨h2, p2⟩
      (Array.getElem?_eq_some_iff.mp a1).1 (Array.getElem?_eq_some_iff.mp a2).1 fun w1 w2 g tk y1 y2 gz gO s1 s2 gT gn gk => ?_
    obtain rfl : u1 = w1 := Option.some.inj (a1.symm.trans y1)
    obtain rfl : u2 = w2 := Option.some.inj (a2.symm.trans y2)
    refine ⟨_, rfl, wpAny_letOwnedTupleGo_zip (s := { s with heap := g, toks := tk }) gz fun g3 z3 sb => ?_⟩
    have gT3 := (sb.2 _ (Nat.ne_of_gt lz)).trans gT
    have new : ObjOk X.prog X.w (upd H s.heap.objs.size (.tup [x, y])) g3 s.heap.objs.size (.tup [x, y]) :=
      ⟨by show 2 ≤ sizeLine; decide, [u1, u2], .cons ru1 (.cons ru2 .nil), _, gT3, rfl, _, rfl⟩
    have far : ∀ c o, c ∉ [z, TI, TO, i1, i2] → s.heap.get? c = some o → g3.get? c = some o := fun c o hb q => by
      simp only [List.mem_cons, List.not_mem_nil, or_false, not_or] at hb
      exact (sb.2 c hb.1).trans (gk c o hb.1 hb.2.2.1 hb.2.2.2.1 hb.2.2.2.2 q)
    have I3 : Inv X pins σ (upd H s.heap.objs.size (.tup [x, y])) { s with heap := g3, toks := tk } := I.turnedNew far hf (Nat.le_refl _) new
    have all : ∀ c, c ∈ [z, TI, TO, i1, i2] → c < s.heap.objs.size := by
      intro c hb
      simp only [List.mem_cons, List.not_mem_nil, or_false] at hb
      rcases hb with rfl | rfl | rfl | rfl | rfl
      · exact lz
      · exact Heap.lt_size hTI
      · exact Heap.lt_size hTO
      · obtain ⟨o, e, _⟩ := h1.has; exact Heap.lt_size e
      · obtain ⟨o, e, _⟩ := h2.has; exact Heap.lt_size e
    refine ⟨.ref s.heap.objs.size, _, I3, rfl, ⟨_, x, y, rfl, I.hok.fresh (Nat.le_refl _), rfl, fun l hl => by rw [sqX_inj I hl q1]; exact hx, fun l hl => by rw [sqX_inj I hl q2]; exact hy⟩, ⟨z3, ?_, ⟨u1, u2, ?_⟩, ?_, ?_⟩, fun c hb => ?_⟩
    · exact (sb.2 _ S.TIz).trans (gk _ _ S.TIz S.TITO S.TIi1 S.TIi2 hTI)
    · exact (sb.2 _ S.TOz).trans gO
    · exact s1.1.keeps fun o q => (sb.2 _ z1).trans q
    · exact s2.1.keeps fun o q => (sb.2 _ z2).trans q
    · rw [upd_ne (Nat.ne_of_lt (all c hb))]
      exact (hf c hb).1
  case done =>
    intro X hP hw hK hc i pins s σ H E I hf st hg
    subst hP hw hK
    obtain ⟨hz, hTI, ⟨x0, y0, hTO⟩, h1, h2⟩ := st
    obtain ⟨xs, ys, q1, q2, he⟩ := hg
    obtain ⟨its1, r1, p1, _⟩ := hasX I q1
    obtain ⟨its2, r2, p2, _⟩ := hasX I q2
    have e1 : its1.toArray.size = xs.length := by rw [List.size_toArray, r1.length]
    have e2 : its2.toArray.size = ys.length := by rw [List.size_toArray, r2.length]
    refine wpAny_pyNext_zipD2_end S (drawsX t1 (by simp [I.ok.hd hc]) i1 a D.ai its1.toArray) (drawsX t2 (by simp [I.ok.hd hc]) i2 b D.bi its2.toArray) hz hTI hTO ⟨h1, p1⟩ ⟨h2, p2⟩
      (by rw [e1]; omega) (by rw [e2]; omega) (by rw [e1, e2]; omega) fun g tk gk => ⟨rfl, I.turnedL (fun c o hb q => ?_) hf⟩
    simp only [List.mem_cons, List.not_mem_nil, or_false, not_or] at hb
    exact gk c o hb.1 hb.2.2.1 hb.2.2.2.1 hb.2.2.2.2 q
  case self =>
    rintro A i s Q E ⟨hz, _⟩ h
    exact wpAny_pyIter_zip hz h
def iZipX (t1 t2 : Bool) (K : PySem.W.Frag) (ta : TA) : TI := fun σ H R => ta σ H fun vs H1 => ∃ a b xs ys, vs = [.ref a, .ref b] ∧ SqX t1 K H1 a xs ∧ SqX t2 K H1 b ys ∧ R (ItZ t1 t2 K a b) H1
abbrev begO (t : Bool) (a : Addr) : Obj := { cls := .type (if t then "tuple_iterator" else "list_iterator"), data := .fields #[.ref a, .int 0 0] }
theorem begins_X (t : Bool) (a : Addr) (its : Array Value) : Begins (.ref a) (begO t a) fun h => HasX t h a its := by
  cases t with
  | true => exact begins_tuple a its
  | false => exact begins_list a its
theorem begO_it {t : Bool} {h : Heap} {it a : Addr} (e : h.get? it = some (begO t a)) : ItX t h it a 0 := by
  cases t with
  | true => exact ⟨_, e, rfl, rfl⟩
  | false => exact ⟨_, e, rfl, rfl⟩
theorem zapart_nat (n a b : Nat) (ha : a < n) (hb : b < n) : ZApart (n + 4) (n + 2) (n + 3) n (n + 1) a b := by
  have ne : ∀ x y : Nat, x < y → ¬ ((x : Addr) = (y : Addr)) := fun x y h e => Nat.ne_of_lt h e
  have en : ∀ x y : Nat, y < x → ¬ ((x : Addr) = (y : Addr)) := fun x y h e => Nat.ne_of_gt h e
  have two : ∀ x y z : Nat, x ≠ y → x ≠ z → (x : Addr) ∉ ([y, z] : List Addr) := fun x y z h1 h2 hm => by
    rcases List.mem_cons.mp hm with e | e
    · exact h1 e
    · exact h2 (List.mem_singleton.mp e)
  exact ⟨⟨ne (n + 2) (n + 4) (by omega), ne (n + 3) (n + 4) (by omega), ne (n + 2) (n + 3) (by omega), en (n + 2) n (by omega), List.mem_cons_self, two (n + 4) n a (by omega) (by omega), two (n + 3) n a (by omega) (by omega),
    en (n + 2) (n + 1) (by omega), List.mem_cons_self, two (n + 4) (n + 1) b (by omega) (by omega), two (n + 3) (n + 1) b (by omega) (by omega), two n (n + 1) b (by omega) (by omega), two (n + 1) n a (by omega) (by omega)⟩, ne a n ha, ne b (n + 1) (by omega)⟩
theorem zapart_new {n a b : Addr} (ha : a < n) (hb : b < n) : ZApart (n + 4) (n + 2) (n + 3) n (n + 1) a b := zapart_nat n a b ha hb
theorem pi_zipX {X : Cx} {e e2 : Expr} {ta : TA} {p pos tpos : Pos} {elts : List Expr} {kk : Nat} (t1 t2 : Bool) (hg : Gl X "zip") (hm : X.mg "zip" = none) (ha : PA X [e, e2] ta)
    (hs : starEach [e, e2] X.env = (false, eval e X.env) :: starEach [e2] X.env := by rfl) (hpl : (backTo pos (starEach [e2] X.env)).any (·.1) = false := by rfl) :
    PI X (.Tuple elts kk tpos) (.Call (.Name "zip" p) [e, e2] [] pos) (iZipX t1 t2 X.K ta) := by
  constructor
  intro pins s σ H R I h
  refine Call_ (ld_blt I hg hm PyProof.Rows.boot_zip (PyProof.Rows.callWith_type1 ?_ hs hpl))
  refine thn (ha.run pos pins s σ H _ I h) ?_
  rintro us s1 ⟨vs, H1, I1, r1, a, b, xs, ys, rfl, q1, q2, q⟩
  cases r1 with
  | cons r rr =>
    cases rr with
    | cons r' rr =>
      cases rr
      obtain rfl := (show _ = Value.ref a from r)
      obtain rfl := (show _ = Value.ref b from r')
      obtain ⟨its1, _, p1, l1⟩ := hasX I1 q1
      obtain ⟨its2, _, p2, l2⟩ := hasX I1 q2
      refine zip_begins2 (begins_X t1 a its1.toArray) (begins_X t2 b its2.toArray) p1 p2 fun g gz gI gO g1 g2 gn gk => wpAny_pyIter_zip gz ?_
      have I2 : Inv X pins σ H1 { s1 with heap := g } := I1.kept (t' := s1.toks) gk
      refine ⟨s1.heap.objs.size + 4, [s1.heap.objs.size + 4, s1.heap.objs.size + 2, s1.heap.objs.size + 3, s1.heap.objs.size, s1.heap.objs.size + 1], _, _, H1, rfl, I2, turn_zipX (zapart_new l1 l2),
        ⟨gz, gI, ⟨_, _, gO⟩, begO_it g1, begO_it g2⟩, fun c hb => ?_, q⟩
      have hle : s1.heap.objs.size ≤ c := by
        simp only [List.mem_cons, List.not_mem_nil, or_false] at hb
        rcases hb with rfl | rfl | rfl | rfl | rfl
        · exact Nat.le_add_right _ _
        · exact Nat.le_add_right _ _
        · exact Nat.le_add_right _ _
        · exact Nat.le_refl _
        · exact Nat.le_add_right _ _
      exact I1.fpOk hle (I1.hok.fresh hle)
/-! ### t[::-1] of a tuple -/
theorem back_adjust (n : Nat) : Builtin.Slice.sliceAdjust none none (-1) (n : Int) = ((n : Int) - 1, -1) := by
  unfold Builtin.Slice.sliceAdjust
  rfl
theorem back_places (n : Nat) : Builtin.Slice.slicePlaces ((n : Int) - 1) (-1) (-1) = n := by
  unfold Builtin.Slice.slicePlaces
  rw [if_neg (by decide)]
  split
  · have e : ((n : Int) - 1 - -1 - 1) / (- -1) = (n : Int) - 1 := by
      rw [show (- -1 : Int) = 1 by decide, Int.ediv_one]; omega
    rw [e]; omega
  · show (0 : Int).toNat = n; omega
theorem fm_congr {α β : Type} {f g : α → Option β} : ∀ l : List α, (∀ x, x ∈ l → f x = g x) → l.filterMap f = l.filterMap g
  | [], _ => rfl
  | x :: l, h => by
    have ih := fm_congr l fun y hy => h y (List.mem_cons_of_mem _ hy)
    rw [List.filterMap_cons, List.filterMap_cons, h x (by simp), ih]
theorem back_pick (xs : Array Value) : ((List.range xs.size).filterMap fun (m : Nat) => xs[(((xs.size : Int) - 1) + (m : Int) * (-1)).toNat]?).toArray = xs.toList.reverse.toArray := by
  have e : ((List.range xs.size).filterMap fun (m : Nat) => xs[(((xs.size : Int) - 1) + (m : Int) * (-1)).toNat]?) = ((List.range xs.size).map fun k => xs.size - 1 - k).filterMap (xs[·]?) := by
    rw [List.filterMap_map]
    refine fm_congr _ fun m hm => ?_
    have := List.mem_range.mp hm
    show xs[(((xs.size : Int) - 1) + (m : Int) * (-1)).toNat]? = xs[xs.size - 1 - m]?
    congr 1
    omega
  rw [e, PySem.W.krv_range, List.filterMap_reverse, PySem.W.krv_all]
section
variable {P : Program} {w : World} {A : Around} {E : Value → Shared → Prop} {s : Shared}
theorem back_applied {sl : Addr} {vl vu vs : Value} {n : Nat} {Q : Int × Int × Nat → Shared → Prop} (hs : s.heap.IsSliceOf sl vl vu vs) (pl : IsPart vl none) (pu : IsPart vu none) (ps : IsPart vs (some (-1)))
    (h : Q ((n : Int) - 1, -1, n) s) : wpAny (model P w) A (Builtin.Slice.sliceApplied (.ref sl) (pure (n : Int))) Q E s := by
  obtain ⟨o, ho, hc, hd⟩ := id hs
  unfold Builtin.Slice.sliceApplied Builtin.Slice.sliceFields
  refine wpAny_bind (wpAny_bind ?_)
  refine wpAny_field ho hd (x := vl) rfl (wpAny_bind ?_)
  refine wpAny_field ho hd (x := vu) rfl (wpAny_bind ?_)
  refine wpAny_field ho hd (x := vs) rfl (wpAny_pure ?_)
  refine wpAny_bind (HT.slicePart_ ps ?_)
  show wpAny _ _ (if ((-1 : Int) == 0) = true then _ else _) _ _ s
  rw [if_neg (by decide)]
  refine wpAny_bind (HT.slicePart_ pl (wpAny_bind ?_))
  refine HT.slicePart_ pu (wpAny_bind (wpAny_pure ?_))
  show wpAny _ _ (match Builtin.Slice.sliceAdjust none none (-1) (n : Int) with | (x, y) => pure (x, (-1 : Int), Builtin.Slice.slicePlaces x y (-1))) _ _ s
  rw [back_adjust]
  show wpAny _ _ (pure ((n : Int) - 1, (-1 : Int), Builtin.Slice.slicePlaces ((n : Int) - 1) (-1) (-1))) _ _ s
  rw [back_places]
  exact wpAny_pure h
theorem getItem_tuple_rev {t sl : Addr} {its : Array Value} {vl vu vs : Value} {Q : Value → Shared → Prop} (ht : IsTup s.heap t its) (hs : s.heap.IsSliceOf sl vl vu vs) (pl : IsPart vl none) (pu : IsPart vu none) (ps : IsPart vs (some (-1)))
    (h : Q (.ref s.heap.objs.size) { s with heap := s.heap.push { cls := .type "tuple", data := .seq its.toList.reverse.toArray } }) (hsz : its.size ≤ sizeLine) : wpAny (model P w) A (getItem (.ref t) (.ref sl)) Q E s := by
  have hk : sizeOk (.seq its.toList.reverse.toArray) := by
    show its.toList.reverse.toArray.size ≤ sizeLine
    simpa using hsz
  obtain ⟨os, hos, hcs, hds⟩ := id hs
  have hT : s.TypeIs (.ref sl) "slice" := ⟨os, hos, hcs⟩
  unfold getItem
  try with_reducible refine wpAny_holding ?_
  first | refine wpAny_bind (wpAny_pure ?_) | skip
  refine wpAny_bind (wpAny_sequenceKey ht.typeIs (by decide) ?_)
  have sg := PyProof.Rows.slot_tuple_getitem
  refine wpAny_bind (wpAny_callSpecial?_slot (name := Str.ofString "__getitem__") ht.typeIs sg (wpAny_call_entry sg ht.typeIs PyProof.Rows.entry_tuple_getitem ?_ (PyProof.Rows.args_tuple_getitem _ _)))
  show wpAny _ _ (Builtin.Tuple.tupleItemsOf (.ref t) >>= _) _ _ s
  refine wpAny_bind (PyProof.Rows.tupleItemsOf_ ht (wpAny_bind (wpAny_typeOf hT ?_)))
  rw [if_pos (by decide)]
  refine wpAny_bind (back_applied hs pl pu ps ?_)
  have no : ¬ ((((its.size : Int) - 1) == 0 && (-1 : Int) == 1 && its.size == its.size) = true) := by
    intro q
    rw [Bool.and_eq_true, Bool.and_eq_true] at q
    exact absurd q.1.2 (by decide)
  show wpAny _ _ (if (((its.size : Int) - 1) == 0 && (-1 : Int) == 1 && its.size == its.size) = true then _ else _) _ _ s
  rw [if_neg no, back_pick]
  first
    | exact wpAny_bind (m := Builtin.Tuple.tupleExact _) (wpAny_newObj_type (wpAny_pure ⟨_, rfl, wpAny_pure h⟩) hk)
    | exact wpAny_bind (wpAny_bind (m := Builtin.Tuple.tupleExact _) (wpAny_newObj_type (wpAny_pure (wpAny_pure ⟨_, rfl, wpAny_pure h⟩)) hk))
    | exact wpAny_bind (m := Builtin.Tuple.tupleExact _) (wpAny_newObj_type (wpAny_bind (wpAny_pure (wpAny_pure ⟨_, rfl, wpAny_pure h⟩))) hk)
    | exact wpAny_bind (wpAny_bind (m := Builtin.Tuple.tupleExact _) (wpAny_newObj_type (wpAny_pure ⟨_, rfl, wpAny_pure h⟩) hk))
end
def tRevT (K : PySem.W.Frag) (te : TE) : TE := fun σ H Q => te σ H fun x H1 => ∃ a xs, x = .ref a ∧ SqT K H1 a xs ∧ ∀ p, H1 p = none → Q (.ref p) (upd H1 p (.tup xs.reverse))
theorem pe_revT {X : Cx} {e : Expr} {te : TE} {k : Nat} {p1 p2 p3 pos : Pos} (he : PE X e te) : PE X (.Subscript e (.Slice none none (some (.UnaryOp .USub (.Constant (.int 1) k p1) p2)) p3) pos) (tRevT X.K te) := by
  constructor
  intro pins s σ H Q I h
  refine Subscript_ (thn (he.run pins s σ H _ I h) ?_)
  rintro v s1 ⟨x, H1, I1, r1, a, xs, rfl, hx, q⟩
  cases r1
  have step : PO X (some (.UnaryOp .USub (.Constant (.int 1) k p1) p2)) (tPart (tUn (rU fun i => .int (-i)) (tC (.int 1)))) := po_some (pe_un un_neg pe_int)
  refine wpAny_Slice (thn (po_none.run pins s1 σ H1 (fun o G => o = none ∧ G = H1) I1 ⟨rfl, rfl⟩) ?_)
  rintro vl s2 ⟨_, _, I2, pl, rfl, rfl⟩
  refine thn (po_none.run pins s2 σ _ (fun o G => o = none ∧ G = _) I2 ⟨rfl, rfl⟩) ?_
  rintro vu s3 ⟨_, _, I3, pu, rfl, rfl⟩
  refine thn (step.run pins s3 σ _ (fun o G => o = some (-1) ∧ G = _) I3 ⟨1, rfl, -1, rfl, rfl, rfl⟩) ?_
  rintro vs s4 ⟨_, _, I4, ps, rfl, rfl⟩
  have I5 := I4.kept (t' := s4.toks) (h' := s4.heap.push { cls := .type "slice", data := .fields #[vl, vu, vs] }) fun b ob q => Heap.get?_push_of_some _ q
  obtain ⟨its, r, ht, hz⟩ := I5.tuple hx
  have hlen := r.length
  refine tail_any (ops := [.ref a, .ref s4.heap.objs.size]) ht.typeIs (PyProof.Rows.slot_tuple_getitem.lookup) ?_ (by with_unfolding_all rfl)
  refine getItem_tuple_rev ht (Heap.IsSliceOf.new _ vl vu vs) pl pu ps ?_ (by rw [List.size_toArray]; omega)
  refine ⟨.ref _, _, I5.laid (t' := s4.toks) (o := .tup xs.reverse) (fun b ob z => Heap.get?_push_of_some _ z) (Nat.le_refl _) ?_, rfl, q _ (I5.hok.fresh (Nat.le_refl _))⟩
  refine ⟨by rw [List.length_reverse]; exact hz, _, r.reverse, ?_⟩
  exact IsTup.new _ _
end Zr
end
section
set_option Elab.async false
set_option linter.all false
set_option maxRecDepth 100000
set_option maxHeartbeats 4000000
/-! a tuple that is not empty, as often as a number says: none, once (itself), more often. -/
namespace Zr
open PySem PySem.Spec PyProof.Rows L2
theorem mul_once (l : Addr) (xs : Array Value) (n : Nat) (dd : Option Addr) (sl : Array (Option Value)) (u : Tok) :
    Meets (Builtin.«tuple.__mul__» ⟨[.ref l, .int 1 u], []⟩) (fun _ R s => s.heap.get? l = some { cls := .type "tuple", dict := dd, data := .seq xs n, slots := sl } ∧ R (.ok (.ret (Value.ref l))) s) := by
  refine .of_wp fun prog w A R s h => ?_
  obtain ⟨hp, g, d, tk, os⟩ := s
  obtain ⟨hl, hR⟩ := h
  have i1 := AutoSeq1.idx_int
  have t1 : (xs.isEmpty || (1 : Int) == 1) = true := by simp
  wp_walk using wpAny_loadPart' hl
  exact ⟨_, rfl, hR⟩
theorem mul_none (l : Addr) (xs : Array Value) (n : Nat) (dd : Option Addr) (sl : Array (Option Value)) (k : Int) (u : Tok) (h0 : -(2 ^ 63) ≤ k) (h1 : k ≤ 0) (hx : xs.isEmpty = false) :
    Meets (Builtin.«tuple.__mul__» ⟨[.ref l, .int k u], []⟩) (fun _ R s => s.heap.get? l = some { cls := .type "tuple", dict := dd, data := .seq xs n, slots := sl } ∧
      R (.ok (.ret (Value.ref s.heap.objs.size))) { s with heap := s.heap.push { cls := Value.type "tuple", data := Data.seq #[] } }) := by
  refine .of_wp fun prog w A R s h => ?_
  obtain ⟨hp, g, d, tk, os⟩ := s
  obtain ⟨hl, hR⟩ := h
  have i1 := AutoSeq1.idx_int
  have d0 : ¬ ((decide (k < -2 ^ 63) || decide (k ≥ 2 ^ 63)) = true) := by
    rw [decide_eq_false (by omega), decide_eq_false (by omega)]; decide
  have d1 : ¬ ((xs.isEmpty || k == 1) = true) := by
    rw [hx, Bool.false_or]; intro z; have := eq_of_beq z; omega
  have d2 : (decide (k ≤ 0) || xs.isEmpty) = true := by rw [decide_eq_true h1]; rfl
  wp_walk using wpAny_loadPart' hl
  rw [if_neg d0]
  wp_walk using wpAny_loadPart' hl
  rw [if_neg d1]
  wp_walk using wpAny_loadPart' hl
  exact ⟨_, rfl, hR⟩
/-- a tuple that is not empty, k times -/
def rRepA (K : PySem.W.Frag) : R2 := fun x y H Q => ∃ l k xs, x = .ref l ∧ y = .int k ∧ SqT K H l xs ∧ xs ≠ [] ∧ -1000 ≤ k ∧ k ≤ 1000 ∧ xs.length ≤ 1000 ∧
  (k = 1 → Q (.ref l) H) ∧ (k ≠ 1 → ∀ p, H p = none → Q (.ref p) (upd H p (.tup (List.replicate k.toNat xs).flatten)))
theorem op_repA {X : Cx} : OpR X (binaryOp .Mult) (rRepA X.K) := by
  intro pins s σ H x y v u Q I rx ry h
  obtain ⟨l, k, xs, rfl, rfl, hT, hne, h0, h1, hz, q1, q2⟩ := h
  by_cases hk : 2 ≤ k
  · exact op_repT pins s σ H _ _ v u Q I rx ry ⟨l, k, xs, rfl, rfl, hT, hne, hk, h1, hz, q2 (by omega)⟩
  cases rx
  obtain ⟨t, rfl⟩ := ry
  obtain ⟨its, r, p, _⟩ := I.tuple hT
  obtain ⟨⟨cls, dd, data, sl⟩, ho, hc, n, hd⟩ := p
  simp only at hc hd
  subst hc hd
  have ty : Shared.TypeIs s (.ref l) "tuple" := ⟨_, ho, rfl⟩
  have len : its.length = xs.length := r.length.symm
  have ne : its.toArray.isEmpty = false := by
    cases its with
    | nil => exact absurd (List.eq_nil_of_length_eq_zero len.symm) hne
    | cons a b => rfl
  refine wpAny_binaryOp_repeat_ref (T := "tuple") (U := "int") (by decide) ty (fun z => typeIs_int z k t) noFill_tuple_mul F.fills_int_mul F.slot_int_rmul repeat_tuple F.slot_int_index.lookup ?_
  refine call_meets F.slot_int_rmul (typeIs_int s k t) F.entry_int_rmul (F.args_int_rmul_2 _ _) (int_rmul_tuple k t l its.toArray n dd sl) ⟨ho, rfl, ty, ?_⟩
  by_cases h : k = 1
  · subst h
    exact call_meets F.slot_tuple_mul ty F.entry_tuple_mul (F.args_tuple_mul_2 _ _) (mul_once l its.toArray n dd sl t) ⟨ho, .ref l, H, I, rfl, q1 rfl⟩
  · have e0 : List.replicate k.toNat xs = [] := by rw [show k.toNat = 0 by omega]; rfl
    have q3 := q2 h
    rw [e0] at q3
    refine call_meets F.slot_tuple_mul ty F.entry_tuple_mul (F.args_tuple_mul_2 _ _) (mul_none l its.toArray n dd sl k t (by omega) (by omega) ne) ⟨ho, ?_⟩
    refine ⟨.ref s.heap.objs.size, _, I.laid (t' := s.toks) (o := .tup []) (fun b ob z => Heap.get?_push_of_some _ z) (Nat.le_refl _) ?_, rfl, q3 _ (I.hok.fresh (Nat.le_refl _))⟩
    exact ⟨Nat.zero_le _, [], .nil, IsTup.new _ _⟩
end Zr
end
section
set_option Elab.async false
set_option linter.all false
set_option maxRecDepth 100000
/-! zip; tuples as often as a number says, turned about; is of flags; data as any things. -/
namespace Zq
open PySem PySem.Spec PyProof.Rows L2
open Rep (rep)
section
variable {c : Cc} {env : Env'} {M : Mem} {α β γ : Type} [Rep α] [Rep β] [Rep γ] {ta tb te : TE} {P : Dy → Mem → Prop} {k : Nat}
theorem rr_repA {xs : Tp α} {n : Int} (h0 : xs.l ≠ []) (h1 : -1000 ≤ n) (h2 : n ≤ 1000) (h3 : xs.l.length ≤ 1000) (p : P (dy (Tp.mk (List.replicate n.toNat xs.l).flatten)) M) : RR c (Zr.rRepA c.K) (dy xs) (dy n) M P := fun as W v w Q m r1 r2 k => by
  obtain ⟨a, vs, rfl, hs, hr⟩ := r1
  obtain rfl : w = .int n := r2
  have hl := hr.length
  refine ⟨a, n, vs, rfl, rfl, sqT_mono m.ex hs, fun z => h0 (by rw [z] at hl; exact List.length_eq_zero_iff.mp hl.symm), h1, h2, by omega, fun e => ?_, fun _ => ?_⟩
  · subst e
    have e1 : (List.replicate (1 : Int).toNat xs.l).flatten = xs.l := by simp
    rw [e1] at p
    exact k _ as W (dy (Tp.mk xs.l)) M (.refl _ _) m ⟨a, vs, rfl, hs, hr⟩ p
  · have rr : ∀ j : Nat, RepL c W.F as (List.replicate j vs).flatten (List.replicate j xs.l).flatten := by
      intro j
      induction j with
      | zero => exact .nil
      | succ j ih => rw [List.replicate_succ, List.replicate_succ, List.flatten_cons, List.flatten_cons]; exact hr.append ih
    exact new_obj (z := dy (Tp.mk (List.replicate n.toNat xs.l).flatten)) m (fun p F' hp e => ⟨p, _, rfl, sqt_of hp, RepL.mono e (List.prefix_refl _) (rr _)⟩) k p
theorem RepL.reverse {F : Hp} {as : List Addr} : ∀ {vs : List V} {xs : List α}, RepL c F as vs xs → RepL c F as vs.reverse xs.reverse
  | _, _, .nil => .nil
  | _, _, .cons r t => by rw [List.reverse_cons, List.reverse_cons]; exact RepL.append (RepL.reverse t) (.cons r .nil)
theorem we_revT (h : WE c te env M (As (Tp α) fun xs m => P (dy (Tp.mk xs.l.reverse)) m)) : WE c (Zr.tRevT c.K te) env M P := fun as σ w Q s q =>
  h as σ w _ s fun v as1 w1 d m1 st1 mm1 r1 p1 => by
    obtain ⟨xs, rfl, p1⟩ := p1
    obtain ⟨a, vs, rfl, hs, hr⟩ := r1
    refine ⟨a, vs, rfl, sqT_mono mm1.ex hs, ?_⟩
    exact new_obj (z := dy (Tp.mk xs.l.reverse)) mm1 (fun p F' hp e => ⟨p, _, rfl, sqt_of hp, RepL.mono e (List.prefix_refl _) hr.reverse⟩) (fun u as' w' z M' st' m r p => q u as' w' z M' (st1.trans st') m r p) p1
theorem rr_isTrue {b : Bool} (p : P (dy b) M) : RR c rIsB (dy b) (dy true) M P := rr_pure (fun as W v w Q m r1 r2 k => by
  obtain rfl : v = .bl b := r1
  obtain rfl : w = .bl true := r2
  exact ⟨b, true, rfl, rfl, k _ (show _ = V.bl b by cases b <;> rfl)⟩) p
theorem rr_notTrue {b : Bool} (p : P (dy (!b)) M) : RR c rNotB (dy b) (dy true) M P := rr_pure (fun as W v w Q m r1 r2 k => by
  obtain rfl : v = .bl b := r1
  obtain rfl : w = .bl true := r2
  exact ⟨b, true, rfl, rfl, k _ (show _ = V.bl (!b) by cases b <;> rfl)⟩) p
/-! ### zip -/
theorem zip_step {as : List Addr} {w : Hw} {v v1 v2 : V} {H2 : Hp} {T : Addr} {x : α} {y : β} (m : MemOk c as w M) (hT : w.H T = none) (e : H2 = upd w.H T (.tup [v1, v2])) (hv : v = .ref T) (h1 : rep c w.F as v1 x) (h2 : rep c w.F as v2 y) :
    ∃ F2, Step as w as ⟨F2, H2⟩ ∧ MemOk c as ⟨F2, H2⟩ M ∧ (dy (x, y)).h c F2 as v := by
  subst e hv
  obtain ⟨F, H⟩ := w
  obtain ⟨st, m'⟩ := MemOk.new (o := .tup [v1, v2]) m hT
  exact ⟨_, st, m', T, v1, v2, rfl, sqt_of upd_same, Rep.mono (x := x) st.ex st.pre h1, Rep.mono (x := y) st.ex st.pre h2⟩
theorem walks_zip {t1 t2 : Bool} {as : List Addr} {w : Hw} {a b : Addr} {vs ws : List V} {xs : List α} {ys : List β} (h1 : ∀ {H : Hp}, Ex w.F H → Zr.SqX t1 c.K H a vs) (h2 : ∀ {H : Hp}, Ex w.F H → Zr.SqX t2 c.K H b ws) (r1 : RepL c w.F as vs xs) (r2 : RepL c w.F as ws ys) :
    Walks c (Zr.ItZ t1 t2 c.K a b) as w ((xs.zip ys).map dy) := by
  have l1 := r1.length
  have l2 := r2.length
  have lz : ((xs.zip ys).map (dy (α := α × β))).length = min xs.length ys.length := by rw [List.length_map, List.length_zip]
  refine ⟨fun i as' w' M' st m h => ?_, fun i as' w' M' st m h => ?_, fun i as' w' x v H2 M' st m h hy => ?_⟩
  · rw [lz] at h
    exact ⟨vs, ws, vs[i]'(by omega), ws[i]'(by omega), h1 (st.ex.trans m.ex), h2 (st.ex.trans m.ex), List.getElem?_eq_getElem _, List.getElem?_eq_getElem _⟩
  · rw [lz] at h
    exact ⟨vs, ws, h1 (st.ex.trans m.ex), h2 (st.ex.trans m.ex), by omega⟩
  · obtain ⟨T, v1, v2, hv, hT, hH, g1, g2⟩ := hy
    have e1 := g1 vs (h1 (st.ex.trans m.ex))
    have e2 := g2 ws (h2 (st.ex.trans m.ex))
    obtain ⟨y1, q1, z1⟩ := r1.getV e1
    obtain ⟨y2, q2, z2⟩ := r2.getV e2
    have e3 : (xs.zip ys)[i]? = some (y1, y2) := List.getElem?_zip_eq_some.mpr ⟨q1, q2⟩
    rw [List.getElem?_map, e3] at h
    cases h
    exact zip_step m hT hH hv (Rep.mono (x := y1) st.ex st.pre z1) (Rep.mono (x := y2) st.ex st.pre z2)
theorem RepDs.two_inv {F : Hp} {as : List Addr} {vs : List V} {x y : Dy} (h : RepDs c F as vs [x, y]) : ∃ v u, vs = [v, u] ∧ x.h c F as v ∧ y.h c F as u := by
  cases h with
  | cons r t => cases t with
    | cons r2 t2 => cases t2; exact ⟨_, _, rfl, r, r2⟩
theorem wi_zipTT {t : TA} {Q : List Dy → Mem → Prop} (h : WA c t env M fun ds m => ∃ (xs : Tp α) (ys : Tp β), ds = [dy xs, dy ys] ∧ Q ((xs.l.zip ys.l).map dy) m) : WI c (Zr.iZipX true true c.K t) env M Q := fun as σ w R s q =>
  h as σ w _ s fun vs as1 w1 ds m st mm r p => by
    obtain ⟨xs, ys, rfl, p⟩ := p
    obtain ⟨v, u, rfl, ⟨a, us, rfl, hs, hr⟩, ⟨b, ws, rfl, ht, hq⟩⟩ := RepDs.two_inv r
    exact ⟨a, b, us, ws, rfl, sqT_mono mm.ex hs, sqT_mono mm.ex ht, q _ as1 w1 _ m st mm (walks_zip (fun e => sqT_mono e hs) (fun e => sqT_mono e ht) hr hq) p⟩
theorem wi_zipTL {t : TA} {Q : List Dy → Mem → Prop} (h : WA c t env M fun ds m => ∃ (xs : Tp α) (ys : List β), ds = [dy xs, dy ys] ∧ Q ((xs.l.zip ys).map dy) m) : WI c (Zr.iZipX true false c.K t) env M Q := fun as σ w R s q =>
  h as σ w _ s fun vs as1 w1 ds m st mm r p => by
    obtain ⟨xs, ys, rfl, p⟩ := p
    obtain ⟨v, u, rfl, ⟨a, us, rfl, hs, hr⟩, ⟨b, ws, rfl, ht, hq⟩⟩ := RepDs.two_inv r
    exact ⟨a, b, us, ws, rfl, sqT_mono mm.ex hs, sqL_mono mm.ex ht, q _ as1 w1 _ m st mm (walks_zip (fun e => sqT_mono e hs) (fun e => sqL_mono e ht) hr hq) p⟩
theorem wi_zipLL {t : TA} {Q : List Dy → Mem → Prop} (h : WA c t env M fun ds m => ∃ (xs : List α) (ys : List β), ds = [dy xs, dy ys] ∧ Q ((xs.zip ys).map dy) m) : WI c (Zr.iZipX false false c.K t) env M Q := fun as σ w R s q =>
  h as σ w _ s fun vs as1 w1 ds m st mm r p => by
    obtain ⟨xs, ys, rfl, p⟩ := p
    obtain ⟨v, u, rfl, ⟨a, us, rfl, hs, hr⟩, ⟨b, ws, rfl, ht, hq⟩⟩ := RepDs.two_inv r
    exact ⟨a, b, us, ws, rfl, sqL_mono mm.ex hs, sqL_mono mm.ex ht, q _ as1 w1 _ m st mm (walks_zip (fun e => sqL_mono e hs) (fun e => sqL_mono e ht) hr hq) p⟩
end
/-! ### data as any things -/
class IsTh (α : Type) [Rep α] where
  to : α → Th
  eq : ∀ x : α, dy (to x) = dy x
open IsTh (to)
theorem to_rp {α : Type} [Rep α] [IsTh α] {c : Cc} {F : Hp} {as : List Addr} {v : V} (x : α) : rep c F as v (to x) ↔ rep c F as v x := by
  have e := congrArg Dy.h (IsTh.eq x)
  have e2 := congrFun (congrFun (congrFun (congrFun e c) F) as) v
  exact Eq.to_iff e2
theorem to_ok {α : Type} [Rep α] [IsTh α] (x : α) (k : Nat) : Rep.ok x k := by
  have e := congrFun (congrArg Dy.ok (IsTh.eq x)) k
  exact (Eq.to_iff e).mp trivial
theorem to_l {α : Type} [Rep α] [IsTh α] {c : Cc} {F : Hp} {as : List Addr} : ∀ {vs : List V} {xs : List α}, RepL c F as vs (xs.map to) ↔ RepL c F as vs xs
  | vs, [] => ⟨fun h => by cases h; exact .nil, fun h => by cases h; exact .nil⟩
  | vs, x :: xs => by
    constructor
    · intro h
      cases h with
      | cons r t => exact .cons ((to_rp x).mp r) (to_l.mp t)
    · intro h
      cases h with
      | cons r t => exact .cons ((to_rp x).mpr r) (to_l.mpr t)
theorem to_okL {α : Type} [Rep α] [IsTh α] (k : Nat) : ∀ xs : List α, okL k xs
  | [] => trivial
  | x :: xs => ⟨to_ok x k, to_okL k xs⟩
theorem to_map {α : Type} [Rep α] [IsTh α] (xs : List α) : dy (xs.map to) = dy xs := Dy.ext' (fun c F as v => by
  show (∃ a vs, v = .ref a ∧ SqL c.K F a vs ∧ RepL c F as vs (xs.map to)) ↔ ∃ a vs, v = .ref a ∧ SqL c.K F a vs ∧ RepL c F as vs xs
  simp only [to_l]) fun k => ⟨fun _ => to_okL k xs, fun _ => Free.l k _⟩
theorem to_mapT {α : Type} [Rep α] [IsTh α] (xs : List α) : dy (Tp.mk (xs.map to)) = dy (Tp.mk xs) := Dy.ext' (fun c F as v => by
  show (∃ a vs, v = .ref a ∧ SqT c.K F a vs ∧ RepL c F as vs (xs.map to)) ↔ ∃ a vs, v = .ref a ∧ SqT c.K F a vs ∧ RepL c F as vs xs
  simp only [to_l]) fun k => ⟨fun _ => to_okL k xs, fun _ => Free.l k _⟩
instance : IsTh Th := ⟨id, fun _ => rfl⟩
instance : IsTh Int := ⟨.int, th_int⟩
instance : IsTh Bool := ⟨.bl, th_bl⟩
instance : IsTh Unit := ⟨fun _ => .non, fun _ => th_non⟩
instance : IsTh Str := ⟨.str, th_str⟩
instance : IsTh Tab := ⟨.tab, th_tab⟩
instance {α : Type} [Rep α] [IsTh α] : IsTh (List α) := ⟨fun xs => .lst (xs.map to), fun xs => (th_lst _).trans (to_map xs)⟩
instance {α : Type} [Rep α] [IsTh α] : IsTh (Tp α) := ⟨fun xs => .tup (xs.l.map to), fun xs => (th_tup _).trans (to_mapT xs.l)⟩
theorem th_two (a b : Th) : dy (Th.tup [a, b]) = dy (a, b) := by
  rw [th_tup]
  refine Dy.ext' (fun c F as v => ⟨?_, ?_⟩) fun k => ⟨fun _ => ⟨trivial, trivial⟩, fun _ => Free.l k _⟩
  · rintro ⟨p, vs, rfl, h, r⟩
    cases r with
    | cons r1 t => cases t with
      | cons r2 t => cases t; exact ⟨p, _, _, rfl, h, r1, r2⟩
  · rintro ⟨p, v1, v2, rfl, h, r1, r2⟩
    exact ⟨p, _, rfl, h, .cons r1 (.cons r2 .nil)⟩
theorem th_three (a b d : Th) : dy (Th.tup [a, b, d]) = dy (T3.mk a b d) := by
  rw [th_tup]
  refine Dy.ext' (fun c F as v => ⟨?_, ?_⟩) fun k => ⟨fun _ => ⟨trivial, trivial, trivial⟩, fun _ => Free.l k _⟩
  · rintro ⟨p, vs, rfl, h, r⟩
    cases r with
    | cons r1 t => cases t with
      | cons r2 t => cases t with
        | cons r3 t => cases t; exact ⟨p, _, _, _, rfl, h, r1, r2, r3⟩
  · rintro ⟨p, v1, v2, v3, rfl, h, r1, r2, r3⟩
    exact ⟨p, _, rfl, h, .cons r1 (.cons r2 (.cons r3 .nil))⟩
instance {α β : Type} [Rep α] [Rep β] [IsTh α] [IsTh β] : IsTh (α × β) := ⟨fun x => .tup [to x.1, to x.2], fun x => (th_two _ _).trans (Dy.ext' (fun c F as v => by
  show (∃ a v1 v2, v = .ref a ∧ SqT c.K F a [v1, v2] ∧ rep c F as v1 (to x.1) ∧ rep c F as v2 (to x.2)) ↔ ∃ a v1 v2, v = .ref a ∧ SqT c.K F a [v1, v2] ∧ rep c F as v1 x.1 ∧ rep c F as v2 x.2
  simp only [to_rp]) fun k => ⟨fun _ => ⟨to_ok x.1 k, to_ok x.2 k⟩, fun _ => ⟨trivial, trivial⟩⟩)⟩
instance {α β γ : Type} [Rep α] [Rep β] [Rep γ] [IsTh α] [IsTh β] [IsTh γ] : IsTh (T3 α β γ) := ⟨fun x => .tup [to x.a, to x.b, to x.c], fun x => (th_three _ _ _).trans (Dy.ext' (fun c F as v => by
  show (∃ a v1 v2 v3, v = .ref a ∧ SqT c.K F a [v1, v2, v3] ∧ rep c F as v1 (to x.a) ∧ rep c F as v2 (to x.b) ∧ rep c F as v3 (to x.c)) ↔ ∃ a v1 v2 v3, v = .ref a ∧ SqT c.K F a [v1, v2, v3] ∧ rep c F as v1 x.a ∧ rep c F as v2 x.b ∧ rep c F as v3 x.c
  simp only [to_rp]) fun k => ⟨fun _ => ⟨to_ok x.a k, to_ok x.b k, to_ok x.c k⟩, fun _ => ⟨trivial, trivial, trivial⟩⟩)⟩
/-! ### how wide a thing is -/
mutual
def Th.wid (B : Nat) : Th → Prop
  | .tup l => l.length ≤ B ∧ Th.wids B l
  | .lst l => l.length ≤ B ∧ Th.wids B l
  | _ => True
def Th.wids (B : Nat) : List Th → Prop
  | [] => True
  | x :: xs => Th.wid B x ∧ Th.wids B xs
end
theorem wids_iff {B : Nat} : ∀ {l : List Th}, Th.wids B l ↔ ∀ x, x ∈ l → x.wid B
  | [] => by simp [Th.wids]
  | y :: ys => by simp [Th.wids, wids_iff (l := ys)]
mutual
theorem Th.wid_mono {B C : Nat} (h : B ≤ C) : ∀ x : Th, x.wid B → x.wid C
  | .tup l, w => by simp only [Th.wid] at w ⊢; exact ⟨by omega, Th.wids_mono h l w.2⟩
  | .lst l, w => by simp only [Th.wid] at w ⊢; exact ⟨by omega, Th.wids_mono h l w.2⟩
  | .non, _ => by simp [Th.wid]
  | .bl _, _ => by simp [Th.wid]
  | .int _, _ => by simp [Th.wid]
  | .str _, _ => by simp [Th.wid]
  | .dic, _ => by simp [Th.wid]
  | .tab _, _ => by simp [Th.wid]
theorem Th.wids_mono {B C : Nat} (h : B ≤ C) : ∀ l : List Th, Th.wids B l → Th.wids C l
  | [], _ => by simp [Th.wids]
  | x :: xs, w => by simp only [Th.wids] at w ⊢; exact ⟨Th.wid_mono h x w.1, Th.wids_mono h xs w.2⟩
end
theorem wid_tup {B : Nat} {l : List Th} : (Th.tup l).wid B ↔ l.length ≤ B ∧ ∀ x, x ∈ l → x.wid B := by simp only [Th.wid, wids_iff]
theorem wid_lst {B : Nat} {l : List Th} : (Th.lst l).wid B ↔ l.length ≤ B ∧ ∀ x, x ∈ l → x.wid B := by simp only [Th.wid, wids_iff]
theorem wid_int {B : Nat} (i : Int) : (Th.int i).wid B := by simp [Th.wid]
end Zq
end
section
set_option Elab.async false
set_option linter.all false
set_option maxRecDepth 100000
/-! + of two lists, wherever they stand. -/
namespace Zr
open PySem PySem.Spec PyProof.Rows L2
def rCatL (K : PySem.W.Frag) : R2 := fun x y H Q => ∃ l b xs zs, x = .ref l ∧ y = .ref b ∧ SqL K H l xs ∧ SqL K H b zs ∧ xs.length + zs.length ≤ sizeLine ∧ ∀ p, H p = none → Q (.ref p) (upd H p (.lst (xs ++ zs)))
theorem op_catL {X : Cx} : OpR X (binaryOp .Add) (rCatL X.K) := by
  intro pins s σ H x y v u Q I rx ry h
  obtain ⟨l, b, xs, zs, rfl, rfl, h1, h2, hz, q⟩ := h
  cases rx
  cases ry
  obtain ⟨i1, r1, p1, _⟩ := I.list h1
  obtain ⟨i2, r2, p2, _⟩ := I.list h2
  have l1 := r1.length
  have l2 := r2.length
  obtain ⟨⟨c1, d1, a1, s1⟩, e1, f1, n1, g1⟩ := p1.isList
  obtain ⟨⟨c2, d2, a2, s2⟩, e2, f2, n2, g2⟩ := p2.isList
  simp only at f1 g1 f2 g2
  subst f1 g1 f2 g2
  refine concat_meets ⟨_, e1, rfl⟩ ⟨_, e2, rfl⟩ noFill_list_add seq_list_add PySem.F.slot_list_add PySem.F.entry_list_add (PySem.F.args_list_add_2 _ _) (list_addW l b i1.toArray i2.toArray n1 n2 d1 d2 s1 s2 (by rw [List.size_toArray, List.size_toArray]; omega)) ⟨e1, e2, ?_⟩
  have ea : i1.toArray ++ i2.toArray = (i1 ++ i2).toArray := by simp
  rw [ea]
  exact ⟨.ref _, _, I.lnew (t' := s.toks) (r1.append r2) (by rw [List.length_append]; omega), rfl, q _ I.fresh⟩
end Zr
end
section
set_option Elab.async false
set_option linter.all false
set_option maxRecDepth 100000
/-! + of lists that don't change; two names set at once. -/
namespace Zq
open PySem PySem.Spec PyProof.Rows L2
open Rep (rep)
section
variable {c : Cc} {env : Env'} {M : Mem} {α β γ : Type} [Rep α] [Rep β] [Rep γ] {ta tb te : TE} {P : Dy → Mem → Prop} {k : Nat} {nx : Env' → Mem → Prop} {rt : Dy → Mem → Prop}
theorem rr_catL {xs ys : List α} (hl : xs.length + ys.length ≤ 100000) (p : P (dy (xs ++ ys)) M) : RR c (Zr.rCatL c.K) (dy xs) (dy ys) M P := fun as W v w Q m r1 r2 k => by
  obtain ⟨a, vs, rfl, hs, hr⟩ := r1
  obtain ⟨b, ws, rfl, ht, hq⟩ := r2
  exact ⟨a, b, vs, ws, rfl, rfl, sqL_mono m.ex hs, sqL_mono m.ex ht, small_le (by rw [hr.length, hq.length]; exact hl), new_obj (z := dy (xs ++ ys)) m (fun p F' hp e => ⟨p, _, rfl, sql_of hp, RepL.mono e (List.prefix_refl _) (hr.append hq)⟩) k p⟩
theorem rc_len3 {x : T3 α β γ} (p : P (dy (3 : Int)) M) : RC c (rLen c.K) [dy x] M P := rc_pure (fun as W vs Q m r k => by
  obtain ⟨v, rfl, a, v1, v2, v3, rfl, hs, _⟩ := r.one
  exact ⟨a, [v1, v2, v3], rfl, .inr (sqT_mono m.ex hs), k _ rfl⟩) p
theorem rc_lstTF {xs : Tp α} (p : P (dy xs.l) M) : RC c (rLst c.K) [dy xs] M P := fun as W vs Q m r k => by
  obtain ⟨v, rfl, a, ws, rfl, hs, hr⟩ := r.one
  exact ⟨a, ws, rfl, .inr (sqT_mono m.ex hs), new_obj (z := dy xs.l) m (fun p F' hp e => ⟨p, _, rfl, sql_of hp, RepL.mono e (List.prefix_refl _) hr⟩) k p⟩
theorem ws_par {i j : Nat} {t : TA} (h : WA c t env M fun ds m => ∃ x y : Dy, ds = [x, y] ∧ nx ((env.set i (some x)).set j (some y)) m) : WS c k (tPar i j t) env M nx rt := fun as σ w D s q1 q2 =>
  h as σ w _ s fun vs as1 w1 ds m st mm r p => by
    obtain ⟨x, y, rfl, p⟩ := p
    obtain ⟨v, u, rfl, r1, r2⟩ := RepDs.two_inv r
    have sa := s.step st mm
    exact ⟨v, u, rfl, q1 _ _ as1 _ w1 st ⟨(sa.sl.set i r1).set j r2, mm⟩ p⟩
theorem map_eq_all {δ : Type} {f g : δ → Int} : ∀ xs : List δ, decide (xs.map f = xs.map g) = xs.all fun v => decide (f v = g v)
  | [] => rfl
  | x :: xs => by
    rw [List.map_cons, List.map_cons, List.all_cons, ← map_eq_all xs]
    by_cases h1 : f x = g x
    · by_cases h2 : xs.map f = xs.map g
      · rw [decide_eq_true h1, decide_eq_true h2, decide_eq_true (by rw [h1, h2])]; rfl
      · rw [decide_eq_true h1, decide_eq_false h2, decide_eq_false fun e => h2 (List.cons.inj e).2]; rfl
    · rw [decide_eq_false h1, decide_eq_false fun e => h1 (List.cons.inj e).1]; rfl
theorem map_ne_any {δ : Type} {f g : δ → Int} (xs : List δ) : (!decide (xs.map f = xs.map g)) = xs.any fun v => !decide (f v = g v) := by
  rw [map_eq_all, List.not_all_eq_any_not]
theorem fold_app {δ ε : Type} (g : δ → ε) : ∀ (xs : List δ) (s : List ε), xs.foldl (fun s p => s ++ [g p]) s = s ++ xs.map g
  | [], s => by simp
  | x :: xs, s => by rw [List.foldl_cons, fold_app g xs, List.map_cons, List.append_assoc]; rfl
theorem rep_one {δ : Type} (a : δ) : ∀ k : Nat, (List.replicate k [a]).flatten = List.replicate k a
  | 0 => rfl
  | k + 1 => by rw [List.replicate_succ, List.flatten_cons, rep_one a k, List.replicate_succ]; rfl
theorem cut_ahead {δ : Type} (xs : List δ) {i : Int} (h : 0 ≤ i) : cutL xs none (some i) = xs.take i.toNat := by
  unfold cutL HT.sIx
  simp only [List.drop_zero, Nat.sub_zero]
  rw [if_neg (by omega)]
  by_cases hl : i.toNat ≤ xs.length
  · rw [Nat.min_eq_left hl]
  · rw [Nat.min_eq_right (by omega), List.take_of_length_le (Nat.le_refl _), List.take_of_length_le (by omega)]
theorem cut_behind {δ : Type} (xs : List δ) {i : Int} (h : 0 ≤ i) : cutL xs (some i) none = xs.drop i.toNat := by
  unfold cutL HT.sIx
  simp only
  rw [if_neg (by omega)]
  by_cases hl : i.toNat ≤ xs.length
  · rw [Nat.min_eq_left hl, List.take_of_length_le (by rw [List.length_drop]; omega)]
  · rw [Nat.min_eq_right (by omega), List.drop_of_length_le (Nat.le_refl _), List.drop_of_length_le (by omega)]; simp
theorem cut_last {δ : Type} (xs : List δ) : cutL xs none (some (-1)) = xs.take (xs.length - 1) := by
  unfold cutL HT.sIx
  simp only [List.drop_zero, Nat.sub_zero]
  rw [if_pos (by decide)]
  congr 1
  omega
end
end Zq
end
section
set_option Elab.async false
set_option linter.all false
set_option maxRecDepth 100000
/-! one of two numbers; None or a thing. -/
namespace Zq
open PySem PySem.Spec PyProof.Rows L2
open Rep (rep)
section
variable {c : Cc} {env : Env'} {M : Mem} {α β γ : Type} [Rep α] [Rep β] [Rep γ] {ta tb te : TE} {P : Dy → Mem → Prop} {k : Nat} {nx : Env' → Mem → Prop} {rt : Dy → Mem → Prop}
theorem we_ifR {t : TT} {x y : Int} (ht : WT c t env M fun _ m => m = M) (h : ∀ z : Int, z = x ∨ z = y → P (dy z) M) : WE c (tIf t (tC (.int x)) (tC (.int y))) env M P := we_if (WT.mono ht fun b m e => by
  subst e
  exact ⟨fun _ => we_int (h x (.inl rfl)), fun _ => we_int (h y (.inr rfl))⟩)
theorem rr_neB {x y : Bool} (p : P (dy (!decide (x = y))) M) : RR c rNe (dy x) (dy y) M P :=
  rr_pure (fun as W v w Q m r1 r2 k => by
    obtain rfl : v = .bl x := r1
    obtain rfl : w = .bl y := r2
    exact ⟨rfl, by rw [dec_bl]; exact k _ rfl⟩) p
theorem dy_none : dy (none : Option α) = dy () := rfl
theorem dy_some (x : α) : dy (some x) = dy x := rfl
theorem rr_isNo [Some1 α] {o : Option α} (p : P (dy o.isNone) M) : RR c rIsN (dy o) (dy ()) M P := by
  cases o with
  | none => exact rr_isN0 p
  | some x => exact rr_isN (x := x) p
theorem rr_notNo [Some1 α] {o : Option α} (p : P (dy o.isSome) M) : RR c rNotN (dy o) (dy ()) M P := by
  cases o with
  | none => exact rr_notN0 p
  | some x => exact rr_notN (x := x) p
theorem told_of {o : Option α} {w : α} {L : Prop} (h0 : L → o = none) (h1 : ¬ L → o = some w) (h : P (dy o) M) : (L → P (dy ()) M) ∧ (¬ L → P (dy w) M) := ⟨fun e => by rw [h0 e] at h; exact h, fun e => by rw [h1 e] at h; exact h⟩
end
end Zq
end
section
set_option Elab.async false
set_option linter.all false
set_option maxRecDepth 100000
/-! What a def lets out: exceptions beside values. -/
namespace Zq
open PySem PySem.Spec PyProof.Rows L2
open Rep (rep)
/-- an exception: the address of its class, its fields -/
structure Exn where
  cls : Addr
  fs : List (Str × Dy)
def Exn.ok (x : Exn) (k : Nat) : Prop := ∀ f y, x.fs.lookup f = some y → y.ok k
def XR (c : Cc) (F : Hp) (as : List Addr) (cls : Value) (d : Option Addr) (x : Exn) : Prop :=
  cls = .ref x.cls ∧ ((x.fs = [] ∧ d = none) ∨ ∃ dd ps, d = some dd ∧ F dd = some (.xd ps) ∧ ∀ f y, x.fs.lookup f = some y → ∃ u, ps.lookup f = some u ∧ y.h c F as u)
theorem XR.mono {c : Cc} {F F' : Hp} {as as' : List Addr} {cls : Value} {d : Option Addr} {x : Exn} (e : Ex F F') (p : as <+: as') (h : XR c F as cls d x) : XR c F' as' cls d x := by
  obtain ⟨h1, h2 | ⟨dd, ps, h3, h4, h5⟩⟩ := h
  · exact ⟨h1, .inl h2⟩
  · exact ⟨h1, .inr ⟨dd, ps, h3, e _ _ h4, fun f y q => let ⟨u, a, b⟩ := h5 f y q; ⟨u, a, y.mono e p b⟩⟩⟩
theorem XR.cut {c : Cc} {F : Hp} {as : List Addr} {cls : Value} {d : Option Addr} {x : Exn} {k : Nat} (o : x.ok k) (h : XR c F as cls d x) : XR c F (as.take k) cls d x := by
  obtain ⟨h1, h2 | ⟨dd, ps, h3, h4, h5⟩⟩ := h
  · exact ⟨h1, .inl h2⟩
  · exact ⟨h1, .inr ⟨dd, ps, h3, h4, fun f y q => let ⟨u, a, b⟩ := h5 f y q; ⟨u, a, y.cut (o f y q) b⟩⟩⟩
/-- what is wished of exceptions, from here on -/
def XH (c : Cc) (EW : Value → Option Addr → Hp → Prop) (px : Exn → Mem → Prop) (as : List Addr) (w : Hw) : Prop :=
  ∀ x cls d as' w' M', Step as w as' w' → MemOk c as' w' M' → XR c w'.F as' cls d x → px x M' → EW cls d w'.H
theorem XH.step {c : Cc} {EW : Value → Option Addr → Hp → Prop} {px : Exn → Mem → Prop} {as as1 : List Addr} {w w1 : Hw} (h : XH c EW px as w) (st : Step as w as1 w1) : XH c EW px as1 w1 := fun x cls d as' w' M' s m r p => h x cls d as' w' M' (st.trans s) m r p
section
variable (c : Cc)
def WEX (W : WX) (te : TE) (env : Env') (M : Mem) (P : Dy → Mem → Prop) (px : Exn → Mem → Prop) : Prop :=
  ∀ as σ w (Q : VK), Sta c env M as σ w → (∀ v as' w' d M', Step as w as' w' → MemOk c as' w' M' → d.h c w'.F as' v → P d M' → Q v w'.H) → XH c (fun cls d H => W cls d σ H) px as w → te σ w.H Q
def WAX (W : WX) (ta : TA) (env : Env') (M : Mem) (P : List Dy → Mem → Prop) (px : Exn → Mem → Prop) : Prop :=
  ∀ as σ w (Q : List V → Hp → Prop), Sta c env M as σ w → (∀ vs as' w' ds M', Step as w as' w' → MemOk c as' w' M' → RepDs c w'.F as' vs ds → P ds M' → Q vs w'.H) → XH c (fun cls d H => W cls d σ H) px as w → ta σ w.H Q
/-- an expression that makes an exception -/
def WMk (tm : L2.St → Hp → XK → Prop) (env : Env') (M : Mem) (P : Exn → Mem → Prop) : Prop :=
  ∀ as σ w (Q : XK), Sta c env M as σ w → (∀ x cls d as' w' M', Step as w as' w' → MemOk c as' w' M' → XR c w'.F as' cls d x → P x M' → Q cls d w'.H) → tm σ w.H Q
def WSX (k : Nat) (W : WX) (ts : TS) (env : Env') (M : Mem) (nx : Env' → Mem → Prop) (rt : Dy → Mem → Prop) (px : Exn → Env' → Mem → Prop) : Prop :=
  ∀ as σ w (D : Ends), Sta c env M as σ w →
    (∀ env' M' as' σ' w', Step as w as' w' → Sta c env' M' as' σ' w' → nx env' M' → D.nx σ' w'.H) →
    (∀ v as' w' (x : Dy) M', Step as w as' w' → MemOk c (as'.take k) w' M' → x.h c w'.F (as'.take k) v → rt x M' → D.rt v w'.H) →
    (∀ x cls d env' M' as' σ' w', Step as w as' w' → Sta c env' M' as' σ' w' → XR c w'.F as' cls d x → px x env' M' → W cls d σ' w'.H) → ts D σ w.H
end
section
variable {c : Cc} {env : Env'} {M : Mem} {α β : Type} [Rep α] [Rep β] {ta tb te : TE} {k : Nat} {W : WX} {nx : Env' → Mem → Prop} {rt : Dy → Mem → Prop} {P : Dy → Mem → Prop} {px : Exn → Env' → Mem → Prop} {pe : Exn → Mem → Prop}
theorem wex_of (h : WE c te env M P) : WEX c W te env M P pe := fun as σ w Q s q _ => h as σ w Q s q
theorem wax_of {t : TA} {P : List Dy → Mem → Prop} (h : WA c t env M P) : WAX c W t env M P pe := fun as σ w Q s q _ => h as σ w Q s q
theorem wax_cons {tr : TA} {P : List Dy → Mem → Prop} (h : WEX c W te env M (fun x M1 => WAX c W tr env M1 (fun ds M2 => P (x :: ds) M2) pe) pe) : WAX c W (tCons te tr) env M P pe := fun as σ w Q s q e =>
  h as σ w _ s (fun v as1 w1 x M1 st1 m1 r1 p1 => p1 as1 σ w1 _ (s.step st1 m1) (fun vs as2 w2 ds M2 st2 m2 r2 p2 =>
    q (v :: vs) as2 w2 (x :: ds) M2 (st1.trans st2) m2 (.cons (x.mono st2.ex st2.pre r1) r2) p2) (e.step st1)) e
theorem wex_tup {t : TA} (h : WAX c W t env M (fun ds M1 => TupOk c ds P M1) pe) : WEX c W (tTup t) env M P pe := fun as σ w Q s q e =>
  h as σ w _ s (fun vs as1 w1 ds M1 st1 m1 r1 p1 => by
    obtain ⟨z, hl, hz, p⟩ := p1
    exact ⟨small_le (by rw [r1.length]; exact hl), new_obj m1 (fun x F' hx ex => hz as1 F' vs x (r1.mono ex (List.prefix_refl _)) hx) (fun u as' w' z M' st m r p => q u as' w' z M' (st1.trans st) m r p) p⟩) e
/-! ### statements -/
theorem wsx_of {ts : TS} (h : WS c k ts env M nx rt) : WSX c k W ts env M nx rt px := fun as σ w D s q1 q2 _ => h as σ w D s q1 q2
theorem wsx_seq {t u : TS} (h : WSX c k W t env M (fun e m => WSX c k W u e m nx rt px) rt px) : WSX c k W (tSeq t u) env M nx rt px := fun as σ w D s q1 q2 q3 =>
  h as σ w { D with nx := u D } s (fun e m as' σ' w' st s' p => p as' σ' w' D s' (fun e2 m2 as2 σ2 w2 st2 s2 p2 => q1 e2 m2 as2 σ2 w2 (st.trans st2) s2 p2)
    (fun v as2 w2 x m2 st2 mm2 r2 p2 => q2 v as2 w2 x m2 (st.trans st2) mm2 r2 p2) (fun x cls d e2 m2 as2 σ2 w2 st2 s2 r2 p2 => q3 x cls d e2 m2 as2 σ2 w2 (st.trans st2) s2 r2 p2)) q2 q3
theorem wsx_asg {i : Nat} (h : WEX c W te env M (fun x m => nx (env.set i (some x)) m) (fun x m => px x env m)) : WSX c k W (tAsg te (gName i)) env M nx rt px := fun as σ w D s q1 q2 q3 =>
  h as σ w _ s (fun v as1 w1 x m1 st1 mm1 r1 p1 => wg_name (nx := nx) p1 as1 σ w1 v D.nx (s.step st1 mm1) r1 fun e2 m2 as2 σ2 w2 st2 s2 _ p2 => q1 e2 m2 as2 σ2 w2 (st1.trans st2) s2 p2)
    fun x cls d as' w' M' st m r p => q3 x cls d env M' as' σ w' st (s.step st m) r p
theorem wsx_drop (h : WEX c W te env M (fun _ m => nx env m) (fun x m => px x env m)) : WSX c k W (tDrop te) env M nx rt px := fun as σ w D s q1 q2 q3 =>
  h as σ w _ s (fun v as1 w1 x m1 st1 mm1 r1 p1 => q1 env m1 as1 σ w1 st1 (s.step st1 mm1) p1) fun x cls d as' w' M' st m r p => q3 x cls d env M' as' σ w' st (s.step st m) r p
theorem wsx_ret (h : WEX c W te env M (fun x m => x.ok k ∧ okM k (m.take k) ∧ rt x (m.take k)) (fun x m => px x env m)) : WSX c k W (tRet te) env M nx rt px := fun as σ w D s q1 q2 q3 =>
  h as σ w _ s (fun v as1 w1 x m1 st1 mm1 r1 p1 => q2 v as1 w1 x _ st1 (mm1.take k p1.2.1) (x.cut p1.1 r1) p1.2.2) fun x cls d as' w' M' st m r p => q3 x cls d env M' as' σ w' st (s.step st m) r p
theorem wsx_if {t : TT} {tu tw : TS} (h : WT c t env M fun b m => (b = true → WSX c k W tu env m nx rt px) ∧ (b = false → WSX c k W tw env m nx rt px)) : WSX c k W (tIfS t tu tw) env M nx rt px := fun as σ w D s q1 q2 q3 =>
  h as σ w _ s fun b as1 w1 m1 st1 mm1 p1 => by
    have s1 := s.step st1 mm1
    have z1 : ∀ e2 m2 as2 σ2 w2, Step as1 w1 as2 w2 → Sta c e2 m2 as2 σ2 w2 → nx e2 m2 → D.nx σ2 w2.H := fun e2 m2 as2 σ2 w2 st2 s2 p2 => q1 e2 m2 as2 σ2 w2 (st1.trans st2) s2 p2
    have z2 : ∀ v as2 w2 (x : Dy) m2, Step as1 w1 as2 w2 → MemOk c (as2.take k) w2 m2 → x.h c w2.F (as2.take k) v → rt x m2 → D.rt v w2.H := fun v as2 w2 x m2 st2 mm2 r2 p2 => q2 v as2 w2 x m2 (st1.trans st2) mm2 r2 p2
    have z3 : ∀ x cls d e2 m2 as2 σ2 w2, Step as1 w1 as2 w2 → Sta c e2 m2 as2 σ2 w2 → XR c w2.F as2 cls d x → px x e2 m2 → W cls d σ2 w2.H := fun x cls d e2 m2 as2 σ2 w2 st2 s2 r2 p2 => q3 x cls d e2 m2 as2 σ2 w2 (st1.trans st2) s2 r2 p2
    cases b with
    | true => exact p1.1 rfl as1 σ w1 D s1 z1 z2 z3
    | false => exact p1.2 rfl as1 σ w1 D s1 z1 z2 z3
theorem wsx_raise {tm : L2.St → Hp → XK → Prop} (h : WMk c tm env M fun x m => px x env m) : WSX c k W (fun _ σ H => tm σ H fun cls d H' => W cls d σ H') env M nx rt px := fun as σ w D s q1 q2 q3 =>
  h as σ w _ s fun x cls d as' w' M' st m r p => q3 x cls d env M' as' σ w' st (s.step st m) r p
/-- a for whose body may raise -/
theorem wsx_for {S : Type} {wi : TI} {g : TG} {tb : TS} {ts : List Nat} (I : List β → S → Prop) (E : S → Env') (Mm : S → Mem)
    (h : WI c wi env M fun ds M1 => ∃ xs : List β, ds = xs.map dy ∧ ∃ s0, I [] s0 ∧ Cut M1.length env M1 (E s0) (Mm s0) ∧
      (∀ pre y post s, xs = pre ++ y :: post → I pre s → WG c ts g (dy y) (E s) (Mm s) fun e m => WSX c k W tb e m (fun e' m' => ∃ s', I (pre ++ [y]) s' ∧ Cut M1.length e' m' (E s') (Mm s')) rt px) ∧
      (∀ s, I xs s → nx (E s) (Mm s))) : WSX c k W (tFor wi g tb) env M nx rt px := fun as σ w D s q1 q2 q3 =>
  h as σ w _ s fun J as1 w1 ds M1 st1 mm1 wk p1 => by
    obtain ⟨xs, rfl, s0, i0, cut0, turn, fin⟩ := p1
    have hml : (xs.map (dy (α := β))).length = xs.length := List.length_map _
    have sa : Sta c env M1 as1 σ w1 := s.step st1 mm1
    have hn : as1.length = M1.length := mm1.len.symm
    have sc : Sta c (E s0) (Mm s0) (as1.take M1.length) σ w1 := sa.cut cut0
    have e1 : as1.take M1.length = as1 := by rw [← hn]; exact List.take_length
    rw [e1] at sc
    refine ⟨fun i m σ' H' => m = xs.length - i ∧ i ≤ xs.length ∧ ∃ as' F' s', Step as1 w1 as' ⟨F', H'⟩ ∧ as'.length = M1.length ∧ I (xs.take i) s' ∧ Sta c (E s') (Mm s') as' σ' ⟨F', H'⟩, ⟨xs.length, by simp, Nat.zero_le _, as1, w1.F, s0, .refl _ _, hn, by simpa using i0, sc⟩, ?_⟩
    rintro i m σ' H' ⟨rfl, hi, as', F', s', st, hl, hI, hS⟩
    by_cases hlt : i < xs.length
    · refine .inr ⟨wk.go i as' _ _ st hS.me (by rw [hml]; exact hlt), fun σ2 H2 => ∃ as2 F2 s2, Step as1 w1 as2 ⟨F2, H2⟩ ∧ as2.length = M1.length ∧ I (xs.take (i + 1)) s2 ∧ Sta c (E s2) (Mm s2) as2 σ2 ⟨F2, H2⟩, fun σ2 H2 ⟨as2, F2, s2, a1, a2, a3, a4⟩ => ⟨xs.length - (i + 1), by omega, rfl, hlt, as2, F2, s2, a1, a2, a3, a4⟩, fun v H2 hy => ?_⟩
      have hx : xs[i]? = some xs[i] := List.getElem?_eq_getElem hlt
      obtain ⟨F2, st2, mm2, rv⟩ := wk.yld i as' _ (dy xs[i]) v H2 _ st hS.me (by rw [List.getElem?_map, hx] <;> rfl) hy
      have hS2 : Sta c (E s') (Mm s') as' σ' ⟨F2, H2⟩ := hS.step st2 mm2
      have spl : xs = xs.take i ++ xs[i] :: xs.drop (i + 1) := by
        rw [← List.drop_eq_getElem_cons hlt, List.take_append_drop]
      have htk : xs.take i ++ [xs[i]] = xs.take (i + 1) := by rw [List.take_add_one, hx] <;> rfl
      refine turn (xs.take i) xs[i] (xs.drop (i + 1)) s' spl hI as' σ' ⟨F2, H2⟩ v _ hS2 rv fun e3 m3 as3 σ3 w3 st3 s3 _ p3 => ?_
      refine p3 as3 σ3 w3 _ s3 (fun e4 m4 as4 σ4 w4 st4 s4 p4 => ?_) (fun v4 as4 w4 x m4 st4 mm4 r4 p4 => q2 v4 as4 w4 x m4 ((((st1.trans st).trans st2).trans st3).trans st4) mm4 r4 p4)
        fun x cls d e4 m4 as4 σ4 w4 st4 s4 r4 p4 => q3 x cls d e4 m4 as4 σ4 w4 ((((st1.trans st).trans st2).trans st3).trans st4) s4 r4 p4
      obtain ⟨s5, i5, u5⟩ := p4
      have stAll : Step as1 w1 as4 w4 := ((st.trans st2).trans st3).trans st4
      refine ⟨as4.take M1.length, w4.F, s5, stAll.cut (by omega), ?_, by rw [← htk]; exact i5, s4.cut u5⟩
      have := step_len stAll
      rw [List.length_take]; omega
    · have e : i = xs.length := by omega
      subst e
      rw [List.take_length] at hI
      exact .inl ⟨wk.stop _ as' _ _ st hS.me hml.symm, q1 _ _ as' σ' _ (st1.trans st) hS (fin s' hI)⟩
/-! ### defs that may raise -/
abbrev ASpX := List Dy → Mem → (Dy → Mem → Prop) → (Exn → Mem → Prop) → Prop
def spOfX (c : Cc) (n : Nat) (k : Nat) (S : ASpX) : Sp := fun vs H Q E => ∃ as F ds M P PX, as.length = k ∧ ds.length = n ∧ MemOk c as ⟨F, H⟩ M ∧ RepDs c F as vs ds ∧ S ds M P PX ∧
  (∀ v w' (x : Dy) M', Step as ⟨F, H⟩ as w' → MemOk c as w' M' → x.h c w'.F as v → P x M' → Q v w'.H) ∧ ∀ x cls d w' M', Step as ⟨F, H⟩ as w' → MemOk c as w' M' → XR c w'.F as cls d x → PX x M' → E cls d w'.H
theorem call_frame {as1 : List Addr} {w1 w2 : Hw} {M1 M2 : Mem} (mm1 : MemOk c as1 w1 M1) (hk : k ≤ M1.length) (st2 : Step (as1.take k) ⟨w1.F, w1.H⟩ (as1.take k) w2) (mm2 : MemOk c (as1.take k) w2 M2) :
    Step as1 w1 as1 w2 ∧ MemOk c as1 w2 (M2 ++ M1.drop k) := by
  have hl := mm1.len
  have spl : as1.take k ++ as1.drop k = as1 := List.take_append_drop k as1
  have nd := mm1.nd
  rw [← spl, List.nodup_append] at nd
  have hlk : M2.length = k := by rw [mm2.len, List.length_take]; omega
  have hd : ∀ a ∈ as1.drop k, w1.H a ≠ none ∧ a ∉ as1.take k ∧ w1.F a = none := fun a ha =>
    ⟨MemOk.isSome (F := w1.F) (H := w1.H) mm1 (List.mem_of_mem_drop ha), fun z => nd.2.2 a z a ha rfl, mm1.dis a (List.mem_of_mem_drop ha)⟩
  refine ⟨⟨List.prefix_refl _, st2.ex, fun a h h' => (st2.fr a h h').imp id fun z => List.mem_of_mem_take z, fun a h h' => absurd h h', fun a o h h' => st2.keep a o h fun z => h' (List.mem_of_mem_take z), st2.dom⟩,
    mm1.nd, by rw [List.length_append, List.length_drop, hlk]; omega, mm2.ex, fun a ha => ?_, fun j d q' => ?_⟩
  · rw [← spl] at ha
    rcases List.mem_append.mp ha with z | z
    · exact mm2.dis a z
    · obtain ⟨h1, h2, h3⟩ := hd a z
      by_cases e : w2.F a = none
      · exact e
      · rcases st2.fr a h3 e with y | y
        · exact absurd y h1
        · exact absurd y h2
  · by_cases hj : j < M2.length
    · rw [List.getElem?_append_left hj] at q'
      obtain ⟨a, o, h1, h2, h3⟩ := mm2.at_ j d q'
      have h1' : as1[j]? = some a := by
        rw [List.getElem?_take] at h1; split at h1
        · exact h1
        · cases h1
      exact ⟨a, o, h1', h2, d.mono (Evl.Ex.refl _) (List.take_prefix _ _) h3⟩
    · rw [List.getElem?_append_right (by omega), List.getElem?_drop] at q'
      have e : k + (j - M2.length) = j := by omega
      rw [e] at q'
      obtain ⟨a, o, h1, h2, h3⟩ := mm1.at_ j d q'
      have hin : a ∈ as1.drop k := List.mem_of_getElem? (i := j - k) (by
        rw [List.getElem?_drop]
        have : k + (j - k) = j := by omega
        rw [this]; exact h1)
      exact ⟨a, o, h1, st2.keep a o h2 (hd a hin).2.1, d.mono st2.ex (List.prefix_refl _) h3⟩
/-- a call of a def that may raise -/
theorem wex_call {n : Nat} {S : ASpX} {t : TA} (h : WA c t env M fun ds M1 => ds.length = n ∧ k ≤ M1.length ∧ okDs k ds ∧ okM k (M1.take k) ∧ S ds (M1.take k) (fun x M' => P x (M' ++ M1.drop k)) (fun x M' => pe x (M' ++ M1.drop k))) :
    WEX c W (tCallS (spOfX c n k S) (L2.WE W) t) env M P pe := fun as σ w Q s q e =>
  h as σ w _ s fun vs as1 w1 ds M1 st1 mm1 r1 p1 => by
    obtain ⟨hn, hk, ho, hm, hS⟩ := p1
    refine ⟨as1.take k, w1.F, ds, M1.take k, _, _, ?_, hn, mm1.take k hm, RepDs.cut ho r1, hS, fun v w2 x M2 st2 mm2 r2 p2 => ?_, fun x cls d w2 M2 st2 mm2 r2 p2 => ?_⟩
    · have := mm1.len
      rw [List.length_take]; omega
    · obtain ⟨st3, mm3⟩ := call_frame mm1 hk st2 mm2
      exact q v as1 w2 x _ (st1.trans st3) mm3 (x.mono (Evl.Ex.refl _) (List.take_prefix _ _) r2) p2
    · obtain ⟨st3, mm3⟩ := call_frame mm1 hk st2 mm2
      exact e x cls d as1 w2 _ (st1.trans st3) mm3 (r2.mono (Evl.Ex.refl _) (List.take_prefix _ _)) p2
theorem body_okX {n : Nat} {S : ASpX} {t : TS} {N : List Str} {vs : List V} {H : Hp} {Q : VK} {E : XK} (h : spOfX c n k S vs H Q E) (hN : n ≤ N.length)
    (b : ∀ ds M P PX, ds.length = n → M.length = k → S ds M P PX → WSX c k (fun cls d _ H' => E cls d H') t (envOf N.length ds) M (fun _ m => okM k (m.take k) ∧ P (dy ()) (m.take k)) P fun x _ m => x.ok k ∧ okM k (m.take k) ∧ PX x (m.take k)) :
    t { nx := fun _ H' => Q .non H', rt := Q } (L2.start N vs) H := by
  obtain ⟨as, F, ds, M, P, PX, hk, hn, mm, rd, hS, fin, exc⟩ := h
  have key : ∀ {as' : List Addr} {w' : Hw}, Step as ⟨F, H⟩ as' w' → as'.take k = as ∧ Step as ⟨F, H⟩ as w' := fun {as' w'} st => by
    obtain ⟨t, rfl⟩ := st.pre
    exact ⟨by rw [← hk]; simp, ⟨List.prefix_refl _, st.ex, st.fr, fun a h h' => absurd h h', st.keep, st.dom⟩⟩
  refine b ds M P PX hn (mm.len.trans hk) hS as _ ⟨F, H⟩ _ ⟨slots_start rd (by omega), mm⟩ (fun e m as' σ' w' st s' f => ?_) (fun v as' w' x M' st mm' r p => ?_) fun x cls d e m as' σ' w' st s' r p => ?_
  · obtain ⟨e, st'⟩ := key st
    have m2 := s'.me.take k f.1
    rw [e] at m2
    exact fin .non w' (dy ()) _ st' m2 rfl f.2
  · obtain ⟨e, st'⟩ := key st
    rw [e] at mm' r
    exact fin v w' x M' st' mm' r p
  · obtain ⟨e, st'⟩ := key st
    have m2 := s'.me.take k p.2.1
    have r2 := r.cut p.1
    rw [e] at m2 r2
    exact exc x cls d w' _ st' m2 r2 p.2.2
/-! ### try: body, except C as e: suite -/
/-- the exception at a that a suite holds -/
def dEx (a : Addr) (cls : Value) (d : Option Addr) (x : Exn) : Dy where
  h c F as v := v = .ref a ∧ XR c F as cls d x
  ok k := x.ok k
  mono := fun e p h => ⟨h.1, h.2.mono e p⟩
  cut := fun o h => ⟨h.1, h.2.cut o⟩
theorem SlotsOk.lose {F : Hp} {as : List Addr} {σ : L2.St} {env : Env'} (h : SlotsOk c F as σ env) (i : Nat) : SlotsOk c F as (σ.set i none) (env.set i none) := by
  refine ⟨by rw [List.length_set, List.length_set, h.len], fun j d q => ?_⟩
  rw [List.getElem?_set] at q
  by_cases e : i = j
  · rw [if_pos e] at q
    split at q <;> cases q
  · rw [if_neg e] at q
    obtain ⟨v, h1, h2⟩ := h.at_ j d q
    exact ⟨v, by rw [List.getElem?_set, if_neg e]; exact h1, h2⟩
theorem wsx_tryAs {tb : WX → TS} {ts : Addr → Value → Option Addr → TS} {cv : Value} {i : Nat} {Wout : WX} (pb : Exn → Env' → Mem → Prop) (hb : ∀ W', WSX c k W' (tb W') env M nx rt pb)
    (hs : ∀ x e m, pb x e m → ∃ b, PySem.W.exmOne c.K (.ref x.cls) cv = some b ∧ (b = true → ∀ a cls d, WS c k (ts a cls d) (e.set i (some (dEx a cls d x))) m (fun e' m' => nx (e'.set i none) m') rt) ∧ (b = false → px x e m)) :
    WSX c k Wout (fun D σ H => tb (wAs c.K cv i ts Wout D) D σ H) env M nx rt px := fun as σ w D s q1 q2 q3 =>
  hb _ as σ w D s q1 q2 fun x cls d e m as' σ' w' st s' xr p => by
    obtain ⟨b, hb1, hyes, hno⟩ := hs x e m p
    refine ⟨b, by rw [xr.1]; exact hb1, fun h a _ => ?_, fun h => q3 x cls d e m as' σ' w' st s' xr (hno h)⟩
    refine hyes h a cls d as' (σ'.set i (some (.ref a))) w' _ ⟨s'.sl.set i ⟨rfl, xr⟩, s'.me⟩ (fun e2 m2 as2 σ2 w2 st2 s2 p2 => ?_) fun v as2 w2 y m2 st2 mm2 r2 p2 => q2 v as2 w2 y m2 (st.trans st2) mm2 r2 p2
    exact q1 _ m2 as2 _ w2 (st.trans st2) ⟨s2.sl.lose i, s2.me⟩ p2
/-- the same where nothing is let out -/
theorem ws_tryAs {tb : WX → TS} {ts : Addr → Value → Option Addr → TS} {cv : Value} {i : Nat} {Wout : WX} (pb : Exn → Env' → Mem → Prop) (hb : ∀ W', WSX c k W' (tb W') env M nx rt pb)
    (hs : ∀ x e m, pb x e m → PySem.W.exmOne c.K (.ref x.cls) cv = some true ∧ ∀ a cls d, WS c k (ts a cls d) (e.set i (some (dEx a cls d x))) m (fun e' m' => nx (e'.set i none) m') rt) :
    WS c k (fun D σ H => tb (wAs c.K cv i ts Wout D) D σ H) env M nx rt := fun as σ w D s q1 q2 =>
  wsx_tryAs (px := fun _ _ _ => False) pb hb (fun x e m p => ⟨true, (hs x e m p).1, fun _ => (hs x e m p).2, fun z => absurd z (by decide)⟩) as σ w D s q1 q2 fun _ _ _ _ _ _ _ _ _ _ _ f => f.elim
/-- e.f -/
theorem we_xf {a C : Addr} {cls : Value} {d : Option Addr} {f : Str} {x : Exn} {y : Dy} (hx : x.cls = C) (hf : x.fs.lookup f = some y) (h : WE c te env M fun z m => z = dEx a cls d x ∧ P y m) : WE c (tXf a cls d C f te) env M P := fun as σ w Q s q =>
  h as σ w _ s fun v as1 w1 z m st mm r p => by
    obtain ⟨rfl, p⟩ := p
    obtain ⟨rfl, h1, h2⟩ := r
    rcases h2 with ⟨e0, _⟩ | ⟨dd, ps, rfl, h4, h5⟩
    · rw [e0] at hf; cases hf
    · obtain ⟨u, g1, g2⟩ := h5 f y hf
      exact ⟨rfl, by rw [h1, hx], dd, ps, u, rfl, mm.ex _ _ h4, g1, q u as1 w1 y m st mm g2 p⟩
/-- isinstance(e, t) -/
def rIsX (K : PySem.W.Frag) (a : Addr) (cls : Value) : List V → Hp → VK → Prop := fun xs H Q => ∃ (D : Addr) (t : V) (cv : Value) (b : Bool), xs = [.ref a, t] ∧ cls = .ref D ∧ ExcC K D ∧ (∀ u, RelV t u → u = cv) ∧ PySem.W.kitOne K (.ref D) cv = some b ∧ Q (.bl b) H
/-- its dict, where it has one, is tracked -/
def rIsXd (K : PySem.W.Frag) (a : Addr) (cls : Value) (d : Option Addr) : List V → Hp → VK → Prop := fun xs H Q => (d = none ∨ ∃ dd ps, d = some dd ∧ H dd = some (.xd ps)) ∧ rIsX K a cls xs H Q
theorem call_isX {X : Cx} {a : Addr} {cls : Value} {d : Option Addr} {oe : Obj} {pn : List (Addr × Obj)} (hz : Zc cls d oe) (hf : ∃ vs, oe.data = .fields vs) : CallR (X.suite a ((a, oe) :: pn)) (.builtin "isinstance") (rIsXd X.K a cls d) := by
  intro pins s σ H xs us Q I r h
  obtain ⟨hd, D, t, cv, b, rfl, rfl, C, hcv, e, q⟩ := h
  obtain ⟨u1, u2, rfl, r1, r2⟩ : ∃ u1 u2, us = [u1, u2] ∧ RelV (.ref a) u1 ∧ RelV t u2 := by
    cases r with
    | cons ra rr => cases rr with
      | cons rb rc => cases rc; exact ⟨_, _, rfl, ra, rb⟩
  obtain rfl : u1 = Value.ref a := r1
  obtain rfl := hcv u2 r2
  obtain ⟨hget, _⟩ := I.pin (a, oe) (List.mem_append.mpr (.inl List.mem_cons_self))
  obtain ⟨vs, hv⟩ := hf
  have nc : PySem.W.notCls oe = true := by unfold PySem.W.notCls; rw [hv]
  obtain ⟨od, J⟩ : ∃ od, PySem.W.InstAt s.heap a oe D od := by
    rcases hd with rfl | ⟨dd, ps, rfl, hp⟩
    · exact ⟨none, hget, hz.1, nc, by rw [hz.2]; trivial⟩
    · obtain ⟨mA, hns, _⟩ := (show ObjOk X.prog X.w H s.heap dd (.xd ps) from I.hok dd _ hp)
      obtain ⟨od, ho, _⟩ := lookIn_ns hns
      exact ⟨some od, hget, hz.1, nc, by rw [hz.2]; exact ho⟩
  obtain ⟨cd, hc, _⟩ := PySem.W.any_some C.hd
  exact PySem.W.kia_one (PySem.W.kitx_exc (by rw [hc]; rfl) C.hg C.hk C.hs C.ha C.hn C.ht C.hm) I.kIn J e (fun z => nomatch z) fun tk => ⟨.bl b, H, I.kept (t' := tk) fun _ _ z => z, rfl, q⟩
/-- the value of a class's name -/
def dRef (a : Addr) : Dy := ⟨fun _ _ _ v => v = .ref a, fun _ => True, fun _ _ h => h, fun _ h => h⟩
theorem we_ref {a : Addr} (p : P (dRef a) M) : WE c (tC (.ref a)) env M P := fun as σ w Q s q => q _ as w (dRef a) M (.refl _ _) s.me rfl p
theorem rc_isX {a : Addr} {cls : Value} {d : Option Addr} {x : Exn} {z : Dy} {cv : Value} {b : Bool} (C : ExcC c.K x.cls) (hz : ∀ F as v, z.h c F as v → ∀ u, RelV v u → u = cv) (hk : PySem.W.kitOne c.K (.ref x.cls) cv = some b) (p : P (dy b) M) :
    RC c (rIsXd c.K a cls d) [dEx a cls d x, z] M P := rc_pure (fun as w vs Q m r k => by
  obtain ⟨v, u, rfl, r1, r2⟩ := RepDs.two_inv r
  obtain ⟨rfl, h1, h2⟩ := r1
  refine ⟨?_, x.cls, u, cv, b, rfl, h1, C, hz _ _ u r2, hk, k _ rfl⟩
  rcases h2 with ⟨_, e⟩ | ⟨dd, ps, e, h4, _⟩
  · exact .inl e
  · exact .inr ⟨dd, ps, e, m.ex _ _ h4⟩) p
end
end Zq
end
section
set_option Elab.async false
set_option linter.all false
set_option maxRecDepth 100000
/-! Own exceptions, made: without fields, with one, with two. -/
namespace Zx
open PySem PySem.Spec PyProof.Rows L2
section
variable {X : Cx} {pins : List (Addr × Obj)} {σ : L2.St} {H H1 H2 : Hp} {s : Shared} {a C : Addr}
/-- an exception without fields is let go -/
theorem bare_end {hp hp2 h2 : Heap} {g1 g2 : Array GenState} {d1 d2 : Drawn} {t1 t2 : Nat} {os1 os2 : OsState} (I1 : Inv X pins σ H1 ⟨hp, g1, d1, t1, os1⟩) (big : hp.objs.size ≤ a) (k : ∀ b o, hp.get? b = some o → hp2.get? b = some o)
    (un : Un (frs X.stack) [] (upd H1 a (exo a C none)) H2 hp2 h2) (hok : HOk X.prog X.w H2 h2) (same : os2 = os1) (hb : AllBare g2) (at_ : H2 a = some (exo a C none)) :
    ∃ (t0 : Addr) (G : Heap), Inv X pins σ (del H2 a) ⟨G, g2, d2, t2, os2⟩ ∧ (∀ b o, G.get? b = some o → h2.get? b = some o) ∧ G.get? a = none ∧ h2.get? a = some ({ cls := .ref C, dict := none, data := .fields #[.ref t0, .none, .none, .none, .bool false, .none] } : Obj) := by
  obtain ⟨t0, obj⟩ := exo_at hok at_
  have n1 : H1 a = none := I1.hok.fresh big
  obtain ⟨G, r1, r2⟩ := restrict h2 fun b => decide (b ≠ a)
  have off : ∀ b, b ≠ a → G.get? b = h2.get? b := fun b z => r1 b (decide_eq_true z)
  have gone : G.get? a = none := r2 a (by simp)
  have low : ∀ {b : Addr} {o : Obj}, hp.get? b = some o → b ≠ a := fun {b o} z => Nat.ne_of_lt (Nat.lt_of_lt_of_le (Heap.lt_size z) big)
  have free : ∀ {b : Addr}, b ≠ a → H1 b = none → upd H1 a (exo a C none) b = none := fun {b} z n => by rw [upd_ne z]; exact n
  have held : ∀ {b : Addr} {u : HO}, H1 b = some u → b ≠ a ∧ upd H1 a (exo a C none) b = some u := fun {b u} z => ⟨ne_of_none z n1, by rw [upd_ne (ne_of_none z n1)]; exact z⟩
  refine ⟨t0, G, ?_, fun b o z => ?_, gone, obj⟩
  · refine I1.call' (ch := []) same ⟨fun b o z n hf hx => ?_, fun b o z n hf hx => ?_, fun b o z n hx => ?_, fun b o z hx => ?_, fun b xs z => ?_, fun b o v z => ?_, fun b ps z => ?_⟩ (fun b o z => ?_) hb (fun b z => absurd z (by simp))
    · rw [off b (low z)]; exact un.keep b o (k b o z) (free (low z) n) hf hx
    · rw [off b (low z)]; exact un.slot b o (k b o z) (free (low z) n) hf hx
    · rw [del_ne (low z)]; exact un.free b o (k b o z) (free (low z) n) hx
    · rw [off b (low z)]; exact un.there b o (k b o z) hx
    · rw [del_ne (held z).1]; exact un.tups b xs (held z).2
    · rw [del_ne (held z).1]; exact un.frzs b o v (held z).2
    · rw [del_ne (held z).1]; exact un.tbls b ps (held z).2
    · by_cases e : b = a
      · rw [e, del_same] at z; cases z
      · rw [del_ne e] at z
        have own : ∀ {c : Addr}, H2 c = some (.own b) → c ≠ a := fun {c} hc => at_ne at_ hc exo_own
        refine (hok b o z).stay (fun c v hc y => ?_) (fun c hc => by rw [del_ne (own hc)]; exact hc) fun c xs hc => by rw [del_ne (at_ne at_ hc exo_tup)]; exact hc
        rw [off c]
        · exact y
        · rcases hc with hc | hc
          · rw [hc]; exact e
          · exact own hc
  · by_cases e : b = a
    · rw [e, gone] at z; cases z
    · rw [← off b e]; exact z
/-- C(), its class's __init__ keeping sp, no field set -/
def tMkB (C : Addr) (sp : Sp) : L2.St → Hp → XK → Prop := fun σ H Q => ∀ a, H a = none → sp [.ref a] (upd H a (exo a C none)) (fun v H2 => v = .non ∧ H2 a = some (exo a C none) ∧ Q (.ref C) none (del H2 a)) (fun _ _ _ => False)
theorem pmk_bare {CX : CXT} {x : Str} {fI : Addr} {k : Nat} {fd : FuncData} {ps : List Str} {sp : Sp} {p pos : Pos} (T : OexC X.K C) (iC : PySem.W.findIn X.K (.ref C) "__init__" = some (some (.ref fI))) (tI : PySem.W.typeIn X.K (.ref fI) = some (.type "function"))
    (F1 : FnOk X.prog X.w X.K X.mg X.base CX k fI fd ps sp) (hr : Room (k + 1) X.A) (hb : Binds X.K fd ps []) (hx : Passes CX X (fun _ _ _ => False)) (hg : Gl X x) (hm : X.mg x = some (.ref C)) (hdb : (x == ("__debug__" : Str)) = false := by decide) :
    PMk X (.Call (.Name x p) [] [] pos) (tMkB C sp) := by
  intro pins s σ H Q I h
  obtain ⟨nm, q, N, bs, bm, sn, sub, ab, col, dd, k0, k1, k2, k3, k5, hC, hbm⟩ := T.cls
  refine wpAny_Call_Name_kw (ld_glob I hg hm ?_ hdb)
  refine PySem.W.callWith_K0 I.kIn T.kC ?_
  obtain ⟨hp, g, dr, tk, os⟩ := s
  have up1 : hp.objs.size ≤ hp.objs.size + 1 := Nat.le_succ _
  have hq := h (hp.objs.size + 1) (I.hok.fresh up1)
  have keep : ∀ b o, hp.get? b = some o → ((hp.push (PySem.W.kdv_tup [])).push (PySem.HandSPX.excO C hp.objs.size)).get? b = some o := fun b o e => Heap.get?_push_of_some _ (Heap.get?_push_of_some _ e)
  have got : ((hp.push (PySem.W.kdv_tup [])).push (PySem.HandSPX.excO C hp.objs.size)).get? (hp.objs.size + 1) = some (PySem.HandSPX.excO C hp.objs.size) := by heap_get
  have I2 : Inv X pins σ (upd H (hp.objs.size + 1) (exo (hp.objs.size + 1) C none)) ⟨(hp.push (PySem.W.kdv_tup [])).push (PySem.HandSPX.excO C hp.objs.size), g, dr, tk, os⟩ :=
    I.laid (t' := tk) (a := hp.objs.size + 1) (o := exo (hp.objs.size + 1) C none) (h' := (hp.push (PySem.W.kdv_tup [])).push (PySem.HandSPX.excO C hp.objs.size)) keep up1 (exo_ok got)
  have rv : Vals [V.ref (hp.objs.size + 1)] [Value.ref (hp.objs.size + 1)] := .cons rfl .nil
  have hl : [Value.ref (hp.objs.size + 1)].length = ps.length := by
    have e := rv.length
    rw [F1.len _ _ _ _ hq] at e
    exact e.symm
  refine wpAny_call (PySem.HandSPX.call_own F.excBase_ValueError (fun Y => PySem.HandSPX.refsVE_contains Y bm hbm) (I.kIn _ _ hC) (PySem.W.looks_findIn I.kIn iC) (fun self => PySem.W.bind_fn I.kIn self tI) (Nat.zero_le _)
    (codeAny_mono (F1.run _ X.stack _ _ ⟨[Value.ref (hp.objs.size + 1)], []⟩ [Value.ref (hp.objs.size + 1)] _ _ (fun _ _ _ => False) (hr.make C [] []) (I2.env0.make C [] []) (by have := hb _ [Value.ref (hp.objs.size + 1)] I2.kIn (by rw [List.append_nil]; exact hl); rw [List.append_nil] at this; exact this) rv hq) fun r s' hq' => ?_))
  cases r with
  | error er => exact hx pins σ _ _ er s' I2 hq'
  | ok fl =>
    cases fl with
    | ret u =>
      obtain ⟨v, H2, os2, bare2, un2, hok2, r2, ev, ea, q2⟩ := hq'
      subst ev
      obtain ⟨h2, g2, d2, t2, os'⟩ := s'
      obtain ⟨t0, G, J, kG, ge, hoe⟩ := bare_end (d2 := d2) (t2 := t2) I up1 keep un2 hok2 os2 bare2 ea
      exact ⟨r2, ⟨_, _, _, ⟨G, g2, d2, t2, os'⟩, _, .ref C, none, rfl, J, kG, ge, hoe, ⟨rfl, rfl⟩, rfl, rfl, del_same, rfl, bare2, raises_own T.exC T.tyC, q2⟩⟩
    | next => exact False.elim hq'
    | brk => exact False.elim hq'
    | cont => exact False.elim hq'
end
end Zx
end
section
set_option Elab.async false
set_option linter.all false
set_option maxRecDepth 100000
/-! Raising own exceptions, calling what may raise. -/
namespace Zq
open PySem PySem.Spec PyProof.Rows L2
open Rep (rep)
/-- an own exception's __init__ that hands on to ValueError's -/
def spVe (K : PySem.W.Frag) : Sp := fun vs H Q _ => ∃ a C, vs = [.ref a] ∧ OexC K C ∧ H a = some (exo a C none) ∧ Q .non H
/-- one that sets these fields, in this order -/
def spFl (K : PySem.W.Frag) (fns : List Str) : Sp := fun vs H Q _ => ∃ a C xs, vs = .ref a :: xs ∧ xs.length = fns.length ∧ OexC K C ∧ (∀ f ∈ fns, PySem.W.findIn K (.ref C) f = some none) ∧ H a = some (exo a C none) ∧
  ∀ dx, H dx = none → dx ≠ a → Q .non (upd (upd H a (exo a C (some dx))) dx (exd dx (fns.zip xs).reverse))
theorem del_upd {H : Hp} {a : Addr} {o : HO} (h : H a = none) : del (upd H a o) a = H := by
  funext b
  by_cases e : b = a
  · rw [e, del_same, h]
  · rw [del_ne e, upd_ne e]
section
variable {c : Cc} {env : Env'} {M : Mem} {PE : Exn → Mem → Prop}
theorem wmk_bare {C : Addr} (T : OexC c.K C) (p : PE ⟨C, []⟩ M) : WMk c (Zx.tMkB C (spVe c.K)) env M PE := fun as σ w Q s q a ha =>
  ⟨a, C, rfl, T, upd_same, rfl, upd_same, by rw [del_upd ha]; exact q ⟨C, []⟩ (.ref C) none as w M (.refl _ _) s.me ⟨rfl, .inl ⟨rfl, rfl⟩⟩ p⟩
theorem lookup_rep {F : Hp} {as : List Addr} {f : Str} : ∀ {ps : List (Str × V)} {qs : List (Str × Dy)}, Paired (fun p q => p.1 = q.1 ∧ q.2.h c F as p.2) ps qs → ∀ y, qs.lookup f = some y → ∃ u, ps.lookup f = some u ∧ y.h c F as u
  | _, _, .nil, y, h => by cases h
  | (g, v) :: _, (_, z) :: _, .cons ⟨rfl, r⟩ t, y, h => by
    rw [List.lookup_cons] at h ⊢
    cases e : f == g with
    | true => rw [e] at h; cases h; exact ⟨v, rfl, r⟩
    | false => rw [e] at h; exact lookup_rep t y h
theorem zip_rep {F : Hp} {as : List Addr} : ∀ (fns : List Str) {vs : List V} {ds : List Dy}, RepDs c F as vs ds → Paired (fun (p : Str × V) (q : Str × Dy) => p.1 = q.1 ∧ q.2.h c F as p.2) (fns.zip vs) (fns.zip ds)
  | [], _, _, _ => .nil
  | _ :: _, _, _, .nil => .nil
  | f :: fns, _, _, .cons r t => .cons ⟨rfl, r⟩ (zip_rep fns t)
theorem paired_rev {α β : Type} {R : α → β → Prop} : ∀ {xs : List α} {ys : List β}, Paired R xs ys → Paired R xs.reverse ys.reverse
  | _, _, .nil => .nil
  | x :: xs, y :: ys, .cons r t => by
    rw [List.reverse_cons, List.reverse_cons]
    exact paired_snoc r (paired_rev t)
theorem wmk_fields {C : Addr} {fns : List Str} {t : TA} (T : OexC c.K C) (hno : ∀ f ∈ fns, PySem.W.findIn c.K (.ref C) f = some none) (h : WA c t env M fun ds m => ds.length = fns.length ∧ fns.length ≤ 9 ∧ PE ⟨C, (fns.zip ds).reverse⟩ m) :
    WMk c (tMkO C (spFl c.K fns) [] t) env M PE := fun as σ w Q s q =>
  h as σ w _ s fun vs as1 w1 ds m st mm r p => by
    obtain ⟨hl, h9, p⟩ := p
    refine ⟨by rw [r.length]; omega, fun a ha => ?_⟩
    rw [List.append_nil]
    refine ⟨a, C, vs, rfl, by rw [r.length, hl], T, hno, upd_same, fun dx hdx hne => ?_⟩
    rw [upd_ne hne] at hdx
    obtain ⟨F1, H1⟩ := w1
    refine ⟨rfl, dx, _, by rw [upd_ne (Ne.symm hne), upd_same], upd_same, hdx, ?_⟩
    have e : upd (del (upd (upd (upd H1 a (exo a C none)) a (exo a C (some dx))) dx (exd dx (fns.zip vs).reverse)) a) dx (.xd (fns.zip vs).reverse) = upd H1 dx (.xd (fns.zip vs).reverse) := by
      funext b
      by_cases e1 : b = dx
      · rw [e1, upd_same, upd_same]
      · rw [upd_ne e1, upd_ne e1]
        by_cases e2 : b = a
        · rw [e2, del_same]; exact ha.symm
        · rw [del_ne e2, upd_ne e1, upd_ne e2, upd_ne e2]
    show Q (.ref C) (some dx) (upd (del (upd (upd (upd H1 a (exo a C none)) a (exo a C (some dx))) dx (exd dx (fns.zip vs).reverse)) a) dx (.xd (fns.zip vs).reverse))
    rw [e]
    obtain ⟨st2, mm2⟩ := MemOk.new (o := .xd (fns.zip vs).reverse) mm hdx
    exact q ⟨C, _⟩ (.ref C) (some dx) as1 _ m (st.trans st2) mm2 ⟨rfl, .inr ⟨dx, _, rfl, upd_same, fun f y hy => lookup_rep (paired_rev (zip_rep fns (r.mono st2.ex st2.pre))) y hy⟩⟩ p
end
/-! ### rules in short -/
/-- an own exception class that is made without fields | with these -/
structure ExB (P : Program) (w : World) (K : PySem.W.Frag) (mg : Str → Option Value) (base : Heap) (k : Nat) (x : Str) (C : Addr) : Prop where
  ex : ∃ (fI : Addr) (fd : FuncData) (ps : List Str), OexC K C ∧ PySem.W.findIn K (.ref C) "__init__" = some (some (.ref fI)) ∧ PySem.W.typeIn K (.ref fI) = some (.type "function") ∧ FnOk P w K mg base CX0 k fI fd ps (spVe K) ∧ Binds K fd ps [] ∧ mg x = some (.ref C)
structure ExF (P : Program) (w : World) (K : PySem.W.Frag) (mg : Str → Option Value) (base : Heap) (k : Nat) (x : Str) (C : Addr) (fns : List Str) : Prop where
  ex : ∃ (fI : Addr) (fd : FuncData) (ps : List Str), OexC K C ∧ PySem.W.findIn K (.ref C) "__init__" = some (some (.ref fI)) ∧ PySem.W.typeIn K (.ref fI) = some (.type "function") ∧ FnOk P w K mg base CX0 k fI fd ps (spFl K fns) ∧ Binds K fd ps [] ∧ mg x = some (.ref C)
section
variable {X : Cx} {k j : Nat} {C : Addr} {x : Str} {fns : List Str} {p pos : Pos} {e : Expr} {es : List Expr} {t : TA}
theorem pmk_b (h : ExB X.prog X.w X.K X.mg X.base k x C) (hr : Room j X.A) (hk : k + 1 ≤ j) (hg : Gl X x) (hdb : (x == ("__debug__" : Str)) = false := by decide) : PMk X (.Call (.Name x p) [] [] pos) (Zx.tMkB C (spVe X.K)) := by
  obtain ⟨fI, fd, ps, T, iC, tI, F, b, hm⟩ := h.ex
  exact Zx.pmk_bare T iC tI F (hr.mono hk) b pass0 hg hm hdb
theorem pmk_f (h : ExF X.prog X.w X.K X.mg X.base k x C fns) (hr : Room j X.A) (hk : k + 1 ≤ j) (hg : Gl X x) (ha : PA X (e :: es) t)
    (hdb : (x == ("__debug__" : Str)) = false := by decide) (he : starEach (e :: es) X.env = (false, eval e X.env) :: starEach es X.env := by rfl) (hpl : (backTo pos (starEach es X.env)).any (·.1) = false := by rfl) : PMk X (.Call (.Name x p) (e :: es) [] pos) (tMkO C (spFl X.K fns) [] t) := by
  obtain ⟨fI, fd, ps, T, iC, tI, F, b, hm⟩ := h.ex
  exact pmk_oex T iC tI F (hr.mono hk) b .nil pass0 hg hm ha hdb he hpl
end
/-- a def that may raise, called by its name -/
structure CalX (P : Program) (w : World) (K : PySem.W.Frag) (mg : Str → Option Value) (base : Heap) (k : Nat) (x : Str) (sp : Sp) : Prop where
  ex : ∃ (f : Addr) (fd : FuncData) (ps : List Str), FnOk P w K mg base (L2.CX P w) k f fd ps sp ∧ mg x = some (.ref f) ∧ PySem.W.keepIn K (.ref f) = true ∧ Binds K fd ps []
/-- a class whose __init__ may raise -/
structure MakX (P : Program) (w : World) (K : PySem.W.Frag) (mg : Str → Option Value) (base : Heap) (k : Nat) (x : Str) (C : Addr) (sp : Sp) : Prop where
  ex : ∃ (f : Addr) (fd : FuncData) (ps : List Str), Mk K C f ∧ FnOk P w K mg base (L2.CX P w) k f fd ps sp ∧ mg x = some (.ref C) ∧ Binds K fd ps []
/-- C(..), E by the slots -/
def tMakeS (C : Addr) (sp : Sp) (E : L2.St → XK) (t : TA) : TE := fun σ H Q => t σ H fun vs H1 => ∀ x dx, H1 x = none → H1 dx = none → dx ≠ x →
  sp (.ref x :: vs) (upd (upd H1 dx (.own x)) x (.ins C dx [])) (fun v H2 => v = .non ∧ Q (.ref x) H2) (E σ)
section
variable {X : Cx} {k j : Nat} {C : Addr} {x : Str} {sp : Sp} {W : WX} {p pos : Pos} {e : Expr} {es : List Expr} {t : TA}
theorem pe_cX (c : CalX X.prog X.w X.K X.mg X.base k x sp) (hr : Room j X.A) (hk : k ≤ j) (hg : Gl X x) (tk : Takes X W) (ha : PA X (e :: es) t)
    (hdb : (x == ("__debug__" : Str)) = false := by decide) (he : starEach (e :: es) X.env = (false, eval e X.env) :: starEach es X.env := by rfl) (hpl : (backTo pos (starEach es X.env)).any (·.1) = false := by rfl) :
    PE X (.Call (.Name x p) (e :: es) [] pos) (tCallS sp (L2.WE W) t) := by
  obtain ⟨f, fd, ps, F, hm, kp, b⟩ := c.ex
  exact pe_callS F (hr.mono hk) hg hm kp b (fun σ => passAt tk σ) ha hdb he hpl
theorem pe_mkX (c : MakX X.prog X.w X.K X.mg X.base k x C sp) (hr : Room j X.A) (hk : k + 1 ≤ j) (hg : Gl X x) (tk : Takes X W) (ha : PA X (e :: es) t)
    (hdb : (x == ("__debug__" : Str)) = false := by decide) (he : starEach (e :: es) X.env = (false, eval e X.env) :: starEach es X.env := by rfl) (hpl : (backTo pos (starEach es X.env)).any (·.1) = false := by rfl) :
    PE X (.Call (.Name x p) (e :: es) [] pos) (tMakeS C sp (L2.WE W) t) := by
  obtain ⟨f, fd, ps, M, F, hm, b⟩ := c.ex
  refine ⟨fun pins s σ H Q I h => ?_⟩
  refine wpAny_Call_Name_kw (ld_glob I hg hm ?_ hdb)
  refine PySem.W.callWith_K (h₀ := X.base) I.ok.mod.kin M.kp (thn (ha.run pos pins s σ H _ I h) fun us s1 ⟨vs, H1, I1, r, q⟩ => ⟨I1.kIn, ?_⟩) he hpl
  have up := Nat.le_succ s1.heap.objs.size
  have hq := q (s1.heap.objs.size + 1) s1.heap.objs.size (I1.hok.fresh up) (I1.hok.fresh (Nat.le_refl _)) (Nat.ne_of_lt (Nat.lt_succ_self _))
  have I2 := Inv.made (C := C) I1
  have rv : Vals (V.ref (s1.heap.objs.size + 1) :: vs) (Value.ref (s1.heap.objs.size + 1) :: us) := .cons rfl r
  have hl : (Value.ref (s1.heap.objs.size + 1) :: us).length = ps.length := by rw [← rv.length]; exact F.len _ _ _ _ hq
  have bnd := b _ (Value.ref (s1.heap.objs.size + 1) :: us) I2.kIn (by rw [List.append_nil]; exact hl)
  rw [List.append_nil] at bnd
  have run := F.run _ X.stack _ _ ⟨Value.ref (s1.heap.objs.size + 1) :: us, []⟩ _ _ _ _ ((hr.mono hk).make C us []) (I2.env0.make C us []) bnd rv hq
  refine wpAny_call (make_map (f := f) I1.kIn M.makes M.init (beq_iff_eq.mp M.fn) (codeAny_mono run fun z s' hz => ?_))
  rcases z with er | fl
  · exact passAt tk σ pins _ _ er s' I2 hz
  · cases fl with
    | ret u =>
      obtain ⟨v, H', I3, rw', ev, q3⟩ := I2.after hz
      subst ev
      exact ⟨rw', ⟨V.ref _, H', I3, rfl, q3⟩⟩
    | next => exact hz.elim
    | brk => exact hz.elim
    | cont => exact hz.elim
end
end Zq
end
section
set_option Elab.async false
set_option linter.all false
set_option maxRecDepth 100000
/-! Table(..) where it may raise; the __init__s of own exceptions. -/
namespace Zq
open PySem PySem.Spec PyProof.Rows L2
open Rep (rep)
section
variable {c : Cc} {env : Env'} {M : Mem} {te : TE} {W : WX} {P : Dy → Mem → Prop} {pe : Exn → Mem → Prop}
theorem wex_makeT {n : Nat} {S : ASpX} {t : TA} (h : WA c t env M fun ds m1 => ds.length + 1 = n ∧ okDs 0 ds ∧ S (dy (MR.mk 0) :: ds) [cIns (c.cls "Table") 0 []] (fun d m' => ∃ (tb : Tab) (q : Nat) (fs : List (Str × Dy)), m' = [cIns (c.cls "Table") q fs] ∧ d = dy () ∧ fs.lookup ("cells" : Str) = some (dy tb.cells) ∧ fs.lookup ("kinds" : Str) = some (dy tb.kinds) ∧ Rep.ok tb.kinds 0 ∧ P (dy tb) m1) fun y _ => y.ok 0 ∧ pe y m1) :
    WEX c W (tMakeS (c.cls "Table") (spOfX c n 1 S) (L2.WE W) t) env M P pe := fun as σ w Q s q ee =>
  h as σ w _ s fun vs as1 w1 ds m1 st1 mm1 r1 p1 => by
    obtain ⟨hn, hok, hS⟩ := p1
    intro x dx hx hdx hne
    obtain ⟨F1, H1⟩ := w1
    have fx : F1 x = none := MemOk.fresh mm1 hx
    have fdx : F1 dx = none := MemOk.fresh mm1 hdx
    have ex0 : Ex F1 (upd F1 dx (.own x)) := Evl.Ex.new fdx
    have exH : Ex (upd F1 dx (.own x)) (upd (upd H1 dx (.own x)) x (.ins (c.cls "Table") dx [])) := fun b o hb => by
      by_cases e : b = dx
      · subst e; rw [upd_same] at hb; cases hb; rw [upd_ne hne, upd_same]
      · rw [upd_ne e] at hb
        have hb2 := mm1.ex b o hb
        have : b ≠ x := fun z => by rw [z, fx] at hb; cases hb
        rw [upd_ne this, upd_ne e]; exact hb2
    refine ⟨[x], upd F1 dx (.own x), dy (MR.mk 0) :: ds, [cIns (c.cls "Table") 0 []], _, _, rfl, by rw [List.length_cons]; exact hn, ⟨by simp, rfl, exH, fun a ha => ?_, fun j d hj => ?_⟩, .cons ⟨x, rfl, rfl⟩ (RepDs.mono ex0 ⟨[x], rfl⟩ (okDs0 hok r1)), hS, fun v w2 d m' st2 mm2 r2 p2 => ?_, fun y cls d w2 m' st2 mm2 r2 p2 => ?_⟩
    · have : a = x := by simpa using ha
      subst this
      show upd F1 dx (.own a) a = none
      rw [upd_ne (Ne.symm hne)]; exact fx
    · match j, hj with
      | 0, hj =>
        have : cIns (c.cls "Table") 0 [] = d := by simpa using hj
        subst this
        exact ⟨x, _, rfl, upd_same, dx, [], rfl, Nat.le_refl _, fun f d hf => by simp [List.lookup] at hf⟩
      | j + 1, hj => simp at hj
    · obtain ⟨tb, nq, fs, rfl, rfl, hf1, hf2, hok2, p⟩ := p2
      obtain rfl : v = .non := r2
      obtain ⟨a, o, ha, ho, dx2, ps, rfl, hl2, hfs⟩ := mm2.at_ 0 _ rfl
      have : x = a := by simpa using ha
      subst this
      obtain ⟨u1, g1, g2⟩ := hfs _ _ hf1
      obtain ⟨u2, g3, g4⟩ := hfs _ _ hf2
      obtain rfl : u1 = .int tb.cells := g2
      obtain ⟨F2, H2⟩ := w2
      have fx2 : F2 x = none := mm2.dis x (by simp)
      have exT : Ex F2 (upd F2 x (.ins (c.cls "Table") dx2 ps)) := Evl.Ex.new fx2
      have exA : Ex F1 (upd F2 x (.ins (c.cls "Table") dx2 ps)) := (ex0.trans st2.ex).trans exT
      have keepH : ∀ b o, H1 b = some o → H2 b = some o := fun b o hb => by
        have n1 : b ≠ x := ne_of_none hb hx
        have n2 : b ≠ dx := ne_of_none hb hdx
        exact st2.keep b o (by dsimp only; rw [upd_ne n1, upd_ne n2]; exact hb) (by simpa using n1)
      have newF : ∀ b, F1 b = none → upd F2 x (.ins (c.cls "Table") dx2 ps) b ≠ none → H1 b = none := fun b hb hb2 => by
        by_cases e : b = x
        · rw [e]; exact hx
        · rw [upd_ne e] at hb2
          by_cases e2 : b = dx
          · rw [e2]; exact hdx
          · rcases st2.fr b (by dsimp only; rw [upd_ne e2]; exact hb) hb2 with z | z
            · dsimp only at z
              rw [upd_ne e, upd_ne e2] at z; exact z
            · exact absurd (by simpa using z) e
      refine ⟨rfl, q (.ref x) as1 ⟨upd F2 x (.ins (c.cls "Table") dx2 ps), H2⟩ (dy tb) m1 (st1.trans ⟨List.prefix_refl _, exA, fun b hb hb2 => .inl (newF b hb hb2), fun b h1 h2 => absurd h1 h2, fun b o hb _ => keepH b o hb, fun b hb => ?_⟩) ⟨mm1.nd, mm1.len, fun b o hb => ?_, fun b hb => ?_, fun j d hj => ?_⟩ ⟨x, dx2, ps, u2, rfl, upd_same, g1, g3, ?_⟩ p⟩
      · obtain ⟨o, ho2⟩ := Option.ne_none_iff_exists'.mp hb
        dsimp only
        rw [keepH b o ho2]; simp
      · dsimp only at hb ⊢
        by_cases e : b = x
        · subst e; rw [upd_same] at hb; cases hb; exact ho
        · rw [upd_ne e] at hb; exact mm2.ex b o hb
      · by_cases e : upd F2 x (.ins (c.cls "Table") dx2 ps) b = none
        · exact e
        · exact absurd (newF b (mm1.dis b hb) e) (MemOk.isSome mm1 hb)
      · obtain ⟨b, o', h1, h2, h3⟩ := mm1.at_ j d hj
        exact ⟨b, o', h1, keepH b o' h2, d.mono exA (List.prefix_refl _) h3⟩
      · have g5 := Rep.cut (k := 0) hok2 g4
        exact Rep.mono (F := F2) (as := []) exT (List.nil_prefix) (by simpa using g5)
    · obtain ⟨F2, H2⟩ := w2
      have exA : Ex F1 F2 := ex0.trans st2.ex
      have keepH : ∀ b o, H1 b = some o → H2 b = some o := fun b o hb => by
        have n1 : b ≠ x := ne_of_none hb hx
        have n2 : b ≠ dx := ne_of_none hb hdx
        exact st2.keep b o (by dsimp only; rw [upd_ne n1, upd_ne n2]; exact hb) (by simpa using n1)
      have newF : ∀ b, F1 b = none → F2 b ≠ none → H1 b = none := fun b hb hb2 => by
        by_cases e2 : b = dx
        · rw [e2]; exact hdx
        · rcases st2.fr b (by dsimp only; rw [upd_ne e2]; exact hb) hb2 with z | z
          · by_cases e : b = x
            · rw [e]; exact hx
            · dsimp only at z
              rw [upd_ne e, upd_ne e2] at z; exact z
          · have : b = x := by simpa using z
            rw [this]; exact hx
      have r3 : XR c F2 as1 cls d y := by
        have := r2.cut (k := 0) p2.1
        exact this.mono (Evl.Ex.refl _) (by rw [List.take_zero]; exact List.nil_prefix)
      refine ee y cls d as1 ⟨F2, H2⟩ m1 (st1.trans ⟨List.prefix_refl _, exA, fun b hb hb2 => .inl (newF b hb hb2), fun b h1 h2 => absurd h1 h2, fun b o hb _ => keepH b o hb, fun b hb => ?_⟩) ⟨mm1.nd, mm1.len, mm2.ex, fun b hb => ?_, fun j z hj => ?_⟩ r3 p2.2
      · obtain ⟨o, ho2⟩ := Option.ne_none_iff_exists'.mp hb
        dsimp only
        rw [keepH b o ho2]; simp
      · by_cases e : F2 b = none
        · exact e
        · exact absurd (newF b (mm1.dis b hb) e) (MemOk.isSome mm1 hb)
      · obtain ⟨b, o', h1, h2, h3⟩ := mm1.at_ j z hj
        exact ⟨b, o', h1, keepH b o' h2, z.mono exA (List.prefix_refl _) h3⟩
end
/-! ### the bodies of __init__ -/
theorem rd_ve {K : PySem.W.Frag} {vs : List V} {H : Hp} {Q : VK} {E : XK} (h : spVe K vs H Q E) : tDrop (tVeI K (tCons (tVar 0) tNil)) { nx := fun _ H' => Q .non H', rt := Q } (L2.start ["self"] vs) H := by
  obtain ⟨a, C, rfl, T, ha, q⟩ := h
  exact ⟨_, rfl, a, C, [], rfl, Nat.zero_le _, T, ha, q⟩
theorem rd_fl1 {K : PySem.W.Frag} {f x : Str} {vs : List V} {H : Hp} {Q : VK} {E : XK} (h : spFl K [f] vs H Q E) : tOst K f (tVar 0) (tVar 1) { nx := fun _ H' => Q .non H', rt := Q } (L2.start ["self", x] vs) H := by
  obtain ⟨a, C, xs, rfl, hl, T, hno, ha, q⟩ := h
  match xs, hl with
  | [y], _ => exact ⟨y, rfl, _, rfl, a, C, rfl, T, hno f (by simp), .inl ⟨ha, fun dx hd hne => by
      have z := q dx hd hne
      have e : upd (upd H dx (exd dx [(f, y)])) a (exo a C (some dx)) = upd (upd H a (exo a C (some dx))) dx (exd dx ([f].zip [y]).reverse) := by
        funext b
        by_cases e1 : b = dx
        · subst e1
          rw [upd_ne hne, upd_same, upd_same]; rfl
        · by_cases e2 : b = a
          · subst e2
            rw [upd_same, upd_ne e1, upd_same]
          · rw [upd_ne e2, upd_ne e1, upd_ne e1, upd_ne e2]
      show Q .non (upd (upd H dx (exd dx [(f, y)])) a (exo a C (some dx)))
      rw [e]; exact z⟩⟩
theorem rd_fl2 {K : PySem.W.Frag} {f g x1 x2 : Str} {vs : List V} {H : Hp} {Q : VK} {E : XK} (h : spFl K [f, g] vs H Q E) :
    tSeq (tOst K f (tVar 0) (tVar 1)) (tOst K g (tVar 0) (tVar 2)) { nx := fun _ H' => Q .non H', rt := Q } (L2.start ["self", x1, x2] vs) H := by
  obtain ⟨a, C, xs, rfl, hl, T, hno, ha, q⟩ := h
  match xs, hl with
  | [y, z], _ => exact ⟨y, rfl, _, rfl, a, C, rfl, T, hno f (by simp), .inl ⟨ha, fun dx hd hne => ⟨z, rfl, _, rfl, a, C, rfl, T, hno g (by simp), .inr ⟨dx, [(f, y)], by rw [upd_same], by rw [upd_ne hne, upd_same], by simp, by
      have q1 := q dx hd hne
      have e : upd (upd (upd H dx (exd dx [(f, y)])) a (exo a C (some dx))) dx (exd dx ((g, z) :: [(f, y)])) = upd (upd H a (exo a C (some dx))) dx (exd dx ([f, g].zip [y, z]).reverse) := by
        funext b
        by_cases e1 : b = dx
        · subst e1
          rw [upd_same, upd_same]; rfl
        · by_cases e2 : b = a
          · subst e2
            rw [upd_ne e1, upd_same, upd_ne e1, upd_same]
          · rw [upd_ne e1, upd_ne e2, upd_ne e1, upd_ne e1, upd_ne e2]
      show Q .non (upd (upd (upd H dx (exd dx [(f, y)])) a (exo a C (some dx))) dx (exd dx ((g, z) :: [(f, y)])))
      rw [e]; exact q1⟩⟩⟩⟩
end Zq
end
section
set_option Elab.async false
set_option linter.all false
set_option maxRecDepth 100000
/-! == and != by an own __eq__; exceptions as things. -/
namespace Zx
open PySem PySem.Spec PyProof.Rows L2
open PySem.W (InstAt Looks)
section
variable {prog : Program} {w : World} {A : Around} {E : Value → Shared → Prop} {s : Shared} {K : PySem.W.Frag} {x C f : Addr} {ox : Obj} {od : Option Obj} {tb b : Value}
/-- x != b where the class has an own __eq__ alone -/
theorem rich_ne {Q : Value → Shared → Prop} (hu : A.units + 1 < cLine) (X : K.In s.heap) (I : InstAt s.heap x ox C od) (hb : Looks (model prog w) s.heap (typeOf b) tb) (hn : PySem.W.notFirst K C tb = true) (hm : PySem.W.mroIn K C (.type "object") = some true)
    (hne : PySem.W.findIn K (.ref C) "__ne__" = some (some (.builtin "object.__ne__"))) (heq : PySem.W.findIn K (.ref C) "__eq__" = some (some (.ref f))) (hf : PySem.W.isFn K (.ref f) = true)
    (h : wpAny (model prog w) A.in1 (call (.ref f) [.ref x, b]) (fun v s' => ∃ r, v = .bool r ∧ Q (.bool (!r)) s') E s) : wpAny (model prog w) A (richCompare .NotEq (.ref x) b) Q E s := by
  have entry : wpAny (model prog w) A.in1 (Builtin.«object.__ne__» ⟨[.ref x, b], []⟩) (fun fin s' => ∃ r, fin = .done (.ret (.bool (!r))) ∧ Q (.bool (!r)) s') E s := by
    unfold Builtin.«object.__ne__»
    refine wpAny_bind (wpAny_of_eq (a := ((Value.ref x : Value), [b])) (by first | rfl | (simp only [slotArgs]; rfl)) ?_)
    show wpAny _ _ (cRoomFor "comparison" [.ref x, b] >>= _) _ _ _
    refine wpAny_bind (wpAny_cRoomFor (show A.units + 1 < cLine from hu) (wpAny_bind (PySem.W.ifBound_K X I heq hf (wpAny_mono h (fun v s' z => ?_) fun _ _ e => e))))
    obtain ⟨r, rfl, q⟩ := z
    exact wpAny_bind (wpAny_truthy_bool (wpAny_pure ⟨r, rfl, q⟩))
  have called : wpAny (model prog w) A (call (.builtin "object.__ne__") [.ref x, b]) (fun v s' => ∃ r, v = .bool r ∧ Q (.bool r) s') E s := by
    refine wpAny_call (codeAny_call_builtin F.cmp_object.ne.plain F.cmpEntry_ne (PySem.W.check_slot F.cmpKind_ne F.cmpSplit_ne (I.type.andThen (PySem.W.looks_mroIn X hm)) (F.cmpArgs_ne _ _) (wpAny_mono entry (fun v s' z => ?_) fun _ _ e => e)))
    obtain ⟨r, rfl, q⟩ := z
    exact ⟨!r, rfl, q⟩
  have tried : wpAny (model prog w) A (tryCompare (.ref x) "__ne__" b) (fun r s' => ∃ v, r = some v ∧ Q v s') E s := by
    unfold tryCompare callSpecialIfBound? bindSpecialIfBound?
    refine wpAny_bind (wpAny_holding (wpAny_bind (wpAny_bind (wpAny_bind (I.type.here ((PySem.W.looks_findIn X hne).here (wpAny_bind (wpAny_askSetting (wpAny_ite ?_)))))))))
    have ends : wpAny (model prog w) A (call (.builtin "object.__ne__") ([.ref x] ++ [b]) >>= fun v => pure (some v)) (fun r s' => wpAny (model prog w) A (match r with | some .notImplemented | none => pure none | some v => pure (some v)) (fun r s' => ∃ v, r = some v ∧ Q v s') E s') E s :=
      wpAny_bind (wpAny_mono called (fun v s' z => by obtain ⟨r, rfl, q⟩ := z; exact wpAny_pure (wpAny_pure ⟨_, rfl, q⟩)) fun _ _ e => e)
    split
    · exact wpAny_bind (wpAny_of_eq (F.cmp_object.ne.bind _) (wpAny_pure (by exact ends)))
    · exact wpAny_tryCatch (wpAny_bind (wpAny_of_eq (F.cmp_object.ne.bind _) (wpAny_pure (by exact ends))))
  have out : ∀ {β : Type} {k : Option Value → Sem β} {R : β → Shared → Prop}, (∀ v s', Q v s' → wpAny (model prog w) A (k (some v)) R E s') → wpAny (model prog w) A (tryCompare (.ref x) "__ne__" b >>= k) R E s := fun {β k R} g =>
    wpAny_bind (wpAny_mono tried (fun r s' z => by obtain ⟨v, rfl, q⟩ := z; exact g v s' q) fun _ _ e => e)
  unfold richCompare
  simp only [oneThing_ref]
  refine wpAny_holding (wpAny_bind (wpAny_cRoomFor (Nat.lt_of_succ_lt hu) (wpAny_bind (I.type.here (wpAny_bind (hb.here ?_))))))
  by_cases same : (Value.ref C != tb) = true
  · have sub : PySem.W.subIn K tb (.ref C) = some false := by
      unfold PySem.W.notFirst at hn
      rcases Bool.or_eq_true_iff.mp hn with z | z
      · rw [beq_iff_eq.mp z] at same; simp at same
      · exact beq_iff_eq.mp z
    rw [if_pos same]
    refine wpAny_bind ((PySem.W.looks_subIn X sub).here ?_)
    simp only [Bool.false_eq_true, if_false]
    exact out fun v s' q => wpAny_pure q
  · rw [if_neg same]
    refine wpAny_bind (wpAny_pure ?_)
    simp only [Bool.false_eq_true, if_false]
    exact out fun v s' q => wpAny_pure q
end
/-- a class with an own __eq__, no own __ne__ -/
structure EqF (P : Program) (w : World) (K : PySem.W.Frag) (mg : Str → Option Value) (base : Heap) (k : Nat) (C : Addr) (sp : Sp) : Prop where
  ex : ∃ (f : Addr) (fd : FuncData) (ps : List Str), FnOk P w K mg base CX0 k f fd ps sp ∧ PySem.W.findIn K (.ref C) "__eq__" = some (some (.ref f)) ∧ PySem.W.isFn K (.ref f) = true ∧ Binds K fd ps [] ∧
    PySem.W.findIn K (.ref C) "__ne__" = some (some (.builtin "object.__ne__")) ∧ PySem.W.mroIn K C (.type "object") = some true
/-- what stands at y: its type, as the library's words want it -/
def TyZ (X : Cx) (H : Hp) (y : V) (t : Value) : Prop := ∀ (pins : List (Addr × Obj)) (σ : L2.St) (s : Shared) (u : Value), Inv X pins σ H s → RelV y u → Looks (model X.prog X.w) s.heap (typeOf u) t
theorem tyz_of {X : Cx} {H : Hp} {y : V} {t : Value} (h : TyX X.K H y t) : TyZ X H y t := fun pins σ s u I r => by
  obtain ⟨P, Z, p, _⟩ := kit_of I r h
  exact Z.ty _ _ I.kIn p
/-- t comes not first: no own class under C -/
def rOwn (K : PySem.W.Frag) (C : Addr) (sp : Sp) (neg : Bool) : R2 := fun x y H Q => ∃ a dx fs t, x = .ref a ∧ H a = some (.ins C dx fs) ∧ TyX K H y t ∧ PySem.W.notFirst K C t = true ∧ sp [x, y] H (fun v H' => ∃ b, v = .bl b ∧ Q (.bl (if neg then !b else b)) H') E0
section
variable {X : Cx} {k j : Nat} {C : Addr} {sp : Sp}
theorem run_own {A : Around} (e : EqF X.prog X.w X.K X.mg X.base k C sp) {pins : List (Addr × Obj)} {σ : L2.St} {H : Hp} {s : Shared} {x y : V} {u v : Value} {R : V → Hp → Prop} (hr : Room k A) (he : Env0 X.prog X.w X.K X.mg X.base A X.stack s H) (I : Inv X pins σ H s) (rx : RelV x u) (ry : RelV y v)
    (h : sp [x, y] H R E0) : ∃ f, PySem.W.findIn X.K (.ref C) "__eq__" = some (some (.ref f)) ∧ PySem.W.isFn X.K (.ref f) = true ∧ wpAny (model X.prog X.w) A (call (.ref f) [u, v]) (fun z s' => ∃ z' H', Inv X pins σ H' s' ∧ RelV z' z ∧ R z' H') X.xe s := by
  obtain ⟨f, fd, ps, F, h1, h2, b, _, _⟩ := e.ex
  refine ⟨f, h1, h2, ?_⟩
  have r2 : Vals [x, y] [u, v] := .cons rx (.cons ry .nil)
  have hl := F.len _ _ _ _ h
  have bb := b s [u, v] I.kIn (by rw [List.append_nil]; exact hl)
  rw [List.append_nil] at bb
  refine wpAny_call (codeAny_mono (F.run A X.stack s H ⟨[u, v], []⟩ [u, v] [x, y] R E0 hr he bb r2 h) fun r s' q => ?_)
  rcases r with er | fl
  · exact (pass0 (X := X) pins σ H s er s' I q)
  · cases fl with
    | ret z =>
      obtain ⟨z', H', J, rz, q'⟩ := I.after q
      exact ⟨z', H', J, rz, q'⟩
    | next => exact q.elim
    | brk => exact q.elim
    | cont => exact q.elim
theorem op_ownEq (e : EqF X.prog X.w X.K X.mg X.base k C sp) (hr : Room j X.A) (hk : k ≤ j) : OpR X (compareOp .Eq) (rOwn X.K C sp false) := by
  intro pins s σ H x y v u Q I rx ry h
  obtain ⟨a, dx, fs, t, rfl, ha, ty, hn, hs⟩ := h
  obtain rfl : v = Value.ref a := rx
  obtain ⟨mA, O, _⟩ := ins_get I.hok ha
  obtain ⟨od, J, _⟩ := O.look
  obtain ⟨f, h1, h2, run⟩ := run_own e (hr.mono hk) I.env0 I (show RelV (V.ref a) (Value.ref a) from rfl) ry hs
  obtain ⟨m, hF⟩ := I.fr
  show wpAny _ _ (richCompare .Eq (.ref a) u) _ _ _
  refine PySem.W.cmp_K (op := .Eq) (tb := t) (hr.mono hk).units0 hF I.ok.mod.kin J (tyz_of ty pins σ s u I ry) hn h1 h2 (wpAny_mono run (fun z s' q => ?_) fun _ _ z => z)
  obtain ⟨z', H', J', rz, b, rfl, q⟩ := q
  cases rz
  exact ⟨.bl b, H', J', rfl, q⟩
theorem op_ownNe (e : EqF X.prog X.w X.K X.mg X.base k C sp) (hr : Room j X.A) (hk : k + 1 ≤ j) : OpR X (compareOp .NotEq) (rOwn X.K C sp true) := by
  intro pins s σ H x y v u Q I rx ry h
  obtain ⟨a, dx, fs, t, rfl, ha, ty, hn, hs⟩ := h
  obtain rfl : v = Value.ref a := rx
  obtain ⟨mA, O, _⟩ := ins_get I.hok ha
  obtain ⟨od, J, _⟩ := O.look
  have rm := hr.mono hk
  obtain ⟨f, h1, h2, run⟩ := run_own e rm.in1 I.env0.in1 I (show RelV (V.ref a) (Value.ref a) from rfl) ry hs
  obtain ⟨f', fd, ps, _, g1, g2, _, g3, g4⟩ := e.ex
  show wpAny _ _ (richCompare .NotEq (.ref a) u) _ _ _
  refine rich_ne (by have := rm.in1.units0; exact this) I.kIn J (tyz_of ty pins σ s u I ry) hn g4 g3 h1 h2 (wpAny_mono run (fun z s' q => ?_) fun _ _ z => z)
  obtain ⟨z', H', J', rz, b, rfl, q⟩ := q
  cases rz
  exact ⟨b, rfl, .bl (!b), H', J', rfl, q⟩
end
end Zx
end
section
set_option Elab.async false
set_option linter.all false
set_option maxRecDepth 100000
/-! An exception as a thing; == with any thing; isinstance(x, Table). -/
namespace Zx
open PySem PySem.Spec PyProof.Rows L2
open PySem.W (InstAt Looks)
/-- at a: an exception of the class at C, its dict at d -/
def exi (a C : Addr) (d : Option Addr) : HO := .ext fun h => ∃ o, h.get? a = some o ∧ o.cls = .ref C ∧ PySem.W.notCls o = true ∧ o.dict = d
theorem exi_ok {P : Program} {w : World} {H : Hp} {h : Heap} {a C : Addr} {d : Option Addr} {o : Obj} (e : h.get? a = some o) (h1 : o.cls = .ref C) (h2 : PySem.W.notCls o = true) (h3 : o.dict = d) : ObjOk P w H h a (exi a C d) :=
  ⟨⟨o, e, h1, h2, h3⟩, ⟨o, e⟩, fun x y p k => let ⟨o, e, r⟩ := p; ⟨o, k o e, r⟩⟩
theorem exi_at {X : Cx} {pins : List (Addr × Obj)} {σ : L2.St} {H : Hp} {s : Shared} {a C : Addr} {d : Option Addr} (I : Inv X pins σ H s) (h : H a = some (exi a C d)) (hd : d = none ∨ ∃ dd ps, d = some dd ∧ H dd = some (.xd ps)) : ∃ oe od, InstAt s.heap a oe C od := by
  obtain ⟨⟨o, e, h1, h2, h3⟩, _⟩ := (show ObjOk X.prog X.w H s.heap a (exi a C d) from I.hok a _ h)
  rcases hd with rfl | ⟨dd, ps, rfl, hp⟩
  · exact ⟨o, none, e, h1, h2, by rw [h3]; trivial⟩
  · obtain ⟨mA, hns, _⟩ := (show ObjOk X.prog X.w H s.heap dd (.xd ps) from I.hok dd _ hp)
    obtain ⟨od, ho, _⟩ := lookIn_ns hns
    exact ⟨o, some od, e, h1, h2, by rw [h3]; exact ho⟩
/-- an exception that is made, as a value -/
def tExV (tm : L2.St → Hp → XK → Prop) : TE := fun σ H Q => tm σ H fun cls d H' => ∃ C, cls = .ref C ∧ ∀ a, H' a = none → Q (.ref a) (upd H' a (exi a C d))
theorem pe_exV {X : Cx} {e : Expr} {tm : L2.St → Hp → XK → Prop} (h : PMk X e tm) : PE X e (tExV tm) := by
  refine ⟨fun pins s σ H Q I q => thn (h pins s σ H _ I q) fun u s' z => ?_⟩
  obtain ⟨a, oe, vs, sI, H', cls, d, rfl, J, k, free, at_, zc, dat, _, na, os, bare, _, C, rfl, q'⟩ := z
  have low : ∀ {b : Addr} {o : Obj}, sI.heap.get? b = some o → b ≠ a := fun {b o} z e => by rw [e, free] at z; cases z
  have hz : Zc (.ref C) d oe := zc
  have nc : PySem.W.notCls oe = true := by unfold PySem.W.notCls; rw [dat]
  refine ⟨.ref a, upd H' a (exi a C d), ?_, rfl, q' a na⟩
  obtain ⟨h2, g2, d2, t2, os2⟩ := s'
  refine J.call' (ch := []) os ⟨fun b o z _ _ _ => k b o z, fun b o z _ _ _ => ⟨o.slots, k b o z⟩, fun b o z n _ => by rw [upd_ne (low z)]; exact n, fun b o z _ => ⟨o, k b o z⟩, fun b xs z => by rw [upd_ne (ne_of_none z na)]; exact z, fun b o u z => by rw [upd_ne (ne_of_none z na)]; exact z,
    fun b ps z => ⟨#[], by rw [upd_ne (ne_of_none z na), Array.append_empty]; exact z⟩⟩ (fun b o z => ?_) bare fun b z => absurd z (by simp)
  by_cases e : b = a
  · subst e
    rw [upd_same] at z
    cases z
    exact exi_ok at_ hz.1 nc hz.2
  · rw [upd_ne e] at z
    exact (J.hok b o z).stay (fun c v _ y => k c v y) (fun c hc => by rw [upd_ne (ne_of_none hc na)]; exact hc) fun c xs hc => by rw [upd_ne (ne_of_none hc na)]; exact hc
/-- a thing, or an exception of the class at C -/
def TyE (K : PySem.W.Frag) (H : Hp) (y : V) (t : Value) : Prop := TyX K H y t ∨ ∃ a C d, y = .ref a ∧ t = .ref C ∧ ExcC K C ∧ H a = some (exi a C d) ∧ (d = none ∨ ∃ dd ps, d = some dd ∧ H dd = some (.xd ps))
theorem tye_ty {X : Cx} {H : Hp} {y : V} {t : Value} (h : TyE X.K H y t) : TyZ X H y t := by
  rcases h with h | ⟨a, C, d, rfl, rfl, _, ha, hd⟩
  · exact tyz_of h
  · intro pins σ s u I r
    cases (show u = Value.ref a from r)
    obtain ⟨oe, od, J⟩ := exi_at I ha hd
    exact J.type
def rIsiE (K : PySem.W.Frag) : List V → Hp → VK → Prop := fun xs H Q => ∃ (x c : V) (t u : Value) (b : Bool), xs = [x, c] ∧ ClsV c u ∧ TyE K H x t ∧ PySem.W.kitOne K t u = some b ∧ Q (.bl b) H
theorem call_isiE {X : Cx} : CallR X (.builtin "isinstance") (rIsiE X.K) := by
  intro pins s σ H xs us Q I r h
  obtain ⟨x, c, t, u, b, rfl, k, ty, e, q⟩ := h
  rcases ty with ty | ⟨a, C, d, rfl, rfl, E, ha, hd⟩
  · exact call_isi pins s σ H _ us Q I r ⟨x, c, t, u, b, rfl, k, ty, e, q⟩
  · obtain ⟨u1, u2, rfl, r1, r2⟩ : ∃ u1 u2, us = [u1, u2] ∧ RelV (.ref a) u1 ∧ RelV c u2 := by
      cases r with
      | cons ra rr => cases rr with
        | cons rb rc => cases rc; exact ⟨_, _, rfl, ra, rb⟩
    obtain rfl : u1 = Value.ref a := r1
    obtain rfl := k.eq r2
    obtain ⟨oe, od, J⟩ := exi_at I ha hd
    obtain ⟨cd, hc, _⟩ := PySem.W.any_some E.hd
    exact PySem.W.kia_one (PySem.W.kitx_exc (by rw [hc]; rfl) E.hg E.hk E.hs E.ha E.hn E.ht E.hm) I.kIn J e (fun z => nomatch z) fun tk => ⟨.bl b, H, I.kept (t' := tk) fun _ _ z => z, rfl, q⟩
def rOwnE (K : PySem.W.Frag) (C : Addr) (sp : Sp) (neg : Bool) : R2 := fun x y H Q => ∃ a dx fs t, x = .ref a ∧ H a = some (.ins C dx fs) ∧ TyE K H y t ∧ PySem.W.notFirst K C t = true ∧ sp [x, y] H (fun v H' => ∃ b, v = .bl b ∧ Q (.bl (if neg then !b else b)) H') E0
theorem op_eqE {X : Cx} {k j : Nat} {C : Addr} {sp : Sp} (e : EqF X.prog X.w X.K X.mg X.base k C sp) (hr : Room j X.A) (hk : k ≤ j) : OpR X (compareOp .Eq) (rOwnE X.K C sp false) := by
  intro pins s σ H x y v u Q I rx ry h
  obtain ⟨a, dx, fs, t, rfl, ha, ty, hn, hs⟩ := h
  obtain rfl : v = Value.ref a := rx
  obtain ⟨mA, O, _⟩ := ins_get I.hok ha
  obtain ⟨od, J, _⟩ := O.look
  obtain ⟨f, h1, h2, run⟩ := run_own e (hr.mono hk) I.env0 I (show RelV (V.ref a) (Value.ref a) from rfl) ry hs
  obtain ⟨m, hF⟩ := I.fr
  show wpAny _ _ (richCompare .Eq (.ref a) u) _ _ _
  refine PySem.W.cmp_K (op := .Eq) (tb := t) (hr.mono hk).units0 hF I.ok.mod.kin J (tye_ty ty pins σ s u I ry) hn h1 h2 (wpAny_mono run (fun z s' q => ?_) fun _ _ z => z)
  obtain ⟨z', H', J', rz, b, rfl, q⟩ := q
  cases rz
  exact ⟨.bl b, H', J', rfl, q⟩
end Zx
namespace Zq
open PySem PySem.Spec PyProof.Rows L2
open Rep (rep)
/-- an exception, by its class -/
structure Exi where
  cls : Addr
instance : Rep Exi where
  rep c F as v x := ∃ a d, v = .ref a ∧ F a = some (Zx.exi a x.cls d) ∧ (d = none ∨ ∃ dd ps, d = some dd ∧ F dd = some (.xd ps))
  ok _ _ := True
  mono := by
    rintro c F F' as as' v x e p ⟨a, d, rfl, h, q⟩
    exact ⟨a, d, rfl, e _ _ h, q.imp id fun ⟨dd, ps, h1, h2⟩ => ⟨dd, ps, h1, e _ _ h2⟩⟩
  cut := by rintro c F as v x k _ h; exact h
instance : Free Exi := ⟨fun _ _ => trivial⟩
instance {α β : Type} [Rep α] [Rep β] : Rep (α ⊕ β) where
  rep c F as v x := match x with
    | .inl y => rep c F as v y
    | .inr y => rep c F as v y
  ok x k := match x with
    | .inl y => Rep.ok y k
    | .inr y => Rep.ok y k
  mono := by
    rintro c F F' as as' v (y | y) e p h
    · exact Rep.mono (x := y) e p h
    · exact Rep.mono (x := y) e p h
  cut := by
    rintro c F as v (y | y) k hk h
    · exact Rep.cut (x := y) hk h
    · exact Rep.cut (x := y) hk h
instance {α β : Type} [Rep α] [Rep β] [Free α] [Free β] : Free (α ⊕ β) := ⟨fun x k => by cases x with | inl y => exact Free.ok y k | inr y => exact Free.ok y k⟩
/-- what isinstance(x, Table) asks -/
structure IsT (c : Cc) (B : Addr) : Prop where
  i : IsI c
  e : ExcC c.K B
  kn : PySem.W.kitOne c.K (.type "NoneType") (.ref (c.cls "Table")) = some false
  kb : PySem.W.kitOne c.K (.type "bool") (.ref (c.cls "Table")) = some false
  ki : PySem.W.kitOne c.K (.type "int") (.ref (c.cls "Table")) = some false
  ks : PySem.W.kitOne c.K (.type "str") (.ref (c.cls "Table")) = some false
  kt : PySem.W.kitOne c.K (.type "tuple") (.ref (c.cls "Table")) = some false
  kl : PySem.W.kitOne c.K (.type "list") (.ref (c.cls "Table")) = some false
  kd : PySem.W.kitOne c.K (.type "dict") (.ref (c.cls "Table")) = some false
  ke : PySem.W.kitOne c.K (.ref B) (.ref (c.cls "Table")) = some false
  ne : PySem.W.subIn c.K (.ref B) (.ref (c.cls "Table")) = some false
abbrev Tz := Th ⊕ Exi
def Tz.isTab : Tz → Bool
  | .inl (.tab _) => true
  | _ => false
def Tz.ty (c : Cc) : Tz → Value
  | .inl x => x.ty c
  | .inr x => .ref x.cls
theorem sub_ty {K : PySem.W.Frag} {C : Addr} {T : String} {l : List Value} (e : fastBuiltinMro T = some l) (h : l.contains (.ref C) = false) : PySem.W.subIn K (.type T) (.ref C) = some false := by
  show (fastBuiltinMro T).map (·.contains (.ref C)) = some false
  rw [e]
  show some (l.contains (.ref C)) = _
  rw [h]
section
variable {c : Cc} {M : Mem} {P : Dy → Mem → Prop} {B : Addr}
theorem Tz.tyE (I : IsT c B) {F H : Hp} {as : List Addr} {v : V} (e : Ex F H) : ∀ {x : Tz}, (∀ y, x = .inr y → y.cls = B) → rep c F as v x → Zx.TyE c.K H v (x.ty c)
  | .inl y, _, h => .inl (Th.tyX I.i e (x := y) h)
  | .inr y, hb, h => by
    obtain ⟨a, d, rfl, h1, h2⟩ := h
    have := hb y rfl
    refine .inr ⟨a, y.cls, d, rfl, rfl, this ▸ I.e, e _ _ h1, h2.imp id fun ⟨dd, ps, q1, q2⟩ => ⟨dd, ps, q1, e _ _ q2⟩⟩
theorem rc_isTab (I : IsT c B) {x : Tz} (hb : ∀ y, x = .inr y → y.cls = B) (p : P (dy x.isTab) M) : RC c (Zx.rIsiE c.K) [dy x, dRef (c.cls "Table")] M P := rc_pure (fun as w vs Q m r k => by
  obtain ⟨v, u, rfl, r1, r2⟩ := RepDs.two_inv r
  obtain rfl : u = .ref (c.cls "Table") := r2
  refine ⟨v, _, x.ty c, .ref (c.cls "Table"), x.isTab, rfl, .own _, Tz.tyE I m.ex hb r1, ?_, k _ rfl⟩
  rcases x with x | y
  · cases x with
    | non => exact I.kn
    | bl b => exact I.kb
    | int i => exact I.ki
    | str z => exact I.ks
    | tup l => exact I.kt
    | lst l => exact I.kl
    | dic => exact I.kd
    | tab t => show PySem.W.kitOne c.K (.ref (c.cls "Table")) _ = some true; unfold PySem.W.kitOne; rw [if_pos (beq_self_eq_true _)]
  · show PySem.W.kitOne c.K (.ref y.cls) _ = some false
    rw [hb y rfl]; exact I.ke) p
theorem notFirst_of (I : IsT c B) {x : Tz} (hb : ∀ y, x = .inr y → y.cls = B) : PySem.W.notFirst c.K (c.cls "Table") (x.ty c) = true := by
  have low : ∀ {T : String} {l : List Value}, fastBuiltinMro T = some l → l.contains (.ref (c.cls "Table")) = false → PySem.W.notFirst c.K (c.cls "Table") (.type T) = true := fun {T l} e h => by
    unfold PySem.W.notFirst
    rw [sub_ty e h]
    simp
  rcases x with x | y
  · cases x with
    | non => exact low (show fastBuiltinMro "NoneType" = some [.type "NoneType", .type "object"] by decide +kernel) (by simp)
    | bl b => exact low (show fastBuiltinMro "bool" = some [.type "bool", .type "int", .type "object"] by decide +kernel) (by simp)
    | int i => exact low (show fastBuiltinMro "int" = some [.type "int", .type "object"] by decide +kernel) (by simp)
    | str z => exact low (show fastBuiltinMro "str" = some [.type "str", .type "object"] by decide +kernel) (by simp)
    | tup l => exact low (show fastBuiltinMro "tuple" = some [.type "tuple", .type "object"] by decide +kernel) (by simp)
    | lst l => exact low (show fastBuiltinMro "list" = some [.type "list", .type "object"] by decide +kernel) (by simp)
    | dic => exact low (show fastBuiltinMro "dict" = some [.type "dict", .type "object"] by decide +kernel) (by simp)
    | tab t => unfold PySem.W.notFirst; show (Value.ref (c.cls "Table") == Value.ref (c.cls "Table") || _) = true; rw [beq_self_eq_true]; rfl
  · unfold PySem.W.notFirst
    show (Value.ref y.cls == _ || PySem.W.subIn c.K (.ref y.cls) _ == some false) = true
    rw [hb y rfl, I.ne]
    simp
/-- t == x, by the own __eq__ that keeps S -/
theorem rr_eqT {S : ASp} {t : Tab} {x : Tz} (I : IsT c B) (hb : ∀ y, x = .inr y → y.cls = B) (h : S [dy t, dy x] [] (As Bool fun b _ => P (dy b) M)) : RR c (Zx.rOwnE c.K (c.cls "Table") (spOf c 2 0 S) false) (dy t) (dy x) M P := fun as w v u Q m r1 r2 q => by
  obtain ⟨a, dx, ps, uu, rfl, ha, hps⟩ := id r1
  refine ⟨a, dx, ps, x.ty c, rfl, m.ex _ _ ha, Tz.tyE I m.ex hb r2, notFirst_of I hb, [], w.F, [dy t, dy x], [], _, rfl, rfl, ?_, .cons (Rep.cut (x := t) (k := 0) (Free.ok t 0) r1) (.cons (by have := Rep.cut (x := x) (k := 0) (Free.ok x 0) r2; exact this) .nil), h, fun z w' d M' st mm rz p => ?_⟩
  · exact m.take 0 trivial
  · obtain ⟨b, rfl, p⟩ := p
    obtain rfl : z = .bl b := rz
    obtain ⟨st3, mm3⟩ := call_frame (k := 0) (w2 := w') (M2 := M') m (Nat.zero_le _) (by rw [List.take_zero]; exact st) (by rw [List.take_zero]; exact mm)
    have hM : M' = [] := List.length_eq_zero_iff.mp (by rw [mm.len]; rfl)
    subst hM
    exact ⟨b, rfl, q (.bl b) as w' (dy b) M st3 (by simpa using mm3) rfl p⟩
theorem rr_neT {S : ASp} {t : Tab} {x : Th} (I : IsI c) (hf : PySem.W.notFirst c.K (c.cls "Table") (x.ty c) = true) (h : S [dy t, dy x] [] (As Bool fun b _ => P (dy (!b)) M)) : RR c (Zx.rOwn c.K (c.cls "Table") (spOf c 2 0 S) true) (dy t) (dy x) M P := fun as w v u Q m r1 r2 q => by
  obtain ⟨a, dx, ps, uu, rfl, ha, hps⟩ := id r1
  refine ⟨a, dx, ps, x.ty c, rfl, m.ex _ _ ha, Th.tyX I m.ex r2, hf, [], w.F, [dy t, dy x], [], _, rfl, rfl, ?_, .cons (Rep.cut (x := t) (k := 0) (Free.ok t 0) r1) (.cons (by have := Rep.cut (x := x) (k := 0) (Free.ok x 0) r2; exact this) .nil), h, fun z w' d M' st mm rz p => ?_⟩
  · exact m.take 0 trivial
  · obtain ⟨b, rfl, p⟩ := p
    obtain rfl : z = .bl b := rz
    obtain ⟨st3, mm3⟩ := call_frame (k := 0) (w2 := w') (M2 := M') m (Nat.zero_le _) (by rw [List.take_zero]; exact st) (by rw [List.take_zero]; exact mm)
    have hM : M' = [] := List.length_eq_zero_iff.mp (by rw [mm.len]; rfl)
    subst hM
    exact ⟨b, rfl, q (.bl (!b)) as w' (dy (!b)) M st3 (by simpa using mm3) rfl p⟩
/-- an exception made, as a thing -/
theorem we_exV {tm : L2.St → Hp → XK → Prop} {env : Env'} {C : Addr} (h : WMk c tm env M fun x m => x.cls = C ∧ P (dy (Exi.mk C)) m) : WE c (Zx.tExV tm) env M P := fun as σ w Q s q =>
  h as σ w _ s fun x cls d as' w' M' st mm r p => by
    obtain ⟨rfl, p⟩ := p
    refine ⟨x.cls, r.1, fun a ha => ?_⟩
    obtain ⟨F, H⟩ := w'
    obtain ⟨st2, mm2⟩ := MemOk.new (o := Zx.exi a x.cls d) mm ha
    refine q (.ref a) as' _ (dy (Exi.mk x.cls)) M' (st.trans st2) mm2 ⟨a, d, rfl, upd_same, ?_⟩ p
    rcases r.2 with ⟨_, e⟩ | ⟨dd, ps, e, h4, _⟩
    · exact .inl e
    · exact .inr ⟨dd, ps, e, st2.ex _ _ h4⟩
end
end Zq
end
section
set_option Elab.async false
set_option linter.all false
set_option maxRecDepth 100000
/-! x < y of kinds; a class whose __init__ may raise, where it doesn't. -/
namespace Zr
open PySem PySem.Spec PyProof.Rows L2
theorem lexAt_lt : ∀ ns ms : List Int, Ob.lexAt (fun j => decide (ns.getD j 0 = ms.getD j 0)) (fun j => decide (ns.getD j 0 < ms.getD j 0)) (decide (ns.length < ms.length)) 0 (min ns.length ms.length) = HT.lexLt ns ms
  | [], [] => rfl
  | [], m :: ms => by
    have : min ([] : List Int).length (m :: ms).length = 0 := by simp
    rw [this, Ob.lexAt_zero]
    simp [HT.lexLt]
  | n :: ns, [] => by
    have : min (n :: ns).length ([] : List Int).length = 0 := by simp
    rw [this, Ob.lexAt_zero]
    simp [HT.lexLt]
  | n :: ns, m :: ms => by
    have e0 : min (n :: ns).length (m :: ms).length = min ns.length ms.length + 1 := by
      simp only [List.length_cons]; omega
    rw [e0, Ob.lexAt_succ, lexAt_up]
    have ih := lexAt_lt ns ms
    have e1 : HT.lexLt (n :: ns) (m :: ms) = (if n = m then HT.lexLt ns ms else decide (n < m)) := rfl
    rw [e1]
    by_cases h : n = m
    · subst h
      have q : (fun j => decide ((n :: ns).getD j 0 = (n :: ms).getD j 0)) 0 = true := by simp
      rw [if_pos q, if_pos rfl, ← ih]
      have s : decide ((n :: ns).length < (n :: ms).length) = decide (ns.length < ms.length) := by
        simp only [List.length_cons, Nat.add_lt_add_iff_right]
      rw [s]
      rfl
    · have q : ¬ ((fun j => decide ((n :: ns).getD j 0 = (m :: ms).getD j 0)) 0 = true) := by simp [h]
      rw [if_neg q, if_neg h]
      rfl
section
variable {A : Around} {s : Shared}
theorem lt_tupInts {b b' : Addr} {its its' : Array Value} {r r' : List Int} (h1 : s.heap.IsTuple b its) (h2 : s.heap.IsTuple b' its') (i1 : IntsAre its.toList r) (i2 : IntsAre its'.toList r') (hu : A.units < cLine) :
    Ob.RcOp .Lt A s (.ref b) (.ref b') (HT.lexLt r r') := by
  have s1 : its.size = r.length := by rw [← Array.length_toList]; exact i1.length
  have s2 : its'.size = r'.length := by rw [← Array.length_toList]; exact i2.length
  have g1 : ∀ j (h : j < its.size), ∃ t, its[j] = .int (r.getD j 0) t := fun j h => PyProof.Rows.IntsAre.int_at i1 _ _ (by rw [Array.getElem?_toList]; exact Array.getElem?_eq_getElem h)
  have g2 : ∀ j (h : j < its'.size), ∃ t, its'[j] = .int (r'.getD j 0) t := fun j h => PyProof.Rows.IntsAre.int_at i2 _ _ (by rw [Array.getElem?_toList]; exact Array.getElem?_eq_getElem h)
  have R := Ob.RcOp.tuples_lt (A := A) (s := s) (e := fun j => decide (r.getD j 0 = r'.getD j 0)) (r := fun j => decide (r.getD j 0 < r'.getD j 0)) h1 h2 hu (fun j k1 k2 => by
    obtain ⟨t, e1⟩ := g1 j k1
    obtain ⟨t', e2⟩ := g2 j k2
    rw [e1, e2]
    have z : (r.getD j 0 == r'.getD j 0) = decide (r.getD j 0 = r'.getD j 0) := by
      by_cases q : r.getD j 0 = r'.getD j 0
      · rw [decide_eq_true q]; exact beq_iff_eq.mpr q
      · rw [decide_eq_false q]; exact beq_eq_false_iff_ne.mpr q
    show SeqAt.EqAt _ _ _ _ (decide (r.getD j 0 = r'.getD j 0))
    rw [← z]
    exact SeqAt.EqAt.int_int _ _ _ _) (fun j k1 k2 _ => by
    obtain ⟨t, e1⟩ := g1 j k1
    obtain ⟨t', e2⟩ := g2 j k2
    rw [e1, e2]
    exact Ob.RcOp.lt_int _ _ _ _)
  rw [s1, s2, lexAt_lt] at R
  exact R
end
section
variable {X : Cx}
/-- x < y, kinds -/
def rLtK (K : PySem.W.Frag) : R2 := fun x y H Q => ∃ k l, KdAt K H x k ∧ KdAt K H y l ∧ Q (.bl (klt k l)) H
theorem op_ltK (hu : X.A.units + 8 < cLine) : OpR X (compareOp .Lt) (rLtK X.K) := by
  intro pins s σ H x y v u Q I rx ry h
  obtain ⟨k, l, hk, hl, q⟩ := h
  obtain ⟨a, b, t, its, rfl, p1, p2, i1⟩ := (hk.is I rx).at_
  obtain ⟨a', b', t', its', rfl, p1', p2', i1'⟩ := (hl.is I ry).at_
  have R := Ob.RcOp.tuples_lt (A := X.A) (s := s) (e := fun j => if j = 0 then decide (k.1 = l.1) else decide (k.2 = l.2)) (r := fun j => if j = 0 then decide (k.1 < l.1) else HT.lexLt k.2 l.2) p1 p1' (by omega) (fun j h1 h2 => by
    have hj : j < 2 := h1
    have : j = 0 ∨ j = 1 := by omega
    rcases this with rfl | rfl
    · show SeqAt.EqAt _ _ (.int k.1 t) (.int l.1 t') (decide (k.1 = l.1))
      have z : (k.1 == l.1) = decide (k.1 = l.1) := by
        by_cases q : k.1 = l.1
        · rw [decide_eq_true q]; exact beq_iff_eq.mpr q
        · rw [decide_eq_false q]; exact beq_eq_false_iff_ne.mpr q
      rw [← z]
      exact SeqAt.EqAt.int_int _ _ _ _
    · show SeqAt.EqAt _ _ (.ref b) (.ref b') (decide (k.2 = l.2))
      exact ints_eqAt p2 p2' i1 i1' (by show X.A.units + 1 + 4 < cLine; omega)) (fun j h1 h2 _ => by
    have hj : j < 2 := h1
    have : j = 0 ∨ j = 1 := by omega
    rcases this with rfl | rfl
    · exact Ob.RcOp.lt_int _ _ _ _
    · exact lt_tupInts p2 p2' i1 i1' (by show X.A.units + 1 < cLine; omega))
  have e : Ob.lexAt (fun j => if j = 0 then decide (k.1 = l.1) else decide (k.2 = l.2)) (fun j => if j = 0 then decide (k.1 < l.1) else HT.lexLt k.2 l.2) (decide (2 < 2)) 0 2 = klt k l := by
    rw [Ob.lexAt_succ, Ob.lexAt_succ, Ob.lexAt_zero]
    unfold klt
    by_cases h1 : k.1 = l.1
    · rw [if_pos (show (if (0 : Nat) = 0 then decide (k.1 = l.1) else decide (k.2 = l.2)) = true by simp [h1]), if_pos h1]
      by_cases h2 : k.2 = l.2
      · rw [if_pos (show (if (0 + 1 : Nat) = 0 then decide (k.1 = l.1) else decide (k.2 = l.2)) = true by simp [h2]), h2, lex_irr]
        rfl
      · rw [if_neg (show ¬ ((if (0 + 1 : Nat) = 0 then decide (k.1 = l.1) else decide (k.2 = l.2)) = true) by simp [h2])]
        rfl
    · rw [if_neg (show ¬ ((if (0 : Nat) = 0 then decide (k.1 = l.1) else decide (k.2 = l.2)) = true) by simp [h1]), if_neg h1]
      rfl
  have R2 := R X.prog X.w X.xe (EP X pins σ Q)
  have e' : Ob.lexAt (fun j => if j = 0 then decide (k.1 = l.1) else decide (k.2 = l.2)) (fun j => if j = 0 then decide (k.1 < l.1) else HT.lexLt k.2 l.2) (decide (#[Value.int k.1 t, Value.ref b].size < #[Value.int l.1 t', Value.ref b'].size)) 0 (min #[Value.int k.1 t, Value.ref b].size #[Value.int l.1 t', Value.ref b'].size) = klt k l := e
  rw [e'] at R2
  exact R2 ⟨.bl _, H, I, rfl, q⟩
end
end Zr
namespace Zq
open PySem PySem.Spec PyProof.Rows L2
open Rep (rep)
section
variable {c : Cc} {env : Env'} {M : Mem} {P : Dy → Mem → Prop} {k : Nat}
theorem rr_ltK {x y : Kind} (p : P (dy (kbef x y)) M) : RR c (Zr.rLtK c.K) (dy x) (dy y) M P :=
  rr_pure (fun as W v w Q m r1 r2 k => ⟨kd x, kd y, KdAt.mono m.ex (rep_kd r1), KdAt.mono m.ex (rep_kd r2), k _ rfl⟩) p
theorem calmX {Pr : Program} {w : World} {mg : Str → Option Value} {base : Heap} {n j : Nat} {f : Addr} {fd : FuncData} {ps : List Str} {S : ASpX} (h : FnOk Pr w c.K mg base (L2.CX Pr w) k f fd ps (spOfX c n j S)) :
    FnOk Pr w c.K mg base CX0 k f fd ps (spOf c n j fun ds M P => S ds M P fun _ _ => False) := by
  have to : ∀ {vs : List V} {H : Hp} {Q : VK} {E : XK}, spOf c n j (fun ds M P => S ds M P fun _ _ => False) vs H Q E → spOfX c n j S vs H Q E0 := by
    rintro vs H Q E ⟨as, F, ds, M, P, h1, h2, h3, h4, h5, h6⟩
    exact ⟨as, F, ds, M, P, fun _ _ => False, h1, h2, h3, h4, h5, h6, fun _ _ _ _ _ _ _ _ z => z.elim⟩
  refine ⟨fun vs H Q E q => h.len vs H Q E0 (to q), fun A outer s H args us vs Q E r e b v q => codeAny_mono (h.run A outer s H args us vs Q E0 r e b v (to q)) fun r s' z => ?_⟩
  cases r with
  | ok fl => cases fl with
    | ret u => exact z
    | next => exact z.elim
    | brk => exact z.elim
    | cont => exact z.elim
  | error er => obtain ⟨_, _, _, _, _, _, _, _, _, _, _, _, z⟩ := z; exact z.elim
end
theorem wsx_next {c : Cc} {k : Nat} {W : WX} {env : Env'} {M : Mem} {nx : Env' → Mem → Prop} {rt : Dy → Mem → Prop} {px : Exn → Env' → Mem → Prop} (p : nx env M) : WSX c k W tNext env M nx rt px := wsx_of (ws_next p)
end Zq
namespace Zq
open PySem PySem.Spec PyProof.Rows L2
open Rep (rep)
/-- "cells" or "kinds" -/
inductive Prt where
  | cells
  | kinds
deriving DecidableEq
def Prt.s : Prt → Str
  | .cells => "cells"
  | .kinds => "kinds"
instance : Rep Prt where
  rep c F as v x := v = .str x.s
  ok _ _ := True
  mono := fun _ _ h => h
  cut := fun _ h => h
instance : Free Prt := ⟨fun _ _ => trivial⟩
instance : Some1 Prt := ⟨fun {c F as v x} h e => by
  have h : v = .str x.s := h
  rw [e] at h; cases h⟩
theorem prt_cells : dy ("cells" : Str) = dy Prt.cells := rfl
theorem prt_kinds : dy ("kinds" : Str) = dy Prt.kinds := rfl
instance : Dt Unit := ⟨fun _ => PyData.none, fun h => by rw [show _ = V.non from h]; exact .non, fun x => by simp [PyData.canLay0], 1, by decide, fun x => by simp [PyData.depth], fun x y => by simp [PyData.eqv]⟩
instance : Dt Prt := ⟨fun x => .str x.s, fun {c F as v x} h => by rw [show v = V.str x.s from h]; exact .str _, fun x => by cases x <;> decide +kernel, 1, by decide, fun x => by simp [PyData.depth], fun x y => by
  cases x <;> cases y <;> simp [PyData.eqv, Prt.s] <;> decide +kernel⟩
instance : Lt64 (Dt.dep (α := Prt)) := ⟨by show 1 < 64; decide⟩
instance : Lt64 (Dt.dep (α := Int)) := ⟨by show 1 < 64; decide⟩
instance dtPrt : Dt (Prt × Int) := instDtP
end Zq
namespace Zq
open PySem PySem.Spec PyProof.Rows L2
open Rep (rep)
/-- a, a + 1, .. below n -/
def fromTo (a n : Int) : List Int := (upto (n - a).toNat).map fun i => a + i
theorem wi_range2 {c : Cc} {env : Env'} {M : Mem} {Q : List Dy → Mem → Prop} {ta : TA} (h : WA c ta env M fun ds m => ∃ a n : Int, ds = [dy a, dy n] ∧ 0 ≤ a ∧ a ≤ 100000 ∧ -100000 ≤ n ∧ n ≤ 100000 ∧ Q ((fromTo a n).map dy) m) : WI c (iRng2 ta) env M Q := fun as σ w R s q =>
  h as σ w _ s fun vs as1 w1 ds m st mm r p => by
    obtain ⟨a, n, rfl, h0, h1, h2, h3, p⟩ := p
    obtain ⟨v, u, rfl, rv, ru⟩ := RepDs.two_inv r
    obtain rfl : v = .int a := rv
    obtain rfl : u = .int n := ru
    have len : ((fromTo a n).map (dy (α := Int))).length = (n - a).toNat := by unfold fromTo; rw [List.length_map, List.length_map, upto_len]
    refine ⟨a, n, rfl, ⟨by omega, by omega, by omega, by omega⟩, q _ as1 w1 _ m st mm ⟨fun i as' w' M' st m h => ?_, fun i as' w' M' st m h => ?_, fun i as' w' x v H2 M' st m h hy => ?_⟩ p⟩
    · rw [len] at h; exact h
    · rw [len] at h; exact Nat.le_of_eq h.symm
    · obtain ⟨rfl, rfl⟩ := hy
      refine ⟨w'.F, .refl _ _, m, ?_⟩
      unfold fromTo upto at h
      rw [List.map_map, List.map_map, List.getElem?_map] at h
      cases e : (List.range (n - a).toNat)[i]? with
      | none => rw [e] at h; cases h
      | some j =>
        rw [e] at h
        cases h
        have : j = i := by
          obtain ⟨h1, h2⟩ := List.getElem?_eq_some_iff.mp e
          rw [List.getElem_range] at h2; exact h2.symm
        subst this
        rfl
theorem prt_kinds2 (i : Int) : dy (("kinds" : Str), i) = dy (Prt.kinds, i) := rfl
theorem prt_cells2 (i : Int) : dy (("cells" : Str), i) = dy (Prt.cells, i) := rfl
theorem dy_inl {α β : Type} [Rep α] [Rep β] (x : α) : dy (Sum.inl x : α ⊕ β) = dy x := rfl
theorem dy_inr {α β : Type} [Rep α] [Rep β] (x : β) : dy (Sum.inr x : α ⊕ β) = dy x := rfl
theorem WA.mono {c : Cc} {env : Env'} {M : Mem} {t : TA} {P Q : List Dy → Mem → Prop} (h : WA c t env M P) (k : ∀ x m, P x m → Q x m) : WA c t env M Q := fun as σ H R s q => h as σ H R s fun v as' H' x M' st m r p => q v as' H' x M' st m r (k _ _ p)
/-- BadTable(part, at) -/
def badX (c : Cc) (p : Prt × Int) : Exn := ⟨c.cls "BadTable", [("at", dy p.2), ("part", dy p.1)]⟩
theorem badX_ok (c : Cc) (p : Prt × Int) (k : Nat) : (badX c p).ok k := by
  intro f y h
  unfold badX at h
  simp only [List.lookup] at h
  split at h
  · cases h; trivial
  · split at h
    · cases h; trivial
    · cases h
theorem wmk_bad {c : Cc} {env : Env'} {M : Mem} {PE : Exn → Mem → Prop} {t : TA} (p : Prt) (T : OexC c.K (c.cls "BadTable")) (h1 : PySem.W.findIn c.K (.ref (c.cls "BadTable")) "part" = some none) (h2 : PySem.W.findIn c.K (.ref (c.cls "BadTable")) "at" = some none)
    (h : WA c t env M fun ds m => ∃ i : Int, ds = [dy p.s, dy i] ∧ PE (badX c (p, i)) m) : WMk c (tMkO (c.cls "BadTable") (spFl c.K ["part", "at"]) [] t) env M PE := by
  have no : ∀ f, f ∈ (["part", "at"] : List Str) → PySem.W.findIn c.K (.ref (c.cls "BadTable")) f = some none := fun f hf => by
    simp only [List.mem_cons, List.not_mem_nil, or_false] at hf
    rcases hf with rfl | rfl
    · exact h1
    · exact h2
  exact wmk_fields T no (WA.mono h fun ds m ⟨i, e, q⟩ => by subst e; exact ⟨rfl, by decide, q⟩)
end Zq
end
section
set_option Elab.async false
set_option linter.all false
set_option maxRecDepth 100000
/-! A list that nobody changes any more, from here to the def's end. -/
namespace Zq
open PySem PySem.Spec PyProof.Rows L2
open Rep (rep)
section
variable {c : Cc} {env : Env'} {M : Mem} {α : Type} [Rep α] [Free α] {k : Nat} {rt : Dy → Mem → Prop}
theorem ws_frz {ts : TS} {i : Nat} {xs : List α} (hk : k ≤ M.length) (om : okM M.length M) (hi : env[i]? = some (some (dy (MR.mk M.length)))) (oe : ∀ j d, j ≠ i → env[j]? = some (some d) → d.ok M.length)
    (h : WS c k ts (env.set i (some (dy xs))) M (fun _ _ => False) rt) : WS c k ts env (M ++ [cLst xs]) (fun _ _ => False) rt := fun as σ w D s q1 q2 => by
  have hl : as.length = M.length + 1 := by rw [← s.me.len, List.length_append]; rfl
  obtain ⟨a, ha⟩ : ∃ a, as[M.length]? = some a := ⟨as[M.length]'(by omega), List.getElem?_eq_getElem (by omega)⟩
  have hcell : (M ++ [cLst xs])[M.length]? = some (cLst xs) := by rw [List.getElem?_append_right (Nat.le_refl _), Nat.sub_self]; rfl
  obtain ⟨a', o, ha', ho, hc⟩ := s.me.at_ _ _ hcell
  rw [ha] at ha'; cases ha'
  have hd : w.F a = none := s.me.dis a (List.mem_of_getElem? ha)
  have spl : as.take M.length ++ [a] = as := by
    have e1 : as.take (M.length + 1) = as.take M.length ++ [a] := by rw [List.take_add_one, ha]; rfl
    rw [← e1, ← hl, List.take_length]
  obtain ⟨F, H⟩ := w
  have ex : Ex F (upd F a o) := Evl.Ex.new hd
  have exH : Ex (upd F a o) H := fun b u hb => by
    by_cases e : b = a
    · subst e; rw [upd_same] at hb; cases hb; exact ho
    · rw [upd_ne e] at hb; exact s.me.ex b u hb
  have nd := s.me.nd
  rw [← spl, List.nodup_append] at nd
  have mt : MemOk c (as.take M.length) ⟨F, H⟩ M := by
    have := s.me.take M.length (by rw [List.take_left]; exact om)
    rwa [List.take_left] at this
  have s2 : Sta c (env.set i (some (dy xs))) M (as.take M.length) σ ⟨upd F a o, H⟩ := by
    refine ⟨⟨by rw [List.length_set]; exact s.sl.len, fun j d hj => ?_⟩, mt.nd, mt.len, exH, fun b hb => ?_, fun j d hj => ?_⟩
    · rw [List.getElem?_set] at hj
      by_cases e : i = j
      · subst e
        rw [if_pos rfl] at hj
        split at hj
        · cases hj
          obtain ⟨v, hv, r⟩ := s.sl.at_ i _ hi
          obtain ⟨b, hb, rfl⟩ := r
          rw [show (MR.mk M.length).k = M.length from rfl, ha] at hb; cases hb
          obtain ⟨vs, rfl, hr⟩ := hc
          exact ⟨.ref a, hv, a, vs, rfl, sql_of upd_same, (RepL.cut (Free.l M.length xs) hr).mono ex (List.prefix_refl _)⟩
        · cases hj
      · rw [if_neg e] at hj
        obtain ⟨v, hv, r⟩ := s.sl.at_ j d hj
        exact ⟨v, hv, d.mono ex (List.prefix_refl _) (d.cut (oe j d (fun z => e z.symm) hj) r)⟩
    · show upd F a o b = none
      rw [upd_ne (fun z => nd.2.2 b hb a (by simp) z)]
      exact mt.dis b hb
    · obtain ⟨b, o', h1, h2, h3⟩ := mt.at_ j d hj
      exact ⟨b, o', h1, h2, d.mono ex (List.prefix_refl _) h3⟩
  refine h _ σ ⟨upd F a o, H⟩ D s2 (fun _ _ _ _ _ _ _ f => f.elim) fun v as' w' x M' st mm r p => ?_
  have tk : as'.take k = as.take k := by
    obtain ⟨t, rfl⟩ := st.pre
    rw [List.take_append_of_le_length (by rw [List.length_take]; omega), List.take_take, Nat.min_eq_left hk]
  refine q2 v as w' x M' ⟨List.prefix_refl _, ex.trans st.ex, fun b h1 h2 => ?_, fun b h1 h2 => absurd h1 h2, fun b u hb hn => st.keep b u hb (fun z => hn (List.mem_of_mem_take z)), st.dom⟩ (tk ▸ mm) (tk ▸ r) p
  by_cases e : b = a
  · right; rw [e]; exact List.mem_of_getElem? ha
  · rcases st.fr b (by show upd F a o b = none; rw [upd_ne e]; exact h1) h2 with z | z
    · exact .inl z
    · exact .inr (List.mem_of_mem_take z)
instance : IsTh Prt := ⟨fun x => .str x.s, fun x => th_str x.s⟩
theorem rc_noneStr {P : Dy → Mem → Prop} (I : IsI c) (p : P (dy false) M) : RC c (rIsi c.K) [dy (), dy (PyTy.mk "str")] M P := by
  rw [← th_non]; exact rc_isStr I p
theorem rc_toStr {β : Type} [Rep β] [IsTh β] {x : β} {P : Dy → Mem → Prop} (I : IsI c) (p : P (dy (IsTh.to x).isStr) M) : RC c (rIsi c.K) [dy x, dy (PyTy.mk "str")] M P := by
  rw [← IsTh.eq x]; exact rc_isStr I p
end
instance : Lt64 (Dt.dep (α := Tp Kind)) := ⟨by decide⟩
instance dtParts : Dt (Int × Tp Kind) := instDtP
end Zq
end
section
set_option Elab.async false
set_option linter.all false
set_option maxRecDepth 100000
namespace K01
open PySem PySem.Spec PyProof.Rows L2 Zq
def top (i : Nat) : Stmt := PySem.Challenge.pw_laidplates_k01_tables_journals_plates_ju.main.body.getD i (.Pass ⟨0, 0, 0, 0⟩)
abbrev s_is_integer : Stmt := top 5
abbrev s_is_number_below : Stmt := top 6
abbrev s_is_lot : Stmt := top 7
abbrev s_is_lot_of_cells : Stmt := top 8
abbrev s_is_kind : Stmt := top 15
abbrev s_is_journal : Stmt := top 16
abbrev s_check_journal : Stmt := top 17
abbrev s_is_plates : Stmt := top 18
abbrev s_is_version : Stmt := top 19
abbrev s__law_hand : Stmt := top 21
abbrev s__law_draw : Stmt := top 22
abbrev s__law_any : Stmt := top 23
abbrev s__law_is_int : Stmt := top 24
abbrev s__law_flag : Stmt := top 25
abbrev s__law_kinds : Stmt := top 28
abbrev s__law_history : Stmt := top 29
abbrev s__law_table : Stmt := top 30
abbrev s__law_journal : Stmt := top 31
abbrev s__law_versions : Stmt := top 32
abbrev s__law_deep : Stmt := top 26
abbrev s__law_odd : Stmt := top 27
abbrev s__law_is_lot : Stmt := top 33
abbrev s__law_is_kind : Stmt := top 34
abbrev s__law_due : Stmt := top 35
abbrev s__law_told : Stmt := top 36
abbrev s__law_bent : Stmt := top 37
abbrev s__law_great_right : Stmt := top 38
abbrev s__law_journals_right : Stmt := top 39
abbrev s_law : Stmt := top 40
abbrev s_Table_init : Stmt := inClass (top 14) 0
abbrev s_Table_eq : Stmt := inClass (top 14) 1
abbrev s_BadTable_init : Stmt := inClass (top 2) 0
structure Tb (mg : Str → Option Value) : Prop where
  b_ValueError : mg "ValueError" = none
  b_abs : mg "abs" = none
  b_all : mg "all" = none
  b_any : mg "any" = none
  b_bool : mg "bool" = none
  b_enumerate : mg "enumerate" = none
  b_int : mg "int" = none
  b_isinstance : mg "isinstance" = none
  b_len : mg "len" = none
  b_list : mg "list" = none
  b_range : mg "range" = none
  b_set : mg "set" = none
  b_sorted : mg "sorted" = none
  b_str : mg "str" = none
  b_tuple : mg "tuple" = none
  c_MOST_CELLS : ∃ u, mg "MOST_CELLS" = some u ∧ RelV (.int 8) u
  c_MOST_KINDS : ∃ u, mg "MOST_KINDS" = some u ∧ RelV (.int 40) u
  c_MOST_READS : ∃ u, mg "MOST_READS" = some u ∧ RelV (.int 3) u
  c_MOST_DEEDS : ∃ u, mg "MOST_DEEDS" = some u ∧ RelV (.int 400) u
structure Tx (c : Cc) (mg : Str → Option Value) : Prop where
  cl : Cls c.K (c.cls "Table")
  nc : NoAttr c.K (c.cls "Table") "cells"
  nk : NoAttr c.K (c.cls "Table") "kinds"
  ist : IsT c (c.cls "BadTable")
  m_Table : mg "Table" = some (.ref (c.cls "Table"))
  m_BadTable : mg "BadTable" = some (.ref (c.cls "BadTable"))
  m_PlateError : mg "PlateError" = some (.ref (c.cls "PlateError"))
  oex_BadTable : OexC c.K (c.cls "BadTable")
  xf_BadTable : XfC c.K (c.cls "BadTable")
  exm_BadTable : PySem.W.exmOne c.K (.ref (c.cls "BadTable")) (.ref (c.cls "PlateError")) = some true
  kx_BadTable : PySem.W.kitOne c.K (.ref (c.cls "BadTable")) (.ref (c.cls "BadTable")) = some true
  kv_BadTable : PySem.W.kitOne c.K (.ref (c.cls "BadTable")) (.type "ValueError") = some true
  no_BadTable_part : PySem.W.findIn c.K (.ref (c.cls "BadTable")) "part" = some none
  no_BadTable_at : PySem.W.findIn c.K (.ref (c.cls "BadTable")) "at" = some none
theorem Tx.isi {c : Cc} {mg : Str → Option Value} (X : Tx c mg) : IsI c := X.ist.i
theorem ps_dead {X : Cx} {st : Stmt} : PS X st tNever := ⟨fun _ _ _ _ _ _ h => h.elim⟩
theorem kit_ii : kitB "int" "int" = some true := by decide +kernel
theorem kit_ib : kitB "int" "bool" = some false := by decide +kernel
theorem kit_bb : kitB "bool" "bool" = some true := by decide +kernel
theorem kit_tt : kitB "tuple" "tuple" = some true := by decide +kernel
end K01
end
section
set_option Elab.async false
set_option linter.all false
set_option maxRecDepth 100000
/-! What k02 knows of journals: its mirror, in lists. -/
namespace K02
open Zq
/-! ### small things about lists -/
theorem nums_snoc {α : Type} (xs : List α) (x : α) : nums (xs ++ [x]) = nums xs ++ [((xs.length : Int), x)] := by
  unfold nums upto
  rw [List.length_append, List.length_cons, List.length_nil, List.range_succ, List.map_append, List.zip_append (by simp)] <;> rfl
theorem nums_mem {α : Type} [Rep α] {xs : List α} {i : Int} {x : α} (h : (i, x) ∈ nums xs) : 0 ≤ i ∧ i < (xs.length : Int) ∧ xs[i.toNat]? = some x := by
  obtain ⟨n, hn⟩ := List.mem_iff_getElem?.mp h
  have hl : n < xs.length := by
    have := (List.getElem?_eq_some_iff.mp hn).1
    rw [nums_len] at this; exact this
  have := nums_get (List.getElem?_eq_getElem hl)
  rw [hn] at this
  have e := Option.some.inj this
  have e1 : i = (n : Int) := congrArg Prod.fst e
  have e2 : x = xs[n] := congrArg Prod.snd e
  subst e1 e2
  exact ⟨by omega, by omega, by simp [hl]⟩
theorem nums_in {α : Type} [Rep α] {xs : List α} {i : Nat} {x : α} (h : xs[i]? = some x) : ((i : Int), x) ∈ nums xs := List.mem_of_getElem? (nums_get h)
theorem nums_split {α : Type} [Rep α] {xs : List α} {pre post : List (Int × α)} {y : Int × α} (e : nums xs = pre ++ y :: post) : y.1 = (pre.length : Int) ∧ pre.length < xs.length ∧ xs[pre.length]? = some y.2 ∧ y.2 ∈ xs := by
  have h1 : (nums xs)[pre.length]? = some y := by rw [e, List.getElem?_append_right (Nat.le_refl _), Nat.sub_self]; rfl
  have hl : pre.length < xs.length := by
    have := (List.getElem?_eq_some_iff.mp h1).1
    rw [nums_len] at this; exact this
  have h2 := nums_get (List.getElem?_eq_getElem hl)
  rw [h1] at h2
  have h3 := Option.some.inj h2
  refine ⟨congrArg Prod.fst h3, hl, ?_, ?_⟩
  · rw [List.getElem?_eq_getElem hl, congrArg Prod.snd h3]
  · rw [congrArg Prod.snd h3]; exact List.getElem_mem hl
theorem getD_get {xs : List Int} {i : Nat} (h : i < xs.length) : xs[i]? = some (xs.getD i 0) := by
  rw [List.getD_eq_getElem?_getD, List.getElem?_eq_getElem h] <;> rfl
theorem upto_mem {n : Nat} {i : Int} : i ∈ upto n ↔ 0 ≤ i ∧ i < n := by
  unfold upto
  rw [List.mem_map]
  constructor
  · rintro ⟨k, hk, rfl⟩
    have := List.mem_range.mp hk
    omega
  · rintro ⟨h0, h1⟩
    exact ⟨i.toNat, List.mem_range.mpr (by omega), by omega⟩
theorem upto_get {n i : Nat} (h : i < n) : (upto n)[i]? = some (i : Int) := by
  unfold upto
  rw [List.getElem?_map, List.getElem?_range h] <;> rfl
theorem asc_uniq : ∀ {xs ys : List Int}, xs.Pairwise (· < ·) → ys.Pairwise (· < ·) → (∀ v, v ∈ xs ↔ v ∈ ys) → xs = ys
  | [], [], _, _, _ => rfl
  | [], y :: ys, _, _, h => by have := (h y).mpr (by simp); simp at this
  | x :: xs, [], _, _, h => by have := (h x).mp (by simp); simp at this
  | x :: xs, y :: ys, h1, h2, h => by
    rw [List.pairwise_cons] at h1 h2
    have exy : x = y := by
      have a := (h x).mp (by simp)
      have b := (h y).mpr (by simp)
      rcases List.mem_cons.mp a with a | a
      · exact a
      · rcases List.mem_cons.mp b with b | b
        · exact b.symm
        · have := h1.1 y b; have := h2.1 x a; omega
    subst exy
    refine congrArg (x :: ·) (asc_uniq h1.2 h2.2 fun v => ⟨fun hv => ?_, fun hv => ?_⟩)
    · rcases List.mem_cons.mp ((h v).mp (List.mem_cons_of_mem _ hv)) with e | e
      · have := h1.1 v hv; omega
      · exact e
    · rcases List.mem_cons.mp ((h v).mpr (List.mem_cons_of_mem _ hv)) with e | e
      · have := h2.1 v hv; omega
      · exact e
theorem le_nodup_lt : ∀ {xs : List Int}, xs.Pairwise (· ≤ ·) → xs.Nodup → xs.Pairwise (· < ·)
  | [], _, _ => .nil
  | x :: xs, h, n => by
    rw [List.pairwise_cons] at h ⊢
    rw [List.nodup_cons] at n
    exact ⟨fun a ha => by
      have := h.1 a ha
      have : x ≠ a := fun e => n.1 (by rw [e]; exact ha)
      omega, le_nodup_lt h.2 n.2⟩
theorem lt_nodup : ∀ {xs : List Int}, xs.Pairwise (· < ·) → xs.Nodup
  | [], _ => .nil
  | x :: xs, h => by
    rw [List.pairwise_cons] at h
    rw [List.nodup_cons]
    exact ⟨fun e => by have := h.1 x e; omega, lt_nodup h.2⟩
theorem le_uniq : ∀ {xs ys : List Int}, xs.Pairwise (· ≤ ·) → ys.Pairwise (· ≤ ·) → xs.Perm ys → xs = ys
  | xs, ys, h1, h2, p => by
    refine List.Perm.eq_of_pairwise (le := fun (a b : Int) => a ≤ b) (fun a b _ _ h h' => by omega) h1 h2 p
theorem erase_len {x : Int} : ∀ {xs : List Int}, x ∈ xs → (xs.filter fun y => !decide (y = x)).length < xs.length
  | [], h => by simp at h
  | y :: ys, h => by
    rw [List.filter_cons]
    by_cases e : y = x
    · rw [if_neg (by simp [e])]
      have := List.length_filter_le (fun y => !decide (y = x)) ys
      simp only [List.length_cons]; omega
    · rw [if_pos (by simp [e])]
      have h' : x ∈ ys := by
        rcases List.mem_cons.mp h with z | z
        · exact absurd z.symm e
        · exact z
      have := erase_len h'
      simp only [List.length_cons]; omega
theorem nodup_sub : ∀ {xs ys : List Int}, xs.Nodup → (∀ v, v ∈ xs → v ∈ ys) → xs.length ≤ ys.length
  | [], _, _, _ => Nat.zero_le _
  | x :: xs, ys, n, h => by
    rw [List.nodup_cons] at n
    have h1 := erase_len (h x (by simp))
    have h2 := nodup_sub (xs := xs) (ys := ys.filter fun y => !decide (y = x)) n.2 fun v hv => by
      rw [List.mem_filter]
      refine ⟨h v (List.mem_cons_of_mem _ hv), ?_⟩
      have : v ≠ x := fun e => n.1 (by rw [← e]; exact hv)
      simp [this]
    simp only [List.length_cons]; omega
theorem nodup_below {xs : List Int} {n : Nat} (h : xs.Nodup) (b : ∀ v, v ∈ xs → 0 ≤ v ∧ v < n) : xs.length ≤ n := by
  have := nodup_sub h (ys := upto n) fun v hv => upto_mem.mpr (b v hv)
  rw [upto_len] at this; exact this
theorem asc_ahead {xs : List Int} {i v : Int} (h : xs.Pairwise (· < ·)) (h0 : 0 < i) (hv : xs[i.toNat]? = some v) : ∃ z, xs[(i - 1).toNat]? = some z ∧ z < v := by
  have hl := (List.getElem?_eq_some_iff.mp hv).1
  have hl2 : (i - 1).toNat < xs.length := by omega
  refine ⟨xs[(i - 1).toNat], List.getElem?_eq_getElem hl2, ?_⟩
  have := List.pairwise_iff_getElem.mp h (i - 1).toNat i.toNat hl2 hl (by omega)
  rw [List.getElem?_eq_getElem hl] at hv
  cases hv
  exact this
/-! ### tables, journals -/
def frs (n : Nat) : List Int := (upto n).map fun i => -1 - i
theorem frs_len (n : Nat) : (frs n).length = n := by simp [frs, upto_len]
theorem frs_get {n i : Nat} (h : i < n) : (frs n)[i]? = some (-1 - (i : Int)) := by
  unfold frs; rw [List.getElem?_map, upto_get h] <;> rfl
def kat (ks : List Kind) (j : Int) : Kind := ks.getD j.toNat (0, ⟨[]⟩)
def readOf (la : List Int) (k : Kind) : Tp Int := ⟨k.2.l.map fun r => la.getD r.toNat 0⟩
structure Hst where
  wr : List Int
  rd : List (Tp Int)
  la : List Int
def hstep (ks : List Kind) (s : Hst) (p : Int × Int) : Hst := ⟨s.wr ++ [(kat ks p.2).1], s.rd ++ [readOf s.la (kat ks p.2)], s.la.set (kat ks p.2).1.toNat p.1⟩
def hst0 (n : Int) : Hst := ⟨[], [], frs n.toNat⟩
def hist (n : Int) (ks : List Kind) (js : List Int) : Hst := (nums js).foldl (hstep ks) (hst0 n)
structure KOk (n : Int) (k : Kind) : Prop where
  c0 : 0 ≤ k.1
  c1 : k.1 < n
  asc : k.2.l.Pairwise (· < ·)
  r0 : ∀ r, r ∈ k.2.l → 0 ≤ r ∧ r < n
  len : k.2.l.length ≤ 3
structure KsOk (n : Int) (ks : List Kind) : Prop where
  n1 : 1 ≤ n
  n8 : n ≤ 8
  at_ : ∀ k, k ∈ ks → KOk n k
  k1 : 1 ≤ ks.length
  k40 : ks.length ≤ 40
  asc : ks.Pairwise fun x y => kbef x y = true
structure JOk (ks : List Kind) (js : List Int) : Prop where
  len : js.length ≤ 400
  at_ : ∀ j, j ∈ js → 0 ≤ j ∧ j < (ks.length : Int)
theorem hist_snoc (n : Int) (ks : List Kind) (js : List Int) (j : Int) : hist n ks (js ++ [j]) = hstep ks (hist n ks js) ((js.length : Int), j) := by
  unfold hist; rw [nums_snoc, List.foldl_append]; rfl
theorem kat_get {ks : List Kind} {j : Int} (h0 : 0 ≤ j) (h1 : j < (ks.length : Int)) : ks[j.toNat]? = some (kat ks j) := by
  unfold kat
  rw [List.getD_eq_getElem?_getD, List.getElem?_eq_getElem (by omega : j.toNat < ks.length)] <;> rfl
theorem kat_mem {ks : List Kind} {j : Int} (h0 : 0 ≤ j) (h1 : j < (ks.length : Int)) : kat ks j ∈ ks := List.mem_of_getElem? (kat_get h0 h1)
theorem JOk.get {ks : List Kind} {js : List Int} (h : JOk ks js) {j : Int} (hj : j ∈ js) : ks[j.toNat]? = some (kat ks j) := kat_get (h.at_ j hj).1 (h.at_ j hj).2
theorem JOk.ok {n : Int} {ks : List Kind} {js : List Int} (k : KsOk n ks) (h : JOk ks js) {j : Int} (hj : j ∈ js) : KOk n (kat ks j) := k.at_ _ (kat_mem (h.at_ j hj).1 (h.at_ j hj).2)
/-- what is known of a history, step by step -/
structure HOk (n : Int) (m : Nat) (h : Hst) : Prop where
  wl : h.wr.length = m
  rl : h.rd.length = m
  ll : h.la.length = n.toNat
  src : ∀ (i : Nat) (row : Tp Int), h.rd[i]? = some row → row.l.length ≤ 3 ∧ ∀ s, s ∈ row.l → s < (i : Int)
  pr : ∀ (i : Nat) (v : Int), h.la[i]? = some v → v < (m : Int)
theorem hok0 (n : Int) : HOk n 0 (hst0 n) := by
  refine ⟨rfl, rfl, frs_len _, fun i row h => by simp [hst0] at h, fun i v h => ?_⟩
  have hi : i < n.toNat := by
    have := (List.getElem?_eq_some_iff.mp h).1
    rw [show (hst0 n).la = frs n.toNat from rfl, frs_len] at this; exact this
  rw [show (hst0 n).la = frs n.toNat from rfl, frs_get hi] at h
  cases h
  show -1 - (i : Int) < 0
  omega
theorem hok_step {n : Int} {m : Nat} {ks : List Kind} {h : Hst} {j : Int} (o : HOk n m h) (k : KOk n (kat ks j)) : HOk n (m + 1) (hstep ks h ((m : Int), j)) := by
  refine ⟨?_, ?_, ?_, fun i row hr => ?_, fun i v hv => ?_⟩
  · simp [hstep, o.wl]
  · simp [hstep, o.rl]
  · simp [hstep, o.ll]
  · have hr' : (h.rd ++ [readOf h.la (kat ks j)])[i]? = some row := hr
    by_cases hi : i < h.rd.length
    · rw [List.getElem?_append_left hi] at hr'
      exact o.src i row hr'
    · rw [List.getElem?_append_right (by omega)] at hr'
      have h0 : i - h.rd.length = 0 := by
        have := (List.getElem?_eq_some_iff.mp hr').1
        simp at this; omega
      rw [h0] at hr'
      have e : readOf h.la (kat ks j) = row := by simpa using hr'
      subst e
      refine ⟨by simp [readOf]; exact k.len, fun s hs => ?_⟩
      obtain ⟨r, hr1, rfl⟩ := List.mem_map.mp hs
      have b := k.r0 r hr1
      have hl : r.toNat < h.la.length := by rw [o.ll]; omega
      have e2 := o.pr r.toNat _ (List.getElem?_eq_getElem hl)
      rw [List.getD_eq_getElem?_getD, List.getElem?_eq_getElem hl]
      have hm : i = m := by have := o.rl; omega
      show h.la[r.toNat] < (i : Int)
      omega
  · have hv' : (h.la.set (kat ks j).1.toNat (m : Int))[i]? = some v := hv
    rw [List.getElem?_set] at hv'
    split at hv'
    · split at hv'
      · cases hv'; omega
      · cases hv'
    · have := o.pr i v hv'; omega
theorem snoc_ind {α : Type} {P : List α → Prop} (h0 : P []) (h1 : ∀ xs x, P xs → P (xs ++ [x])) : ∀ xs, P xs := fun xs => by
  have key : ∀ ys : List α, P ys.reverse := by
    intro ys
    induction ys with
    | nil => exact h0
    | cons y ys ih => rw [List.reverse_cons]; exact h1 _ _ ih
  have := key xs.reverse
  rwa [List.reverse_reverse] at this
theorem hok {n : Int} {ks : List Kind} (k : KsOk n ks) : ∀ js : List Int, (∀ j, j ∈ js → 0 ≤ j ∧ j < (ks.length : Int)) → HOk n js.length (hist n ks js) := by
  intro js
  induction js using snoc_ind with
  | h0 => intro _; exact hok0 n
  | h1 xs x ih =>
    intro h
    rw [hist_snoc, List.length_append, List.length_cons, List.length_nil]
    have b := h x (by simp)
    exact hok_step (ih fun j hj => h j (by simp [hj])) (k.at_ _ (kat_mem b.1 b.2))
theorem wr_eq (n : Int) (ks : List Kind) : ∀ js : List Int, (hist n ks js).wr = js.map fun j => (kat ks j).1 := by
  intro js
  induction js using snoc_ind with
  | h0 => rfl
  | h1 xs x ih =>
    rw [hist_snoc, List.map_append, ← ih]; rfl
theorem hok_b {n : Int} {ks : List Kind} (k : KsOk n ks) {js : List Int} (j : JOk ks js) : (hist n ks js).rd.length ≤ 400 ∧ (hist n ks js).la.length ≤ 8 ∧ ∀ row, row ∈ (hist n ks js).rd → row.l.length ≤ 3 := by
  have h := hok k js j.at_
  refine ⟨by rw [h.rl]; exact j.len, by rw [h.ll]; have := k.n8; omega, fun row hr => ?_⟩
  obtain ⟨i, hi⟩ := List.mem_iff_getElem?.mp hr
  exact (h.src i row hi).1
theorem tp_nil (xs : List Int) : decide (Tp.mk xs = Tp.mk []) = decide (xs = []) := by
  by_cases h : xs = []
  · rw [h]; simp
  · rw [decide_eq_false h, decide_eq_false fun e => h (congrArg Tp.l e)]
structure POk (n : Int) (wr ps : List Int) : Prop where
  len : ps.length = n.toNat
  at_ : ∀ (c : Nat) (v : Int), ps[c]? = some v → v = -1 - (c : Int) ∨ (0 ≤ v ∧ wr[v.toNat]? = some (c : Int))
theorem POk.le {n : Int} {wr ps : List Int} (p : POk n wr ps) (h : n ≤ 8) : ps.length ≤ 8 := by rw [p.len]; omega
theorem downto_split {n : Nat} {pre post : List Int} {y : Int} (e : downto n = pre ++ y :: post) : pre.length < n ∧ y = ((n - (pre.length + 1) : Nat) : Int) := by
  have h1 : (downto n)[pre.length]? = some y := by rw [e, List.getElem?_append_right (Nat.le_refl _), Nat.sub_self]; rfl
  have hl : pre.length < n := by
    have := (List.getElem?_eq_some_iff.mp h1).1
    simpa [downto, upto_len] using this
  refine ⟨hl, ?_⟩
  unfold downto at h1
  rw [List.getElem?_reverse (by rw [upto_len]; exact hl), upto_len, upto_get (by omega)] at h1
  have := Option.some.inj h1
  rw [← this]
  congr 1
  omega
/-! ### what comes back -/
def memD (m : List (Int × Bool)) (v : Int) : Bool := (dget m v).isSome
theorem memD_put (m : List (Int × Bool)) (k : Int) (b : Bool) (v : Int) : memD (dput m k b) v = (decide (k = v) || memD m v) := by
  unfold memD
  induction m with
  | nil =>
    show (if k = v then some b else none).isSome = _
    by_cases h : k = v
    · rw [if_pos h, decide_eq_true h]; rfl
    · rw [if_neg h, decide_eq_false h]; rfl
  | cons p r ih =>
    show (dget (if p.1 = k then (k, b) :: r else p :: dput r k b) v).isSome = _
    by_cases h : p.1 = k
    · rw [if_pos h]
      show (if k = v then some b else dget r v).isSome = (decide (k = v) || (if p.1 = v then some p.2 else dget r v).isSome)
      by_cases h2 : k = v
      · rw [if_pos h2, decide_eq_true h2]; rfl
      · rw [if_neg h2, decide_eq_false h2, if_neg (by rw [h]; exact h2)]; rfl
    · rw [if_neg h]
      show (if p.1 = v then some p.2 else dget (dput r k b) v).isSome = (decide (k = v) || (if p.1 = v then some p.2 else dget r v).isSome)
      by_cases h2 : p.1 = v
      · rw [if_pos h2, if_pos h2]; simp
      · rw [if_neg h2, if_neg h2]; exact ih
def plD (ps : List Int) : List (Int × Bool) := ps.foldl (fun m v => dput m v true) []
theorem fold_put : ∀ (ps : List Int) (m : List (Int × Bool)) (v : Int), memD (ps.foldl (fun m v => dput m v true) m) v = (decide (v ∈ ps) || memD m v)
  | [], m, v => by simp
  | p :: ps, m, v => by
    rw [List.foldl_cons, fold_put ps, memD_put]
    by_cases h : p = v
    · subst h; simp
    · have h2 : ¬ v = p := fun e => h e.symm
      simp [h, h2]
theorem plD_mem (ps : List Int) (v : Int) : memD (plD ps) v = decide (v ∈ ps) := by
  unfold plD; rw [fold_put]; simp [memD, dget]
theorem fold_keys : ∀ (ps : List Int) (m : List (Int × Bool)), Keys1 m → Keys1 (ps.foldl (fun m v => dput m v true) m)
  | [], m, h => h
  | p :: ps, m, h => fold_keys ps _ (keys1_put h p true)
theorem plD_keys (ps : List Int) : Keys1 (plD ps) := fold_keys ps [] keys1_nil
theorem dput_len (m : List (Int × Bool)) (k : Int) (b : Bool) : (dput m k b).length ≤ m.length + 1 := by
  induction m with
  | nil => exact Nat.le_refl _
  | cons p r ih =>
    show (if p.1 = k then (k, b) :: r else p :: dput r k b).length ≤ _
    split
    · simp
    · simp only [List.length_cons]; omega
theorem fold_len : ∀ (ps : List Int) (m : List (Int × Bool)), (ps.foldl (fun m v => dput m v true) m).length ≤ m.length + ps.length
  | [], m => Nat.le_refl _
  | p :: ps, m => by
    have h1 := fold_len ps (dput m p true)
    have h2 := dput_len m p true
    rw [List.foldl_cons, List.length_cons]; omega
theorem plD_len (ps : List Int) : (plD ps).length ≤ ps.length := by
  have := fold_len ps []; simpa [plD] using this
def cstep (m : List (Int × Bool)) (p : Int × Tp Int) : List (Int × Bool) := if p.2.l.all (fun v => memD m v) = true then dput m p.1 true else m
def clo (rd : List (Tp Int)) (ps : List Int) : List (Int × Bool) := (nums rd).foldl cstep (plD ps)
def lostOf (rd : List (Tp Int)) (la ps : List Int) : List Int := ((nums la).filter fun p => !memD (clo rd ps) p.2).map (·.1)
theorem clo_snoc (rd : List (Tp Int)) (r : Tp Int) (ps : List Int) : clo (rd ++ [r]) ps = cstep (clo rd ps) ((rd.length : Int), r) := by
  unfold clo; rw [nums_snoc, List.foldl_append]; rfl
theorem clo_nil (ps : List Int) : clo [] ps = plD ps := rfl
theorem cstep_mono {m : List (Int × Bool)} {p : Int × Tp Int} {v : Int} (h : memD m v = true) : memD (cstep m p) v = true := by
  unfold cstep; split
  · rw [memD_put, h]; simp
  · exact h
theorem clo_keys (ps : List Int) : ∀ rd : List (Tp Int), Keys1 (clo rd ps) := by
  intro rd
  induction rd using snoc_ind with
  | h0 => exact plD_keys ps
  | h1 xs x ih =>
    rw [clo_snoc]; unfold cstep; split
    · exact keys1_put ih _ _
    · exact ih
theorem clo_len (ps : List Int) : ∀ rd : List (Tp Int), (clo rd ps).length ≤ ps.length + rd.length := by
  intro rd
  induction rd using snoc_ind with
  | h0 => exact plD_len ps
  | h1 xs x ih =>
    rw [clo_snoc, List.length_append]; unfold cstep; split
    · have := dput_len (clo xs ps) (xs.length : Int) true
      simp only [List.length_cons, List.length_nil]; omega
    · simp only [List.length_cons, List.length_nil]; omega
theorem clo_src (ps : List Int) : ∀ (rd : List (Tp Int)) (v : Int), memD (clo rd ps) v = true → v ∈ ps ∨ ∃ (i : Nat) (row : Tp Int), v = (i : Int) ∧ rd[i]? = some row ∧ ∀ s, s ∈ row.l → memD (clo rd ps) s = true := by
  intro rd
  induction rd using snoc_ind with
  | h0 => intro v h; rw [clo_nil, plD_mem] at h; exact .inl (of_decide_eq_true h)
  | h1 xs x ih =>
    intro v h
    rw [clo_snoc] at h ⊢
    have old : memD (clo xs ps) v = true → v ∈ ps ∨ ∃ (i : Nat) (row : Tp Int), v = (i : Int) ∧ (xs ++ [x])[i]? = some row ∧ ∀ s, s ∈ row.l → memD (cstep (clo xs ps) ((xs.length : Int), x)) s = true := fun h => by
      rcases ih v h with z | ⟨i, row, z1, z2, z3⟩
      · exact .inl z
      · refine .inr ⟨i, row, z1, ?_, fun s hs => cstep_mono (z3 s hs)⟩
        rw [List.getElem?_append_left (List.getElem?_eq_some_iff.mp z2).1]; exact z2
    unfold cstep at h
    split at h
    · rename_i q
      rw [memD_put, Bool.or_eq_true] at h
      rcases h with h | h
      · refine .inr ⟨xs.length, x, (of_decide_eq_true h).symm, by simp, fun s hs => cstep_mono (List.all_eq_true.mp q s hs)⟩
      · exact old h
    · exact old h
/-- which deeds have to be done again -/
inductive Nd (rd : List (Tp Int)) (la ps : List Int) : Int → Prop
  | base {v : Int} : v ∈ la → v ∉ ps → Nd rd la ps v
  | step {d s : Int} {row : Tp Int} : Nd rd la ps d → rd[d.toNat]? = some row → s ∈ row.l → s ∉ ps → Nd rd la ps s
theorem Nd.not {rd la ps v} (h : Nd rd la ps v) : v ∉ ps := by cases h with
  | base _ h => exact h
  | step _ _ _ h => exact h
theorem lost_nil {rd : List (Tp Int)} {la ps : List Int} (h : lostOf rd la ps = []) {v : Int} (hv : v ∈ la) : memD (clo rd ps) v = true := by
  obtain ⟨i, hi⟩ := List.mem_iff_getElem?.mp hv
  have hm := nums_in hi
  cases e : memD (clo rd ps) v with
  | true => rfl
  | false =>
    have : (i : Int) ∈ lostOf rd la ps := by
      unfold lostOf
      exact List.mem_map.mpr ⟨_, List.mem_filter.mpr ⟨hm, by simp [e]⟩, rfl⟩
    rw [h] at this; simp at this
theorem Nd.deed {rd : List (Tp Int)} {la ps : List Int} (hs : lostOf rd la ps = []) {v : Int} (h : Nd rd la ps v) : 0 ≤ v ∧ v < (rd.length : Int) ∧ ∃ row, rd[v.toNat]? = some row ∧ ∀ s, s ∈ row.l → memD (clo rd ps) s = true := by
  have key : memD (clo rd ps) v = true := by
    induction h with
    | base h1 h2 => exact lost_nil hs h1
    | step h1 h2 h3 h4 ih =>
      rcases clo_src ps rd _ ih with z | ⟨i, row, z1, z2, z3⟩
      · exact absurd z h1.not
      · subst z1
        rw [Int.toNat_natCast, z2] at h2
        cases h2
        exact z3 _ h3
  rcases clo_src ps rd v key with z | ⟨i, row, z1, z2, z3⟩
  · exact absurd z h.not
  · subst z1
    have := (List.getElem?_eq_some_iff.mp z2).1
    exact ⟨by omega, by omega, row, by rw [Int.toNat_natCast]; exact z2, z3⟩
/-! ### going along some deeds from plates -/
def cbF (rd : List (Tp Int)) (f : List Int) (d : Int) : List Int := if (rd.getD d.toNat ⟨[]⟩).l.all (fun s => decide (s ∈ f)) = true then f ++ [d] else f
def cb (rd : List (Tp Int)) (ps so la : List Int) : Bool := la.all fun v => decide (v ∈ so.foldl (cbF rd) ps)
theorem cbF_mono {rd : List (Tp Int)} {f : List Int} {d v : Int} (h : v ∈ f) : v ∈ cbF rd f d := by
  unfold cbF; split
  · exact List.mem_append_left _ h
  · exact h
theorem cb_mono {rd : List (Tp Int)} {v : Int} : ∀ {so f : List Int}, v ∈ f → v ∈ so.foldl (cbF rd) f
  | [], _, h => h
  | _ :: so, _, h => cb_mono (so := so) (cbF_mono h)
theorem cb_len {rd : List (Tp Int)} : ∀ (so f : List Int), (so.foldl (cbF rd) f).length ≤ f.length + so.length
  | [], f => Nat.le_refl _
  | d :: so, f => by
    have h1 := cb_len (rd := rd) so (cbF rd f d)
    have h2 : (cbF rd f d).length ≤ f.length + 1 := by unfold cbF; split <;> simp
    rw [List.foldl_cons, List.length_cons]; omega
/-- a thing reached is of the plates, or one of these deeds, its sources reached -/
theorem cb_src {rd : List (Tp Int)} {ps : List Int} : ∀ (so f : List Int), (∀ v, v ∈ f → v ∈ ps ∨ (∃ row, rd.getD v.toNat ⟨[]⟩ = row ∧ ∀ s, s ∈ row.l → s ∈ f)) →
    ∀ v, v ∈ so.foldl (cbF rd) f → (v ∈ f ∨ v ∈ so) ∧ (v ∈ ps ∨ ∃ row, rd.getD v.toNat ⟨[]⟩ = row ∧ ∀ s, s ∈ row.l → s ∈ so.foldl (cbF rd) f)
  | [], f, h, v, hv => ⟨.inl hv, h v hv⟩
  | d :: so, f, h, v, hv => by
    have h' : ∀ v, v ∈ cbF rd f d → v ∈ ps ∨ (∃ row, rd.getD v.toNat ⟨[]⟩ = row ∧ ∀ s, s ∈ row.l → s ∈ cbF rd f d) := fun v hv => by
      have old : v ∈ f → v ∈ ps ∨ (∃ row, rd.getD v.toNat ⟨[]⟩ = row ∧ ∀ s, s ∈ row.l → s ∈ cbF rd f d) := fun hv => (h v hv).imp id fun ⟨row, e, z⟩ => ⟨row, e, fun s hs => cbF_mono (z s hs)⟩
      by_cases q : (rd.getD d.toNat ⟨[]⟩).l.all (fun s => decide (s ∈ f)) = true
      · have hv' := hv
        unfold cbF at hv'
        rw [if_pos q] at hv'
        rcases List.mem_append.mp hv' with z | z
        · exact old z
        · have : v = d := by simpa using z
          subst this
          exact .inr ⟨_, rfl, fun s hs => cbF_mono (of_decide_eq_true (List.all_eq_true.mp q s hs))⟩
      · have hv' := hv
        unfold cbF at hv'
        rw [if_neg q] at hv'
        exact old hv'
    have := cb_src so (cbF rd f d) h' v hv
    refine ⟨?_, this.2⟩
    rcases this.1 with z | z
    · unfold cbF at z; split at z
      · rcases List.mem_append.mp z with y | y
        · exact .inl y
        · have : v = d := by simpa using y
          exact .inr (by simp [this])
      · exact .inl z
    · exact .inr (List.mem_cons_of_mem _ z)
theorem cb_yes {rd : List (Tp Int)} {la ps due : List Int} (hs : lostOf rd la ps = []) (src : ∀ (i : Nat) (row : Tp Int), rd[i]? = some row → ∀ s, s ∈ row.l → s < (i : Int)) (asc : due.Pairwise (· < ·)) (hm : ∀ v, v ∈ due ↔ Nd rd la ps v) : cb rd ps due la = true := by
  have key : ∀ (pre post f : List Int), due = pre ++ post → (∀ v, v ∈ ps → v ∈ f) → (∀ v, v ∈ pre → v ∈ f) → ∀ v, v ∈ due → v ∈ post.foldl (cbF rd) f := by
    intro pre post
    induction post generalizing pre with
    | nil => intro f e h1 h2 v hv; rw [e, List.append_nil] at hv; exact h2 v hv
    | cons d post ih =>
      intro f e h1 h2 v hv
      have hd : Nd rd la ps d := (hm d).mp (by rw [e]; simp)
      obtain ⟨b0, b1, row, hr, _⟩ := hd.deed hs
      have hall : (rd.getD d.toNat ⟨[]⟩).l.all (fun s => decide (s ∈ f)) = true := by
        rw [List.getD_eq_getElem?_getD, hr, List.all_eq_true]
        intro s hs'
        refine decide_eq_true ?_
        by_cases z : s ∈ ps
        · exact h1 s z
        · have nd : Nd rd la ps s := .step hd hr hs' z
          have hin := (hm s).mpr nd
          have hlt := src d.toNat row hr s hs'
          rw [e] at hin
          rcases List.mem_append.mp hin with y | y
          · exact h2 s y
          · rw [e, List.pairwise_append] at asc
            have a2 := asc.2.1
            rw [List.pairwise_cons] at a2
            rcases List.mem_cons.mp y with x | x
            · omega
            · have := a2.1 s x; omega
      have hf : cbF rd f d = f ++ [d] := by unfold cbF; rw [if_pos hall]
      rw [List.foldl_cons, hf]
      refine ih (pre ++ [d]) (f ++ [d]) (by rw [e]; simp) (fun v hv => List.mem_append_left _ (h1 v hv)) (fun v hv => ?_) v hv
      rcases List.mem_append.mp hv with y | y
      · exact List.mem_append_left _ (h2 v y)
      · exact List.mem_append_right _ y
  unfold cb
  rw [List.all_eq_true]
  intro v hv
  refine decide_eq_true ?_
  by_cases z : v ∈ ps
  · exact cb_mono z
  · exact key [] due ps rfl (fun v h => h) (fun v h => by simp at h) v ((hm v).mpr (.base hv z))
theorem cb_no {rd : List (Tp Int)} {la ps so : List Int} {a : Int} (hs : lostOf rd la ps = []) (ha : Nd rd la ps a) (hn : a ∉ so) : cb rd ps so la = false := by
  cases e : cb rd ps so la with
  | false => rfl
  | true =>
    unfold cb at e
    rw [List.all_eq_true] at e
    have src := cb_src (rd := rd) (ps := ps) so ps fun v hv => .inl hv
    have key : ∀ v, Nd rd la ps v → v ∈ so.foldl (cbF rd) ps := by
      intro v h
      induction h with
      | base h1 _ => exact of_decide_eq_true (e _ h1)
      | step h1 h2 h3 h4 ih =>
        rcases (src _ ih).2 with z | ⟨row, z1, z2⟩
        · exact absurd z h1.not
        · rw [List.getD_eq_getElem?_getD, h2] at z1
          have z1' : _ = row := z1
          subst z1'
          exact z2 _ h3
    rcases (src a (key a ha)).1 with z | z
    · exact absurd z ha.not
    · exact absurd z hn
/-! ### the worklist -/
structure WkOk (rd : List (Tp Int)) (la ps : List Int) (s : List Int × List Int) : Prop where
  nd : s.1.Nodup
  f : ∀ v, v ∈ s.1 → Nd rd la ps v
  l : ∀ v, v ∈ s.2 → Nd rd la ps v
  cl : ∀ d, d ∈ s.1 → ∀ row, rd[d.toNat]? = some row → ∀ v, v ∈ row.l → v ∉ ps → v ∈ s.1 ∨ v ∈ s.2
  ba : ∀ v, v ∈ la → v ∉ ps → v ∈ s.1 ∨ v ∈ s.2
  mu : s.2.length + 4 * (rd.length - s.1.length) ≤ 4 * rd.length + la.length
def wkM (rd : List (Tp Int)) (s : List Int × List Int) : Nat := s.2.length + 4 * (rd.length - s.1.length)
theorem wk0 (rd : List (Tp Int)) (la ps : List Int) : WkOk rd la ps ([], la.filter fun v => !decide (v ∈ ps)) := by
  refine ⟨.nil, fun v h => by simp at h, fun v h => ?_, fun d h => by simp at h, fun v h1 h2 => .inr (List.mem_filter.mpr ⟨h1, by simp [h2]⟩), ?_⟩
  · obtain ⟨h1, h2⟩ := List.mem_filter.mp h
    exact .base h1 (by simpa using h2)
  · have := List.length_filter_le (fun v => !decide (v ∈ ps)) la
    simp only [List.length_nil]; omega
theorem WkOk.old {rd : List (Tp Int)} {la ps f l : List Int} {d : Int} (h : WkOk rd la ps (f, l ++ [d])) (hd : d ∈ f) : WkOk rd la ps (f, l) ∧ wkM rd (f, l) < wkM rd (f, l ++ [d]) := by
  have go : ∀ v, v ∈ f ∨ v ∈ l ++ [d] → v ∈ f ∨ v ∈ l := fun v h => by
    rcases h with h | h
    · exact .inl h
    · rcases List.mem_append.mp h with z | z
      · exact .inr z
      · have : v = d := by simpa using z
        exact .inl (by rw [this]; exact hd)
  refine ⟨⟨h.nd, h.f, fun v hv => h.l v (List.mem_append_left _ hv), fun d' hd' row hr v hv hn => go v (h.cl d' hd' row hr v hv hn), fun v h1 h2 => go v (h.ba v h1 h2), ?_⟩, ?_⟩
  · have := h.mu
    simp only [List.length_append, List.length_cons, List.length_nil] at this ⊢
    omega
  · unfold wkM; simp only [List.length_append, List.length_cons, List.length_nil]; omega
theorem WkOk.new {rd : List (Tp Int)} {la ps f l : List Int} {d : Int} {row : Tp Int} (hs : lostOf rd la ps = []) (h : WkOk rd la ps (f, l ++ [d])) (hd : d ∉ f) (hr : rd[d.toNat]? = some row) (h3 : row.l.length ≤ 3) :
    WkOk rd la ps (f ++ [d], l ++ row.l.filter fun v => !decide (v ∈ ps)) ∧ wkM rd (f ++ [d], l ++ row.l.filter fun v => !decide (v ∈ ps)) < wkM rd (f, l ++ [d]) := by
  have hdn : Nd rd la ps d := h.l d (by simp)
  have go : ∀ v, v ∈ f ∨ v ∈ l ++ [d] → v ∈ f ++ [d] ∨ v ∈ l ++ row.l.filter fun v => !decide (v ∈ ps) := fun v h => by
    rcases h with h | h
    · exact .inl (List.mem_append_left _ h)
    · rcases List.mem_append.mp h with z | z
      · exact .inr (List.mem_append_left _ z)
      · exact .inl (List.mem_append_right _ z)
  have nd2 : (f ++ [d]).Nodup := by
    rw [List.nodup_append]
    exact ⟨h.nd, by simp, fun a ha b hb => by
      have : b = d := by simpa using hb
      subst this; intro e; subst e; exact hd ha⟩
  have f2 : ∀ v, v ∈ f ++ [d] → Nd rd la ps v := fun v hv => by
    rcases List.mem_append.mp hv with z | z
    · exact h.f v z
    · have : v = d := by simpa using z
      rw [this]; exact hdn
  have hl : (f ++ [d]).length ≤ rd.length := nodup_below nd2 fun v hv => by
    have := (f2 v hv).deed hs
    exact ⟨this.1, this.2.1⟩
  have h4 := List.length_filter_le (fun v => !decide (v ∈ ps)) row.l
  simp only [List.length_append, List.length_cons, List.length_nil] at hl
  refine ⟨⟨nd2, f2, fun v hv => ?_, fun d' hd' row' hr' v hv hn => ?_, fun v h1 h2 => go v (h.ba v h1 h2), ?_⟩, ?_⟩
  · rcases List.mem_append.mp hv with z | z
    · exact h.l v (List.mem_append_left _ z)
    · obtain ⟨z1, z2⟩ := List.mem_filter.mp z
      exact .step hdn hr z1 (by simpa using z2)
  · rcases List.mem_append.mp hd' with z | z
    · exact go v (h.cl d' z row' hr' v hv hn)
    · have : d' = d := by simpa using z
      subst this
      rw [hr] at hr'; cases hr'
      exact .inr (List.mem_append_right _ (List.mem_filter.mpr ⟨hv, by simp [hn]⟩))
  · have := h.mu
    simp only [List.length_append, List.length_cons, List.length_nil] at this ⊢
    omega
  · unfold wkM; simp only [List.length_append, List.length_cons, List.length_nil]; omega
theorem WkOk.fin {rd : List (Tp Int)} {la ps f : List Int} (h : WkOk rd la ps (f, [])) : ∀ v, v ∈ f ↔ Nd rd la ps v := fun v => by
  refine ⟨h.f v, fun n => ?_⟩
  induction n with
  | base h1 h2 => exact (h.ba _ h1 h2).elim id fun z => by simp at z
  | step h1 h2 h3 h4 ih => exact (h.cl _ ih _ h2 _ h3 h4).elim id fun z => by simp at z
/-! ### backwards -/
/-- m: the deeds from m on are through -/
structure BkOk (rd : List (Tp Int)) (la ps : List Int) (m : Nat) (nd : List (Int × Bool)) (ag : List Int) : Prop where
  ks : Keys1 nd
  le : nd.length ≤ la.length + 3 * (rd.length - m)
  mm : ∀ v, memD nd v = true ↔ v ∈ la ∨ ∃ d row, d ∈ ag ∧ rd[d.toNat]? = some row ∧ v ∈ row.l
  an : ag.Pairwise (· > ·)
  ge : ∀ d, d ∈ ag → (m : Int) ≤ d
  al : ag.length ≤ rd.length - m
  it : ∀ d, (m : Int) ≤ d → (d ∈ ag ↔ Nd rd la ps d)
theorem bk0 {rd : List (Tp Int)} {la ps : List Int} (hs : lostOf rd la ps = []) : BkOk rd la ps rd.length (plD la) [] := by
  refine ⟨plD_keys la, ?_, fun v => ?_, .nil, fun d h => by simp at h, by simp, fun d hd => ⟨fun h => by simp at h, fun h => ?_⟩⟩
  · have := plD_len la; omega
  · rw [plD_mem, decide_eq_true_iff]
    exact ⟨.inl, fun h => h.elim id fun ⟨d, row, z, _⟩ => by simp at z⟩
  · have := (h.deed hs).2.1; omega
theorem BkOk.yes {rd : List (Tp Int)} {la ps ag : List Int} {nd : List (Int × Bool)} {m : Nat} {row : Tp Int} (h : BkOk rd la ps (m + 1) nd ag) (hm : m < rd.length) (hr : rd[m]? = some row) (h3 : row.l.length ≤ 3)
    (h1 : memD nd (m : Int) = true) (h2 : (m : Int) ∉ ps) : BkOk rd la ps m (row.l.foldl (fun m v => dput m v true) nd) (ag ++ [(m : Int)]) := by
  have hN : Nd rd la ps (m : Int) := by
    rcases (h.mm _).mp h1 with z | ⟨d, r, z1, z2, z3⟩
    · exact .base z h2
    · exact .step ((h.it d (by have := h.ge d z1; omega)).mp z1) z2 z3 h2
  refine ⟨fold_keys _ _ h.ks, ?_, fun v => ?_, ?_, fun d hd => ?_, ?_, fun d hd => ?_⟩
  · have e1 := fold_len row.l nd
    have e2 := h.le
    omega
  · rw [fold_put, Bool.or_eq_true, decide_eq_true_iff, h.mm]
    constructor
    · rintro (z | z | ⟨d, r, z1, z2, z3⟩)
      · exact .inr ⟨(m : Int), row, by simp, by rw [Int.toNat_natCast]; exact hr, z⟩
      · exact .inl z
      · exact .inr ⟨d, r, by simp [z1], z2, z3⟩
    · rintro (z | ⟨d, r, z1, z2, z3⟩)
      · exact .inr (.inl z)
      · rcases List.mem_append.mp z1 with y | y
        · exact .inr (.inr ⟨d, r, y, z2, z3⟩)
        · have : d = (m : Int) := by simpa using y
          subst this
          rw [Int.toNat_natCast, hr] at z2
          cases z2
          exact .inl z3
  · rw [List.pairwise_append]
    refine ⟨h.an, by simp, fun a ha b hb => ?_⟩
    have : b = (m : Int) := by simpa using hb
    subst this
    have := h.ge a ha
    show (m : Int) < a
    omega
  · rcases List.mem_append.mp hd with y | y
    · have := h.ge d y; omega
    · have : d = (m : Int) := by simpa using y
      omega
  · have := h.al
    simp only [List.length_append, List.length_cons, List.length_nil]; omega
  · rw [List.mem_append]
    by_cases e : d = (m : Int)
    · subst e
      exact ⟨fun _ => hN, fun _ => .inr (by simp)⟩
    · have := h.it d (by omega)
      rw [← this]
      exact ⟨fun z => z.elim id fun y => absurd (by simpa using y) e, .inl⟩
theorem BkOk.no {rd : List (Tp Int)} {la ps ag : List Int} {nd : List (Int × Bool)} {m : Nat} (src : ∀ (i : Nat) (row : Tp Int), rd[i]? = some row → ∀ s, s ∈ row.l → s < (i : Int)) (hs : lostOf rd la ps = []) (h : BkOk rd la ps (m + 1) nd ag) (hm : m < rd.length)
    (h1 : memD nd (m : Int) = false ∨ (m : Int) ∈ ps) : BkOk rd la ps m nd ag := by
  have hN : ¬ Nd rd la ps (m : Int) := fun n => by
    rcases h1 with h1 | h1
    · have : memD nd (m : Int) = true := by
        rw [h.mm]
        cases n with
        | base z1 z2 => exact .inl z1
        | step z1 z2 z3 z4 =>
          rename_i d row
          obtain ⟨b0, b1, _⟩ := z1.deed hs
          have := src d.toNat row z2 _ z3
          exact .inr ⟨d, row, (h.it d (by omega)).mpr z1, z2, z3⟩
      rw [h1] at this; cases this
    · exact n.not h1
  refine ⟨h.ks, by have := h.le; omega, h.mm, h.an, fun d hd => by have := h.ge d hd; omega, by have := h.al; omega, fun d hd => ?_⟩
  by_cases e : d = (m : Int)
  · subst e
    exact ⟨fun z => by have := h.ge _ z; omega, fun z => absurd z hN⟩
  · exact h.it d (by omega)
theorem BkOk.fin {rd : List (Tp Int)} {la ps ag : List Int} {nd : List (Int × Bool)} (hs : lostOf rd la ps = []) (h : BkOk rd la ps 0 nd ag) : ag.Nodup ∧ ∀ d, d ∈ ag ↔ Nd rd la ps d := by
  refine ⟨List.Pairwise.imp (fun {a b} (z : a > b) => by omega) h.an, fun d => ?_⟩
  by_cases e : 0 ≤ d
  · exact h.it d (by omega)
  · exact ⟨fun z => absurd (by have := h.ge d z; omega) e, fun z => absurd (z.deed hs).1 e⟩
end K02
end
section
set_option Elab.async false
set_option linter.all false
set_option maxRecDepth 100000
/-! More of k02's mirror: presents as plates, versions. -/
namespace K02
open Zq
open PySem (Paired)
theorem la_ok {n : Int} {ks : List Kind} (k : KsOk n ks) : ∀ js : List Int, (∀ j, j ∈ js → 0 ≤ j ∧ j < (ks.length : Int)) → POk n (hist n ks js).wr (hist n ks js).la := by
  intro js
  induction js using snoc_ind with
  | h0 =>
    intro _
    refine ⟨frs_len _, fun c v h => .inl ?_⟩
    have hc : c < n.toNat := by
      have := (List.getElem?_eq_some_iff.mp h).1
      rw [show (hist n ks []).la = frs n.toNat from rfl, frs_len] at this; exact this
    rw [show (hist n ks []).la = frs n.toNat from rfl, frs_get hc] at h
    exact (Option.some.inj h).symm
  | h1 xs x ih =>
    intro h
    have b := h x (by simp)
    have ok := k.at_ _ (kat_mem b.1 b.2)
    have o := ih fun j hj => h j (by simp [hj])
    have ho := hok k xs fun j hj => h j (by simp [hj])
    rw [hist_snoc]
    refine ⟨by show ((hist n ks xs).la.set _ _).length = _; rw [List.length_set]; exact o.len, fun c v hv => ?_⟩
    have hv' : ((hist n ks xs).la.set (kat ks x).1.toNat (xs.length : Int))[c]? = some v := hv
    show v = -1 - (c : Int) ∨ (0 ≤ v ∧ ((hist n ks xs).wr ++ [(kat ks x).1])[v.toNat]? = some (c : Int))
    rw [List.getElem?_set] at hv'
    split at hv'
    · rename_i e
      split at hv'
      · have : v = (xs.length : Int) := (Option.some.inj hv').symm
        subst this
        refine .inr ⟨Int.natCast_nonneg _, ?_⟩
        rw [Int.toNat_natCast, List.getElem?_append_right (by rw [ho.wl]; exact Nat.le_refl _), ho.wl, Nat.sub_self]
        have := ok.c0
        show some (kat ks x).1 = _
        congr 1
        omega
      · cases hv'
    · rcases o.at_ c v hv' with z | ⟨z1, z2⟩
      · exact .inl z
      · exact .inr ⟨z1, by rw [List.getElem?_append_left (List.getElem?_eq_some_iff.mp z2).1]; exact z2⟩
theorem wr_b {n : Int} {ks : List Kind} (k : KsOk n ks) {js : List Int} (j : JOk ks js) : (hist n ks js).wr.length ≤ 400 ∧ ∀ x, x ∈ (hist n ks js).wr → 0 ≤ x ∧ x < n := by
  rw [wr_eq]
  refine ⟨by rw [List.length_map]; exact j.len, fun x hx => ?_⟩
  obtain ⟨a, ha, rfl⟩ := List.mem_map.mp hx
  have := j.ok k ha
  exact ⟨this.c0, this.c1⟩
theorem frs_ok {n : Int} (wr : List Int) : POk n wr (frs n.toNat) := by
  refine ⟨frs_len _, fun c v h => .inl ?_⟩
  have hc : c < n.toNat := by
    have := (List.getElem?_eq_some_iff.mp h).1
    rw [frs_len] at this; exact this
  rw [frs_get hc] at h
  exact (Option.some.inj h).symm
def withF (la cs : List Int) (q : Int × Int) : Int := if q.1 ∈ cs then la.getD q.1.toNat 0 else q.2
theorem with_ok {n : Int} {wr la ps : List Int} (hl : POk n wr la) (hp : POk n wr ps) (cs : List Int) : POk n wr ((nums ps).map (withF la cs)) := by
  refine ⟨by rw [List.length_map, nums_len]; exact hp.len, fun c v h => ?_⟩
  rw [List.getElem?_map] at h
  cases e : (nums ps)[c]? with
  | none => rw [e] at h; cases h
  | some q =>
    rw [e] at h
    have hc : c < ps.length := by
      have := (List.getElem?_eq_some_iff.mp e).1
      rw [nums_len] at this; exact this
    rw [nums_get (List.getElem?_eq_getElem hc)] at e
    have e2 := Option.some.inj e
    have hv : withF la cs q = v := Option.some.inj h
    subst e2
    subst hv
    unfold withF
    dsimp only
    split
    · have hcl : c < la.length := by rw [hl.len, ← hp.len]; exact hc
      have := getD_get (xs := la) (i := c) hcl
      rw [Int.toNat_natCast]
      exact hl.at_ c _ this
    · exact hp.at_ c _ (List.getElem?_eq_getElem hc)
structure VOk (n : Int) (wr : List Int) (m : Nat) (ls : List (List Int)) : Prop where
  len : ls.length = n.toNat
  at_ : ∀ (c : Nat) (l : List Int), ls[c]? = some l → l ≠ [] ∧ l.length ≤ m + 1 ∧ ∀ v, v ∈ l → v = -1 - (c : Int) ∨ (0 ≤ v ∧ wr[v.toNat]? = some (c : Int))
theorem vok0 (n : Int) (wr : List Int) : VOk n wr 0 ((upto n.toNat).map fun i => [-1 - i]) := by
  refine ⟨by rw [List.length_map, upto_len], fun c l h => ?_⟩
  have hc : c < n.toNat := by
    have := (List.getElem?_eq_some_iff.mp h).1
    rwa [List.length_map, upto_len] at this
  rw [List.getElem?_map, upto_get hc] at h
  have := Option.some.inj h
  subst this
  exact ⟨by simp, by simp, fun v hv => .inl (by simpa using hv)⟩
theorem vok_step {n : Int} {wr : List Int} {m i : Nat} {x : Int} {ls : List (List Int)} (o : VOk n wr m ls) (hx : wr[i]? = some x) (h0 : 0 ≤ x) {l : List Int} (hl : ls[x.toNat]? = some l) : VOk n wr (m + 1) (ls.set x.toNat (l ++ [(i : Int)])) := by
  refine ⟨by rw [List.length_set]; exact o.len, fun c l' h => ?_⟩
  rw [List.getElem?_set] at h
  split at h
  · rename_i e
    split at h
    · have := Option.some.inj h
      subst this
      obtain ⟨a1, a2, a3⟩ := o.at_ _ _ hl
      refine ⟨by simp, by rw [List.length_append, List.length_cons, List.length_nil]; omega, fun v hv => ?_⟩
      rcases List.mem_append.mp hv with z | z
      · rw [← e]; exact a3 v z
      · have : v = (i : Int) := by simpa using z
        subst this
        refine .inr ⟨Int.natCast_nonneg _, ?_⟩
        rw [Int.toNat_natCast, hx]
        congr 1
        omega
    · cases h
  · obtain ⟨a1, a2, a3⟩ := o.at_ _ _ h
    exact ⟨a1, by omega, a3⟩
theorem paired_get {α β : Type} {R : α → β → Prop} : ∀ {xs : List α} {ys : List β}, xs.length = ys.length → (∀ (i : Nat) (x : α) (y : β), xs[i]? = some x → ys[i]? = some y → R x y) → Paired R xs ys
  | [], [], _, _ => .nil
  | [], _ :: _, h, _ => by simp at h
  | _ :: _, [], h, _ => by simp at h
  | x :: xs, y :: ys, h, k => .cons (k 0 x y rfl rfl) (paired_get (by simpa using h) fun i a b ha hb => k (i + 1) a b (by simpa using ha) (by simpa using hb))
theorem okM_map {α : Type} [Rep α] [Free α] (k : Nat) : ∀ ls : List (List α), okM k (ls.map fun l => cLst l)
  | [] => trivial
  | l :: ls => ⟨cLst_ok l k, okM_map k ls⟩
theorem okL_mrs (k : Nat) : ∀ (l : List MR), (∀ r, r ∈ l → r.k < k) → okL k l
  | [], _ => trivial
  | r :: l, h => ⟨h r (by simp), okL_mrs k l fun r hr => h r (by simp [hr])⟩
theorem mrs_mem {b n : Nat} {r : MR} (h : r ∈ mrs b n) : r.k < b + 1 + n := by
  unfold mrs at h
  obtain ⟨i, hi, rfl⟩ := List.mem_map.mp h
  have := List.mem_range.mp hi
  show b + 1 + i < _
  omega
def mVers (N : Nat) (ls : List (List Int)) : Mem := cLst (mrs 0 N) :: ls.map fun l => cLst l
theorem cut_vers {N : Nat} {e e' : Env'} {ls : List (List Int)} (hl : ls.length = N) (hf : Frg e e') (he : okE (N + 1) e') : Zq.Cut (N + 1) e (mVers N ls) e' (mVers N ls) := by
  refine ⟨hf, he, ⟨okL_mrs _ _ fun r hr => by have := mrs_mem hr; omega, okM_map _ ls⟩, ?_⟩
  exact List.take_of_length_le (by simp [mVers, hl])
theorem mVers_get {N : Nat} {ls : List (List Int)} {i : Nat} {l : List Int} (h : ls[i]? = some l) : (mVers N ls)[0 + 1 + i]? = some (cLst l) := by
  unfold mVers
  rw [show 0 + 1 + i = i + 1 by omega, List.getElem?_cons_succ, List.getElem?_map, h] <;> rfl
theorem mVers_set {N : Nat} {ls : List (List Int)} {i : Nat} {l : List Int} : (mVers N ls).set (0 + 1 + i) (cLst l) = mVers N (ls.set i l) := by
  unfold mVers
  rw [show 0 + 1 + i = i + 1 by omega, List.set_cons_succ, List.map_set]
theorem melt_vers {N : Nat} {ls : List (List Int)} (hl : ls.length = N) : Melt 0 (mVers N ls) (dy (MR.mk 0)) (dy ls) := by
  refine melt_ll (Nat.le_refl _) (ms := mrs 0 N) rfl (paired_get (by rw [mrs_len, hl]) fun i r l h1 h2 => ⟨Nat.zero_le _, ?_⟩)
  have hi : i < N := by
    have := (List.getElem?_eq_some_iff.mp h1).1
    rwa [mrs_len] at this
  rw [mrs_get hi] at h1
  have := Option.some.inj h1
  subst this
  exact mVers_get h2
/-- one of each cell's versions is plates -/
theorem vok_plates {n : Int} {wr : List Int} {m : Nat} {ls : List (List Int)} (o : VOk n wr m ls) {ps : List Int} (h : Paired (fun (l : List Int) (z : Int) => z ∈ l) ls ps) : POk n wr ps := by
  refine ⟨by rw [← paired_len h]; exact o.len, fun c v hv => ?_⟩
  have key : ∀ {ls : List (List Int)} {ps : List Int} (c : Nat) (v : Int), Paired (fun (l : List Int) (z : Int) => z ∈ l) ls ps → ps[c]? = some v → ∃ l, ls[c]? = some l ∧ v ∈ l := by
    intro ls ps c v h
    induction h generalizing c with
    | nil => intro e; simp at e
    | cons r t ih =>
      intro e
      cases c with
      | zero =>
        have e' := Option.some.inj e
        subst e'
        exact ⟨_, rfl, r⟩
      | succ c =>
        obtain ⟨l, h1, h2⟩ := ih c (by simpa using e)
        exact ⟨l, by simpa using h1, h2⟩
  obtain ⟨l, h1, h2⟩ := key c v h hv
  exact (o.at_ c l h1).2.2 v h2
end K02
end
section
set_option Elab.async false
set_option linter.all false
set_option maxRecDepth 100000
/-! k01's mirror: what a thing must be. -/
namespace K01
open Zq K02
open IsTh (to)
/-! ### told by what it says -/
noncomputable def tf (p : Prop) : Bool := @decide p (Classical.propDecidable p)
theorem tf_t {p : Prop} (h : p) : tf p = true := @decide_eq_true p (Classical.propDecidable p) h
theorem tf_f {p : Prop} (h : ¬ p) : tf p = false := @decide_eq_false p (Classical.propDecidable p) h
theorem tf_iff {p : Prop} {b : Bool} (h : b = true ↔ p) : tf p = b := by
  by_cases q : p
  · rw [tf_t q, h.mpr q]
  · rw [tf_f q]; cases b with | true => exact absurd (h.mp rfl) q | false => rfl
theorem tf_eq {p q : Prop} (h : p ↔ q) : tf p = tf q := by rw [propext h]
/-- numbers, each over the one before -/
def lotP (x : Th) : Prop := ∃ xs : List Int, x = to (Tp.mk xs) ∧ xs.Pairwise (· < ·)
def lotIn (a b : Int) (x : Th) : Prop := ∃ xs : List Int, x = to (Tp.mk xs) ∧ xs.Pairwise (· < ·) ∧ ∀ r, r ∈ xs → a ≤ r ∧ r ≤ b
def kindP (n : Int) (x : Th) : Prop := ∃ k : Zq.Kind, x = to k ∧ KOk n k
def jourP (ks : List Zq.Kind) (x : Th) : Prop := ∃ js : List Int, x = to (Tp.mk js) ∧ JOk ks js
def verP (wr : List Int) (cell : Int) (x : Th) : Prop := ∃ v : Int, x = .int v ∧ (v = -1 - cell ∨ (0 ≤ v ∧ wr[v.toNat]? = some cell))
def platP (n : Int) (wr : List Int) (x : Th) : Prop := ∃ ps : List Int, x = to (Tp.mk ps) ∧ POk n wr ps
/-! ### things that are numbers, tuples of numbers -/
theorem to_int (i : Int) : to i = Th.int i := rfl
theorem map_int_inj : ∀ {xs ys : List Int}, xs.map Th.int = ys.map Th.int → xs = ys
  | [], [], _ => rfl
  | [], _ :: _, h => by simp at h
  | _ :: _, [], h => by simp at h
  | x :: xs, y :: ys, h => by
    rw [List.map_cons, List.map_cons] at h
    injection h with h1 h2
    injection h1 with h1
    rw [h1, map_int_inj h2]
theorem to_tup (xs : List Int) : to (Tp.mk xs) = Th.tup (xs.map Th.int) := rfl
theorem tup_inj {xs ys : List Int} (h : to (Tp.mk xs) = to (Tp.mk ys)) : xs = ys := by
  rw [to_tup, to_tup] at h; injection h with h; exact map_int_inj h
theorem to_kind (k : Zq.Kind) : to k = Th.tup [.int k.1, .tup (k.2.l.map Th.int)] := rfl
theorem kind_inj {k l : Zq.Kind} (h : to k = to l) : k = l := by
  rw [to_kind, to_kind] at h
  injection h with h
  injection h with h1 h2
  injection h1 with h1
  injection h2 with h2
  injection h2 with h2
  obtain ⟨a, ⟨b⟩⟩ := k
  obtain ⟨a', ⟨b'⟩⟩ := l
  have := map_int_inj h2
  simp only at h1 this
  rw [h1, this]
theorem map_kind_inj : ∀ {xs ys : List Zq.Kind}, xs.map (to (α := Zq.Kind)) = ys.map to → xs = ys
  | [], [], _ => rfl
  | [], _ :: _, h => by simp at h
  | _ :: _, [], h => by simp at h
  | x :: xs, y :: ys, h => by
    rw [List.map_cons, List.map_cons] at h
    injection h with h1 h2
    rw [kind_inj h1, map_kind_inj h2]
theorem to_kinds (ks : List Zq.Kind) : to (Tp.mk ks) = Th.tup (ks.map to) := rfl
theorem isInt_bl {x : Th} : (x.isInt && !x.isBl) = true ↔ ∃ i : Int, x = .int i := by
  cases x <;> simp [Th.isInt, Th.isBl]
theorem isInt_ex {x : Th} (h : (x.isInt && !x.isBl) = true) : ∃ i : Int, x = .int i := isInt_bl.mp h
theorem isIn_ex {a b : Int} {x : Th} (h : isIn a b x = true) : ∃ i : Int, x = .int i ∧ a ≤ i ∧ i ≤ b := by
  cases x with
  | int i =>
    unfold isIn at h
    rw [Bool.and_eq_true] at h
    exact ⟨i, rfl, of_decide_eq_true h.1, of_decide_eq_true h.2⟩
  | _ => cases h
theorem below_ex {n : Int} {x : Th} (h : below n x = true) : ∃ i : Int, x = .int i ∧ 0 ≤ i ∧ i < n := by
  cases x with
  | int i =>
    unfold below at h
    rw [Bool.and_eq_true] at h
    exact ⟨i, rfl, of_decide_eq_true h.1, of_decide_eq_true h.2⟩
  | _ => cases h
/-! ### growing -/
theorem asc_snoc {xs : List Int} {v : Int} : (xs ++ [v]).Pairwise (· < ·) ↔ xs.Pairwise (· < ·) ∧ ∀ u, xs[xs.length - 1]? = some u → u < v := by
  rw [List.pairwise_append]
  constructor
  · rintro ⟨h1, _, h3⟩
    exact ⟨h1, fun u hu => h3 u (List.mem_of_getElem? hu) v (by simp)⟩
  · rintro ⟨h1, h2⟩
    refine ⟨h1, by simp, fun a ha b hb => ?_⟩
    obtain rfl : b = v := by simpa using hb
    obtain ⟨i, hi⟩ := List.mem_iff_getElem?.mp ha
    have hl : i < xs.length := (List.getElem?_eq_some_iff.mp hi).1
    have hl1 : xs.length - 1 < xs.length := by omega
    have hu := h2 _ (List.getElem?_eq_getElem hl1)
    rcases Nat.lt_or_ge i (xs.length - 1) with z | z
    · have := List.pairwise_iff_getElem.mp h1 i (xs.length - 1) hl hl1 z
      rw [List.getElem?_eq_getElem hl] at hi
      cases hi; omega
    · have e : i = xs.length - 1 := by omega
      subst e
      rw [List.getElem?_eq_getElem hl] at hi
      cases hi; exact hu
theorem nums_snd {α : Type} [Rep α] (xs : List α) : (nums xs).map (·.2) = xs := by
  induction xs using snoc_ind with
  | h0 => rfl
  | h1 xs x ih => rw [nums_snoc, List.map_append, ih]; rfl
theorem nums_cut {α : Type} [Rep α] {xs : List α} {pre post : List (Int × α)} {y : Int × α} (e : nums xs = pre ++ y :: post) : xs = pre.map (·.2) ++ y.2 :: post.map (·.2) := by
  have := congrArg (List.map (·.2)) e
  rw [nums_snd, List.map_append, List.map_cons] at this
  exact this
theorem kbef_asc {ks : List Zq.Kind} {k : Zq.Kind} (h : ks.Pairwise fun x y => kbef x y = true) (h2 : ∀ u, ks[ks.length - 1]? = some u → kbef u k = true) : (ks ++ [k]).Pairwise fun x y => kbef x y = true := by
  rw [List.pairwise_append]
  refine ⟨h, by simp, fun a ha b hb => ?_⟩
  obtain rfl : b = k := by simpa using hb
  obtain ⟨i, hi⟩ := List.mem_iff_getElem?.mp ha
  have hl : i < ks.length := (List.getElem?_eq_some_iff.mp hi).1
  have hl1 : ks.length - 1 < ks.length := by omega
  have hu := h2 _ (List.getElem?_eq_getElem hl1)
  rcases Nat.lt_or_ge i (ks.length - 1) with z | z
  · have := List.pairwise_iff_getElem.mp h i (ks.length - 1) hl hl1 z
    rw [List.getElem?_eq_getElem hl] at hi
    cases hi; exact Zr.klt_trans this hu
  · have e : i = ks.length - 1 := by omega
    subst e
    rw [List.getElem?_eq_getElem hl] at hi
    cases hi; exact hu
/-! ### which table is refused, and how -/
/-- the kinds before i are right -/
def upTo (n : Int) (l : List Th) (i : Nat) : Prop := ∃ ks : List Zq.Kind, l.take i = ks.map to ∧ (∀ k, k ∈ ks → KOk n k) ∧ ks.Pairwise fun x y => kbef x y = true
inductive Due (c k : Th) : Option (Prt × Int) → Prop
  | cells (h : isIn 1 8 c = false) : Due c k (some (.cells, -1))
  | kinds (h : isIn 1 8 c = true) (h2 : ¬ ∃ l, k = .tup l ∧ 1 ≤ l.length ∧ l.length ≤ 40) : Due c k (some (.kinds, -1))
  | at_ {n : Int} {l : List Th} {i : Nat} (h : isIn 1 8 c = true) (h1 : c = .int n) (h2 : k = .tup l) (h3 : l.length ≤ 40) (h4 : i < l.length) (h5 : upTo n l i) (h6 : ¬ upTo n l (i + 1)) : Due c k (some (.kinds, (i : Int)))
  | ok {n : Int} {ks : List Zq.Kind} (h1 : c = .int n) (h2 : k = to (Tp.mk ks)) (h3 : KsOk n ks) : Due c k none
theorem upTo_less {n : Int} {l : List Th} {i j : Nat} (h : upTo n l j) (hij : i ≤ j) : upTo n l i := by
  obtain ⟨ks, h1, h2, h3⟩ := h
  refine ⟨ks.take i, ?_, fun k hk => h2 k (List.mem_of_mem_take hk), h3.sublist (List.take_sublist _ _)⟩
  rw [List.map_take, ← h1, List.take_take, Nat.min_eq_left hij]
theorem upTo_all {n : Int} {ks : List Zq.Kind} (h : KsOk n ks) (i : Nat) : upTo n (ks.map to) i :=
  ⟨ks.take i, by rw [List.map_take], fun k hk => h.at_ k (List.mem_of_mem_take hk), h.asc.sublist (List.take_sublist _ _)⟩
theorem isIn_of {n : Int} {ks : List Zq.Kind} (h : KsOk n ks) : isIn 1 8 (.int n) = true := by
  show (decide (1 ≤ n) && decide (n ≤ 8)) = true
  rw [decide_eq_true h.n1, decide_eq_true h.n8]; rfl
theorem Due.uniq {c k : Th} {d e : Option (Prt × Int)} (h : Due c k d) (h' : Due c k e) : d = e := by
  cases h with
  | cells h =>
    cases h' with
    | cells => rfl
    | kinds g => rw [h] at g; cases g
    | at_ g => rw [h] at g; cases g
    | ok g1 g2 g3 => rw [g1, isIn_of g3] at h; cases h
  | kinds h h2 =>
    cases h' with
    | cells g => rw [h] at g; cases g
    | kinds => rfl
    | at_ g g1 g2 g3 g4 => exact absurd ⟨_, g2, by omega, g3⟩ h2
    | ok g1 g2 g3 => exact absurd ⟨_, g2, by rw [List.length_map]; exact g3.k1, by rw [List.length_map]; exact g3.k40⟩ h2
  | at_ h h1 h2 h3 h4 h5 h6 =>
    cases h' with
    | cells g => rw [h] at g; cases g
    | kinds g g2 => exact absurd ⟨_, h2, by omega, h3⟩ g2
    | at_ g g1 g2 g3 g4 g5 g6 =>
      rw [h1] at g1; cases g1
      rw [h2] at g2; cases g2
      rename_i n l i j
      rcases Nat.lt_trichotomy i j with z | z | z
      · exact absurd (upTo_less g5 z) h6
      · rw [z]
      · exact absurd (upTo_less h5 z) g6
    | ok g1 g2 g3 =>
      rw [h1] at g1; cases g1
      rw [h2, to_kinds] at g2; cases g2
      exact absurd (upTo_all g3 _) h6
  | ok h1 h2 h3 =>
    cases h' with
    | cells g => rw [h1, isIn_of h3] at g; cases g
    | kinds g g2 => exact absurd ⟨_, h2, by rw [List.length_map]; exact h3.k1, by rw [List.length_map]; exact h3.k40⟩ g2
    | at_ g g1 g2 g3 g4 g5 g6 =>
      rw [h1] at g1; cases g1
      rw [g2, to_kinds] at h2; cases h2
      exact absurd (upTo_all h3 _) g6
    | ok => rfl
/-- all kinds are right: so the table is -/
theorem upTo_ks {n : Int} {l : List Th} (h0 : isIn 1 8 (.int n) = true) (h1 : 1 ≤ l.length) (h2 : l.length ≤ 40) (h : upTo n l l.length) : ∃ ks : List Zq.Kind, l = ks.map to ∧ KsOk n ks := by
  obtain ⟨ks, g1, g2, g3⟩ := h
  rw [List.take_length] at g1
  obtain ⟨i, hi, a, b⟩ := isIn_ex h0
  cases hi
  have hl : ks.length = l.length := by rw [g1, List.length_map]
  exact ⟨ks, g1, ⟨a, b, g2, by omega, by omega, g3⟩⟩
theorem upTo_0 (n : Int) (l : List Th) : upTo n l 0 := ⟨[], by simp, by simp, .nil⟩
theorem upTo_bad {n : Int} {l : List Th} {i : Nat} {x : Th} (hx : l[i]? = some x) (h : ¬ kindP n x) : ¬ upTo n l (i + 1) := by
  rintro ⟨ks, g1, g2, g3⟩
  have hl := (List.getElem?_eq_some_iff.mp hx).1
  have e : (l.take (i + 1))[i]? = some x := by rw [List.getElem?_take, if_pos (Nat.lt_succ_self i)]; exact hx
  rw [g1, List.getElem?_map] at e
  cases q : ks[i]? with
  | none => rw [q] at e; cases e
  | some k =>
    rw [q] at e
    have e : to k = x := by simpa using e
    exact h ⟨k, e.symm, g2 k (List.mem_of_getElem? q)⟩
theorem upTo_last {n : Int} {l : List Th} {i : Nat} (h : upTo n l i) (h0 : 0 < i) (hl : i ≤ l.length) : ∃ k : Zq.Kind, l[i - 1]? = some (to k) ∧ KOk n k := by
  obtain ⟨ks, g1, g2, g3⟩ := h
  have len : ks.length = i := by
    have := congrArg List.length g1
    rw [List.length_take, List.length_map] at this; omega
  have hk : ks[i - 1]? = some ks[i - 1] := List.getElem?_eq_getElem (by omega)
  refine ⟨ks[i - 1], ?_, g2 _ (List.getElem_mem _)⟩
  have e : (l.take i)[i - 1]? = l[i - 1]? := by rw [List.getElem?_take, if_pos (by omega)]
  rw [← e, g1, List.getElem?_map, hk]; rfl
theorem upTo_step {n : Int} {l : List Th} {i : Nat} {k : Zq.Kind} (h : upTo n l i) (hk : l[i]? = some (to k)) (ok : KOk n k) (hb : ∀ u : Zq.Kind, 0 < i → l[i - 1]? = some (to u) → kbef u k = true) : upTo n l (i + 1) := by
  obtain ⟨ks, g1, g2, g3⟩ := h
  have hl := (List.getElem?_eq_some_iff.mp hk).1
  have len : ks.length = i := by
    have := congrArg List.length g1
    rw [List.length_take, List.length_map] at this; omega
  refine ⟨ks ++ [k], ?_, fun x hx => ?_, kbef_asc g3 fun u hu => ?_⟩
  · rw [List.take_add_one, hk, g1, List.map_append]; rfl
  · rcases List.mem_append.mp hx with z | z
    · exact g2 x z
    · obtain rfl : x = k := by simpa using z
      exact ok
  · have hlt := (List.getElem?_eq_some_iff.mp hu).1
    refine hb u (by omega) ?_
    have e : (l.take i)[i - 1]? = l[i - 1]? := by rw [List.getElem?_take, if_pos (by omega)]
    rw [← e, g1, List.getElem?_map, ← len, hu]; rfl
theorem upTo_desc {n : Int} {l : List Th} {i : Nat} {k u : Zq.Kind} (hk : l[i]? = some (to k)) (h0 : 0 < i) (hu : l[i - 1]? = some (to u)) (hb : kbef u k = false) : ¬ upTo n l (i + 1) := by
  rintro ⟨ks, g1, g2, g3⟩
  have get : ∀ j (x : Zq.Kind), j < i + 1 → l[j]? = some (to x) → ks[j]? = some x := fun j x hj hx => by
    have e : (l.take (i + 1))[j]? = some (to x) := by rw [List.getElem?_take, if_pos hj]; exact hx
    rw [g1, List.getElem?_map] at e
    cases q : ks[j]? with
    | none => rw [q] at e; cases e
    | some y =>
      rw [q] at e
      have e : to y = to x := by simpa using e
      rw [kind_inj e]
  have a := get i k (by omega) hk
  have b := get (i - 1) u (by omega) hu
  obtain ⟨l1, e1⟩ := List.getElem?_eq_some_iff.mp a
  obtain ⟨l2, e2⟩ := List.getElem?_eq_some_iff.mp b
  have := List.pairwise_iff_getElem.mp g3 (i - 1) i l2 l1 (by omega)
  rw [e1, e2, hb] at this
  cases this
theorem ks_inj {n m : Int} {ks ls : List Zq.Kind} (h : to (Tp.mk ks) = to (Tp.mk ls)) : ks = ls := by
  rw [to_kinds, to_kinds] at h; injection h with h; exact map_kind_inj h
end K01
end
section
set_option Elab.async false
set_option linter.all false
set_option maxRecDepth 100000
set_option maxHeartbeats 4000000
namespace K01
open PySem PySem.Spec PyProof.Rows L2 Zq K02
open C8 (Cal Mak pe_c pe_mk pe_gc)
open IsTh (to)
section
variable {P : Program} {w : World} {c : Cc} {mg : Str → Option Value} {base : Heap}
/-- is_integer -/
def sp_is_integer : ASp := fun ds M P => ∃ x : Th, ds = [dy x] ∧ P (dy (x.isInt && !x.isBl)) M
theorem u_is_integer {M : Mem} {P : Dy → Mem → Prop} {x : Int} (h : P (dy true) M) : sp_is_integer [dy x] M P := ⟨.int x, by rw [th_int], h⟩
theorem u_is_integer_th {M : Mem} {P : Dy → Mem → Prop} {x : Th} (h : P (dy (x.isInt && !x.isBl)) M) : sp_is_integer [dy x] M P := ⟨x, rfl, h⟩
/-- is_number_below -/
def sp_is_number_below : ASp := fun ds M P => ∃ (n : Int) (x : Th), ds = [dy n, dy x] ∧ P (dy (below n x)) M
theorem u_is_number_below {M : Mem} {P : Dy → Mem → Prop} {n x : Int} (h : P (dy true) M) (h1 : 0 ≤ x ∧ x < n) : sp_is_number_below [dy n, dy x] M P := ⟨n, .int x, by rw [th_int], by show P (dy (decide (0 ≤ x) && decide (x < n))) M; rw [decide_eq_true h1.1, decide_eq_true h1.2]; exact h⟩
theorem u_is_number_below_th {M : Mem} {P : Dy → Mem → Prop} {n : Int} {x : Th} (h : P (dy (below n x)) M) : sp_is_number_below [dy n, dy x] M P := ⟨n, x, rfl, h⟩
/-- is_lot -/
def sp_is_lot : ASp := fun ds M P => ∃ x : Th, ds = [dy x] ∧ P (dy (tf (lotP x))) M
theorem u_is_lot {M : Mem} {P : Dy → Mem → Prop} {x : Th} (h : P (dy (tf (lotP x))) M) : sp_is_lot [dy x] M P := ⟨x, rfl, h⟩
/-- is_lot_of_cells -/
def sp_is_lot_of_cells : ASp := fun ds M P => ∃ (n : Int) (x : Th), ds = [dy n, dy x] ∧ P (dy (tf (lotIn 0 (n - 1) x))) M
theorem u_is_lot_of_cells {M : Mem} {P : Dy → Mem → Prop} {n : Int} {x : Th} (h : P (dy (tf (lotIn 0 (n - 1) x))) M) : sp_is_lot_of_cells [dy n, dy x] M P := ⟨n, x, rfl, h⟩
theorem kind_in {n : Int} {a b : Th} : kindP n (.tup [a, b]) ↔ below n a = true ∧ lotIn 0 (n - 1) b ∧ ∃ l, b = .tup l ∧ l.length ≤ 3 := by
  constructor
  · rintro ⟨k, h, o⟩
    rw [to_kind] at h
    injection h with h
    injection h with h1 h2
    injection h2 with h2
    subst h1 h2
    refine ⟨?_, ⟨k.2.l, rfl, o.asc, fun r hr => by have := o.r0 r hr; omega⟩, _, rfl, by rw [List.length_map]; exact o.len⟩
    show (decide (0 ≤ k.1) && decide (k.1 < n)) = true
    rw [decide_eq_true o.c0, decide_eq_true o.c1]; rfl
  · rintro ⟨h1, ⟨xs, rfl, ha, hb⟩, l, h3, h4⟩
    obtain ⟨i, rfl, i0, i1⟩ := below_ex h1
    rw [to_tup] at h3
    injection h3 with h3
    subst h3
    rw [List.length_map] at h4
    exact ⟨(i, Tp.mk xs), rfl, i0, i1, ha, fun r hr => by have := hb r hr; omega, h4⟩
/-- is_kind -/
def sp_is_kind : ASp := fun ds M P => ∃ (n : Int) (x : Th), ds = [dy n, dy x] ∧ P (dy (tf (kindP n x))) M
theorem u_is_kind {M : Mem} {P : Dy → Mem → Prop} {n : Int} {x : Th} (h : P (dy (tf (kindP n x))) M) : sp_is_kind [dy n, dy x] M P := ⟨n, x, rfl, h⟩
/-- _law_is_int -/
def sp__law_is_int : ASp := fun ds M P => ∃ (x : Th) (a b : Int), ds = [dy x, dy a, dy b] ∧ P (dy (isIn a b x)) M
theorem u__law_is_int {M : Mem} {P : Dy → Mem → Prop} {x a b : Int} (h : P (dy true) M) (h1 : a ≤ x) (h2 : x ≤ b) : sp__law_is_int [dy x, dy a, dy b] M P := ⟨.int x, a, b, by rw [th_int], by show P (dy (decide (a ≤ x) && decide (x ≤ b))) M; rw [decide_eq_true h1, decide_eq_true h2]; exact h⟩
theorem u__law_is_int_th {M : Mem} {P : Dy → Mem → Prop} {x : Th} {a b : Int} (h : P (dy (isIn a b x)) M) : sp__law_is_int [dy x, dy a, dy b] M P := ⟨x, a, b, rfl, h⟩
/-- _law_flag -/
def sp__law_flag : ASp := fun ds M P => ∃ x y : Bool, ds = [dy x, dy y] ∧ P (dy (decide (x = y))) M
theorem u__law_flag {M : Mem} {P : Dy → Mem → Prop} {x y : Bool} (h : P (dy (decide (x = y))) M) : sp__law_flag [dy x, dy y] M P := ⟨x, y, rfl, h⟩
/-- _law_history -/
def sp__law_history : ASp := fun ds M P => ∃ (n : Int) (ks : List Zq.Kind) (js : List Int), ds = [dy n, dy (Tp.mk ks), dy (Tp.mk js)] ∧ KsOk n ks ∧ JOk ks js ∧ P (dy (T3.mk (hist n ks js).wr (hist n ks js).rd (hist n ks js).la)) M
theorem u__law_history {M : Mem} {P : Dy → Mem → Prop} {n : Int} {ks : List Zq.Kind} {js : List Int} (h : P (dy (T3.mk (hist n ks js).wr (hist n ks js).rd (hist n ks js).la)) M) (h1 : KsOk n ks) (h2 : JOk ks js) : sp__law_history [dy n, dy (Tp.mk ks), dy (Tp.mk js)] M P := ⟨n, ks, js, rfl, h1, h2, h⟩
/-- _law_draw -/
def sp__law_draw : ASp := fun ds M P => ∃ many : Int, ds = [dy (MR.mk 0), dy many] ∧ M = [cHand] ∧ 1 ≤ many ∧ many ≤ 1000 ∧ ∀ r : Int, 0 ≤ r → r < many → P (dy r) [cHand]
theorem u__law_draw {P : Dy → Mem → Prop} {many : Int} (h : ∀ r : Int, 0 ≤ r → r < many → P (dy r) [cHand]) (h1 : 1 ≤ many) (h2 : many ≤ 1000) : sp__law_draw [dy (MR.mk 0), dy many] [cHand] P := ⟨many, rfl, rfl, h1, h2, h⟩
/-- _law_any -/
def sp__law_any : ASp := fun ds M P => ∃ (xs : List Th), ds = [dy (MR.mk 0), dy xs] ∧ M = [cHand] ∧ xs ≠ [] ∧ xs.length ≤ 1000 ∧ ∀ r : Th, r ∈ xs → P (dy r) [cHand]
theorem u__law_any {P : Dy → Mem → Prop} {xs : List Int} (h : ∀ r : Int, r ∈ xs → P (dy r) [cHand]) (h1 : xs ≠ []) (h2 : xs.length ≤ 1000) : sp__law_any [dy (MR.mk 0), dy xs] [cHand] P := ⟨xs.map .int, by rw [th_ints], rfl, by simpa using h1, by rw [List.length_map]; exact h2, fun t ht => by obtain ⟨r, hr, rfl⟩ := List.mem_map.mp ht; rw [th_int]; exact h r hr⟩
theorem u__law_any_th {P : Dy → Mem → Prop} {xs : List Th} (h : ∀ r : Th, r ∈ xs → P (dy r) [cHand]) (h1 : xs ≠ []) (h2 : xs.length ≤ 1000) : sp__law_any [dy (MR.mk 0), dy xs] [cHand] P := ⟨xs, rfl, rfl, h1, h2, h⟩
/-- _law_kinds -/
def sp__law_kinds : ASp := fun ds M P => ∃ (n most : Int), ds = [dy (MR.mk 0), dy n, dy most, dy (3 : Int)] ∧ M = [cHand] ∧ 1 ≤ n ∧ n ≤ 8 ∧ 1 ≤ most ∧ most ≤ 12 ∧ ∀ ks : List Zq.Kind, KsOk n ks → P (dy (Tp.mk ks)) [cHand]
theorem u__law_kinds {P : Dy → Mem → Prop} {n most : Int} (h : ∀ ks : List Zq.Kind, KsOk n ks → P (dy (Tp.mk ks)) [cHand]) (h1 : 1 ≤ n) (h2 : n ≤ 8) (h3 : 1 ≤ most) (h4 : most ≤ 12) : sp__law_kinds [dy (MR.mk 0), dy n, dy most, dy (3 : Int)] [cHand] P := ⟨n, most, rfl, rfl, h1, h2, h3, h4, h⟩
/-- is_journal -/
def sp_is_journal : ASp := fun ds M P => ∃ (t : Tab) (x : Th), ds = [dy t, dy x] ∧ t.kinds.l.length ≤ 1000 ∧ P (dy (tf (jourP t.kinds.l x))) M
theorem u_is_journal {M : Mem} {P : Dy → Mem → Prop} {t : Tab} {x : Th} (h : P (dy (tf (jourP t.kinds.l x))) M) (h1 : t.kinds.l.length ≤ 1000) : sp_is_journal [dy t, dy x] M P := ⟨t, x, rfl, h1, h⟩
theorem u_is_journal_ty {M : Mem} {P : Dy → Mem → Prop} {t : Tab} {js : List Int} (h : P (dy true) M) (h1 : JOk t.kinds.l js) (h2 : t.kinds.l.length ≤ 1000) : sp_is_journal [dy t, dy (Tp.mk js)] M P := ⟨t, to (Tp.mk js), by rw [IsTh.eq], h2, by rw [tf_t ⟨js, rfl, h1⟩]; exact h⟩
/-- check_journal -/
def sp_check_journal : ASp := fun ds M P => ∃ (t : Tab) (js : List Int), ds = [dy t, dy (Tp.mk js)] ∧ t.kinds.l.length ≤ 1000 ∧ JOk t.kinds.l js ∧ P (dy ()) M
theorem u_check_journal {M : Mem} {P : Dy → Mem → Prop} {t : Tab} {js : List Int} (h : P (dy ()) M) (h1 : JOk t.kinds.l js) (h2 : t.kinds.l.length ≤ 1000) : sp_check_journal [dy t, dy (Tp.mk js)] M P := ⟨t, js, rfl, h2, h1, h⟩
/-- is_version -/
def sp_is_version : ASp := fun ds M P => ∃ (t : Tab) (js : List Int) (cell : Int) (x : Th), ds = [dy t, dy (Tp.mk js), dy cell, dy x] ∧ JOk t.kinds.l js ∧ 0 ≤ cell ∧ P (dy (tf (verP (hist t.cells t.kinds.l js).wr cell x))) M
theorem u_is_version {M : Mem} {P : Dy → Mem → Prop} {t : Tab} {js : List Int} {cell : Int} {x : Th} (h : P (dy (tf (verP (hist t.cells t.kinds.l js).wr cell x))) M) (h2 : JOk t.kinds.l js) (h3 : 0 ≤ cell) : sp_is_version [dy t, dy (Tp.mk js), dy cell, dy x] M P := ⟨t, js, cell, x, rfl, h2, h3, h⟩
/-- is_plates -/
def sp_is_plates : ASp := fun ds M P => ∃ (t : Tab) (js : List Int) (x : Th), ds = [dy t, dy (Tp.mk js), dy x] ∧ KsOk t.cells t.kinds.l ∧ JOk t.kinds.l js ∧ P (dy (tf (platP t.cells (hist t.cells t.kinds.l js).wr x))) M
theorem u_is_plates {M : Mem} {P : Dy → Mem → Prop} {t : Tab} {js : List Int} {x : Th} (h : P (dy (tf (platP t.cells (hist t.cells t.kinds.l js).wr x))) M) (h1 : KsOk t.cells t.kinds.l) (h2 : JOk t.kinds.l js) : sp_is_plates [dy t, dy (Tp.mk js), dy x] M P := ⟨t, js, x, rfl, h1, h2, h⟩
/-- _law_is_lot -/
def sp__law_is_lot : ASp := fun ds M P => ∃ (x : Th) (a b : Int), ds = [dy x, dy a, dy b] ∧ (∀ l, x = .tup l → l.length ≤ 1000) ∧ P (dy (tf (lotIn a b x))) M
theorem u__law_is_lot {M : Mem} {P : Dy → Mem → Prop} {x : Th} {a b : Int} (h : P (dy (tf (lotIn a b x))) M) (h1 : ∀ l, x = .tup l → l.length ≤ 1000) : sp__law_is_lot [dy x, dy a, dy b] M P := ⟨x, a, b, rfl, h1, h⟩
/-- _law_is_kind -/
def sp__law_is_kind : ASp := fun ds M P => ∃ (n : Int) (x : Th), ds = [dy n, dy x] ∧ x.wid 1000 ∧ P (dy (tf (kindP n x))) M
theorem u__law_is_kind {M : Mem} {P : Dy → Mem → Prop} {n : Int} {x : Th} (h : P (dy (tf (kindP n x))) M) (h1 : x.wid 1000) : sp__law_is_kind [dy n, dy x] M P := ⟨n, x, rfl, h1, h⟩
/-- _law_due -/
def sp__law_due : ASp := fun ds M P => ∃ (x k : Th), ds = [dy x, dy k] ∧ k.wid 1000 ∧ ∀ d, Due x k d → P (dy d) M
theorem u__law_due {M : Mem} {P : Dy → Mem → Prop} {x k : Th} (h : ∀ d, Due x k d → P (dy d) M) (h1 : k.wid 1000) : sp__law_due [dy x, dy k] M P := ⟨x, k, rfl, h1, h⟩
/-- Table.__init__ -/
def sp_Table_init (c : Cc) : ASpX := fun ds M P PX => ∃ (x k : Th), ds = [dy (MR.mk 0), dy x, dy k] ∧ M = [cIns (c.cls "Table") 0 []] ∧ (∀ n ks, x = .int n → k = to (Tp.mk ks) → KsOk n ks → P (dy ()) [cIns (c.cls "Table") 2 [(("kinds" : Str), dy (Tp.mk ks)), (("cells" : Str), dy n)]]) ∧ ∀ p, Due x k (some p) → PX (badX c p) [cIns (c.cls "Table") 0 []]
def sp_Table_initC (c : Cc) : ASp := fun ds M P => sp_Table_init c ds M P fun _ _ => False
theorem u_Table_initC {c : Cc} {P : Dy → Mem → Prop} {n : Int} {ks : List Zq.Kind} (h : P (dy ()) [cIns (c.cls "Table") 2 [(("kinds" : Str), dy (Tp.mk ks)), (("cells" : Str), dy n)]]) (h1 : KsOk n ks) : sp_Table_initC c [dy (MR.mk 0), dy n, dy (Tp.mk ks)] [cIns (c.cls "Table") 0 []] P := ⟨.int n, to (Tp.mk ks), by rw [th_int, IsTh.eq], rfl, fun n' ks' e e' _ => by cases e; rw [ks_inj (n := 0) (m := 0) e'] at h; exact h, fun p q => by cases (Due.uniq q (.ok rfl rfl h1))⟩
/-- Table.__eq__ -/
def sp_Table_eq (c : Cc) : ASp := fun ds M P => ∃ (t : Tab) (x : Tz), ds = [dy t, dy x] ∧ (∀ y, x = .inr y → y.cls = c.cls "BadTable") ∧ P (dy (tf (x = .inl (.tab t)))) M
theorem u_Table_eq {M : Mem} {P : Dy → Mem → Prop} {c : Cc} {t : Tab} {x : Tz} (h : P (dy (tf (x = .inl (.tab t)))) M) (h1 : ∀ y, x = .inr y → y.cls = c.cls "BadTable") : sp_Table_eq c [dy t, dy x] M P := ⟨t, x, rfl, h1, h⟩
/-- _law_told -/
def sp__law_told : ASp := fun ds M P => ∃ (x k : Th), ds = [dy x, dy k] ∧ (∀ n ks, x = .int n → k = to (Tp.mk ks) → KsOk n ks → P (dy ((), (Tab.mk n ⟨ks⟩))) M) ∧ ∀ p, Due x k (some p) → P (dy (p, ())) M
theorem u__law_told {M : Mem} {P : Dy → Mem → Prop} {x k : Th} (h : ∀ n ks, x = .int n → k = to (Tp.mk ks) → KsOk n ks → P (dy ((), (Tab.mk n ⟨ks⟩))) M) (h1 : ∀ p, Due x k (some p) → P (dy (p, ())) M) : sp__law_told [dy x, dy k] M P := ⟨x, k, rfl, h, h1⟩
/-- _law_deep -/
def sp__law_deep : ASp := fun ds M P => ∃ n : Int, ds = [dy n] ∧ 0 ≤ n ∧ n ≤ 31 ∧ ∀ x : Th, x.wid 1 → P (dy x) M
theorem u__law_deep {M : Mem} {P : Dy → Mem → Prop} {n : Int} (h : ∀ x : Th, x.wid 1 → P (dy x) M) (h1 : 0 ≤ n) (h2 : n ≤ 31) : sp__law_deep [dy n] M P := ⟨n, rfl, h1, h2, h⟩
/-- _law_odd -/
def sp__law_odd : ASp := fun ds M P => ∃ t : Th, ds = [dy (MR.mk 0), dy t] ∧ M = [cHand] ∧ t.wid 2 ∧ ∀ x : Th, x.wid 2 → P (dy x) [cHand]
theorem u__law_odd {P : Dy → Mem → Prop} {α : Type} [Rep α] [IsTh α] {t : α} (h : ∀ x : Th, x.wid 2 → P (dy x) [cHand]) (h1 : (to t).wid 2) : sp__law_odd [dy (MR.mk 0), dy t] [cHand] P := ⟨to t, by rw [IsTh.eq], rfl, h1, h⟩
/-- _law_table -/
def sp__law_table : ASp := fun ds M P => ∃ n0 : Int, ds = [dy (MR.mk 0), dy n0] ∧ M = [cHand] ∧ 1 ≤ n0 ∧ n0 ≤ 8 ∧ ∀ (n : Int) (ks : List Zq.Kind), KsOk n ks → P (dy (n, Tp.mk ks)) [cHand]
theorem u__law_table {P : Dy → Mem → Prop} {n0 : Int} (h : ∀ (n : Int) (ks : List Zq.Kind), KsOk n ks → P (dy (n, Tp.mk ks)) [cHand]) (h1 : 1 ≤ n0) (h2 : n0 ≤ 8) : sp__law_table [dy (MR.mk 0), dy n0] [cHand] P := ⟨n0, rfl, rfl, h1, h2, h⟩
/-- _law_journal -/
def sp__law_journal : ASp := fun ds M P => ∃ (ks : List Zq.Kind) (most : Int), ds = [dy (MR.mk 0), dy (Tp.mk ks), dy most] ∧ M = [cHand] ∧ 1 ≤ ks.length ∧ ks.length ≤ 40 ∧ 0 ≤ most ∧ most ≤ 60 ∧ ∀ js : List Int, JOk ks js → js.length ≤ 60 → P (dy (Tp.mk js)) [cHand]
theorem u__law_journal {P : Dy → Mem → Prop} {ks : List Zq.Kind} {most : Int} (h : ∀ js : List Int, JOk ks js → js.length ≤ 60 → P (dy (Tp.mk js)) [cHand]) (h1 : 1 ≤ ks.length) (h2 : ks.length ≤ 40) (h3 : 0 ≤ most) (h4 : most ≤ 60) : sp__law_journal [dy (MR.mk 0), dy (Tp.mk ks), dy most] [cHand] P := ⟨ks, most, rfl, rfl, h1, h2, h3, h4, h⟩
structure VAll (n : Int) (wr : List Int) (m : Nat) (ls : List (List Int)) : Prop where
  ok : VOk n wr m ls
  all : ∀ (c : Nat) (l : List Int), ls[c]? = some l → ∀ v : Int, v = -1 - (c : Int) ∨ (0 ≤ v ∧ v < (m : Int) ∧ wr[v.toNat]? = some (c : Int)) → v ∈ l
/-- _law_versions -/
def sp__law_versions : ASp := fun ds M P => ∃ (n : Int) (wr : List Int), ds = [dy n, dy wr] ∧ 1 ≤ n ∧ n ≤ 8 ∧ wr.length ≤ 400 ∧ (∀ x, x ∈ wr → 0 ≤ x ∧ x < n) ∧ ∀ ls : List (List Int), VAll n wr wr.length ls → P (dy ls) M
theorem u__law_versions {M : Mem} {P : Dy → Mem → Prop} {n : Int} {wr : List Int} (h : ∀ ls : List (List Int), VAll n wr wr.length ls → P (dy ls) M) (h1 : 1 ≤ n) (h2 : n ≤ 8) (h3 : wr.length ≤ 400) (h4 : ∀ x, x ∈ wr → 0 ≤ x ∧ x < n) : sp__law_versions [dy n, dy wr] M P := ⟨n, wr, rfl, h1, h2, h3, h4, h⟩
def fit (B : Nat) (l : List Th) : Prop := l.length ≤ B ∧ ∀ x, x ∈ l → x.wid B
theorem fit_mono {B C : Nat} {l : List Th} (h : B ≤ C) (f : fit B l) : fit C l := ⟨by have := f.1; omega, fun x hx => Th.wid_mono h x (f.2 x hx)⟩
theorem fit_tup {B : Nat} {l : List Th} : (Th.tup l).wid B ↔ fit B l := wid_tup
theorem fit_put {B : Nat} {l : List Th} (f : fit B l) {x : Th} (hx : x.wid (B + 1)) (i j : Nat) (h : i ≤ j) : fit (B + 1) ((l.take i ++ [x]) ++ l.drop j) := by
  have f1 := f.1
  refine ⟨?_, fun y hy => ?_⟩
  · rw [List.length_append, List.length_append, List.length_take, List.length_drop]
    simp only [List.length_cons, List.length_nil]
    omega
  · rcases List.mem_append.mp hy with z | z
    · rcases List.mem_append.mp z with w | w
      · exact Th.wid_mono (by omega) y (f.2 y (List.mem_of_mem_take w))
      · have : y = x := by simpa using w
        rw [this]; exact hx
    · exact Th.wid_mono (by omega) y (f.2 y (List.mem_of_mem_drop z))
theorem fit_more {B : Nat} {l : List Th} (f : fit B l) {x : Th} (hx : x.wid (B + 1)) : fit (B + 1) (l ++ [x]) := by
  have f1 := f.1
  refine ⟨by rw [List.length_append]; simp only [List.length_cons, List.length_nil]; omega, fun y hy => ?_⟩
  rcases List.mem_append.mp hy with z | z
  · exact Th.wid_mono (by omega) y (f.2 y z)
  · have : y = x := by simpa using z
    rw [this]; exact hx
theorem fit_less {B : Nat} {l : List Th} (f : fit B l) (i : Nat) : fit (B + 1) (l.take i) := ⟨by have := f.1; rw [List.length_take]; omega, fun y hy => Th.wid_mono (by omega) y (f.2 y (List.mem_of_mem_take hy))⟩
theorem fit_rev {B : Nat} {l : List Th} (f : fit B l) : fit B l.reverse := ⟨by rw [List.length_reverse]; exact f.1, fun y hy => f.2 y (List.mem_reverse.mp hy)⟩
theorem fit3 {B : Nat} {x y z : Th} (h : 3 ≤ B) (a : x.wid B) (b : y.wid B) (d : z.wid B) : fit B [x, y, z] := ⟨h, fun w hw => by
  simp only [List.mem_cons, List.not_mem_nil, or_false] at hw
  rcases hw with rfl | rfl | rfl <;> assumption⟩
theorem fit2 {B : Nat} {x y : Th} (h : 3 ≤ B) (a : x.wid B) (b : y.wid B) : fit B [x, y] := ⟨by show 2 ≤ B; omega, fun w hw => by
  simp only [List.mem_cons, List.not_mem_nil, or_false] at hw
  rcases hw with rfl | rfl <;> assumption⟩
theorem fit0 {B : Nat} (h : 3 ≤ B) : (Th.tup [.int 0]).wid B := fit_tup.mpr ⟨by show 1 ≤ B; omega, fun w hw => by
  have : w = .int 0 := by simpa using hw
  rw [this]; exact wid_int 0⟩
theorem to_tt (l : List Th) : IsTh.to (Tp.mk l) = Th.tup l := by show Th.tup (l.map id) = _; rw [List.map_id]
theorem to_ll (l : List Th) : IsTh.to l = Th.lst l := by show Th.lst (l.map id) = _; rw [List.map_id]
theorem th_w (a b d : List Th) : dy (T3.mk (Tp.mk a) (Tp.mk b) (Tp.mk d)) = dy (Th.tup [.tup a, .tup b, .tup d]) := by
  rw [← IsTh.eq]; show dy (Th.tup [IsTh.to (Tp.mk a), IsTh.to (Tp.mk b), IsTh.to (Tp.mk d)]) = _; rw [to_tt, to_tt, to_tt]
theorem th_wl (a b d : List Th) : dy (T3.mk (Tp.mk a) b (Tp.mk d)) = dy (Th.tup [.tup a, .lst b, .tup d]) := by
  rw [← IsTh.eq]; show dy (Th.tup [IsTh.to (Tp.mk a), IsTh.to b, IsTh.to (Tp.mk d)]) = _; rw [to_tt, to_ll, to_tt]
theorem th_p (a b : List Th) : dy (Tp.mk a, Tp.mk b) = dy (Th.tup [.tup a, .tup b]) := by
  rw [← IsTh.eq]; show dy (Th.tup [IsTh.to (Tp.mk a), IsTh.to (Tp.mk b)]) = _; rw [to_tt, to_tt]
theorem th_l3 (a b d : List Th) : dy [Tp.mk a, Tp.mk b, Tp.mk d] = dy (Th.lst [.tup a, .tup b, .tup d]) := by
  rw [← IsTh.eq]; show dy (Th.lst [IsTh.to (Tp.mk a), IsTh.to (Tp.mk b), IsTh.to (Tp.mk d)]) = _; rw [to_tt, to_tt, to_tt]

theorem dy_tup (js : List Int) : dy (Tp.mk js) = dy (Th.tup (js.map Th.int)) := (IsTh.eq (Tp.mk js)).symm
theorem fit_two {B : Nat} {x y : Th} (h : 2 ≤ B) (a : x.wid B) (b : y.wid B) : (Th.tup [x, y]).wid B := fit_tup.mpr ⟨h, fun w hw => by
  simp only [List.mem_cons, List.not_mem_nil, or_false] at hw
  rcases hw with rfl | rfl <;> assumption⟩
theorem fit_four {B : Nat} (h : 4 ≤ B) : (Th.tup [.int 0, .int 1, .int 2, .int 3]).wid B := fit_tup.mpr ⟨h, fun w hw => by
  simp only [List.mem_cons, List.not_mem_nil, or_false] at hw
  rcases hw with rfl | rfl | rfl | rfl <;> exact wid_int _⟩
theorem fit_one {B : Nat} (h : 1 ≤ B) {x : Th} (hx : x.wid B) : (Th.tup [x]).wid B := fit_tup.mpr ⟨h, fun w hw => by
  have : w = x := by simpa using hw
  rw [this]; exact hx⟩
theorem fit_lst {B : Nat} {l : List Th} (h : fit B l) : (Th.lst l).wid B := wid_lst.mpr h
theorem fit_nil {B : Nat} : (Th.tup []).wid B := fit_tup.mpr ⟨Nat.zero_le _, fun w hw => by simp at hw⟩
theorem fit_turn {B : Nat} {l : List Th} (f : fit B l) (i : Nat) : fit B (l.drop i ++ l.take i) := by
  have f1 := f.1
  refine ⟨by rw [List.length_append, List.length_drop, List.length_take]; omega, fun y hy => ?_⟩
  rcases List.mem_append.mp hy with z | z
  · exact f.2 y (List.mem_of_mem_drop z)
  · exact f.2 y (List.mem_of_mem_take z)
theorem cut_tail {δ : Type} (xs : List δ) : cutL xs (some (-1)) none = xs.drop (xs.length - 1) := by
  unfold cutL HT.sIx
  simp only
  rw [if_pos (by decide), List.take_of_length_le]
  · congr 1
    omega
  · rw [List.length_drop]; exact Nat.le_refl _
theorem fit_twice {B : Nat} {l : List Th} (f : fit B l) : fit (B + 1) (l ++ l.drop (l.length - 1)) := by
  have f1 := f.1
  refine ⟨by rw [List.length_append, List.length_drop]; omega, fun y hy => ?_⟩
  rcases List.mem_append.mp hy with z | z
  · exact Th.wid_mono (by omega) y (f.2 y z)
  · exact Th.wid_mono (by omega) y (f.2 y (List.mem_of_mem_drop z))
theorem fit_ahead {B : Nat} {l : List Th} (f : fit B l) {x : Th} (hx : x.wid (B + 1)) : fit (B + 1) (x :: l) := by
  have f1 := f.1
  refine ⟨by simp only [List.length_cons]; omega, fun y hy => ?_⟩
  rcases List.mem_cons.mp hy with rfl | z
  · exact hx
  · exact Th.wid_mono (by omega) y (f.2 y z)
theorem th_mk (l : List Th) : dy (Tp.mk l) = dy (Th.tup l) := (th_tup l).symm
theorem th_lk (l : List Th) : dy l = dy (Th.lst l) := (th_lst l).symm
theorem th_pair (a b : Th) : dy (a, b) = dy (Th.tup [a, b]) := (th_two a b).symm
theorem th_ptup (a : Th) (b : List Th) : dy (a, Tp.mk b) = dy (Th.tup [a, .tup b]) := by
  rw [← IsTh.eq (a, Tp.mk b)]
  show dy (Th.tup [to a, to (Tp.mk b)]) = _
  rw [to_tt]; rfl
theorem dy_pair {α β γ δ : Type} [Rep α] [Rep β] [Rep γ] [Rep δ] {a : α} {b : β} {a' : γ} {b' : δ} (h1 : dy a = dy a') (h2 : dy b = dy b') : dy (a, b) = dy (a', b') := by
  have k1 := fun c F as v => congrFun (congrFun (congrFun (congrFun (congrArg Dy.h h1) c) F) as) v
  have k2 := fun c F as v => congrFun (congrFun (congrFun (congrFun (congrArg Dy.h h2) c) F) as) v
  have o1 := fun k => congrFun (congrArg Dy.ok h1) k
  have o2 := fun k => congrFun (congrArg Dy.ok h2) k
  refine Dy.ext' (fun c F as v => ?_) fun k => ?_
  · show (∃ p v1 v2, v = .ref p ∧ SqT c.K F p [v1, v2] ∧ (dy a).h c F as v1 ∧ (dy b).h c F as v2) ↔ ∃ p v1 v2, v = .ref p ∧ SqT c.K F p [v1, v2] ∧ (dy a').h c F as v1 ∧ (dy b').h c F as v2
    simp only [k1, k2]
  · show ((dy a).ok k ∧ (dy b).ok k) ↔ ((dy a').ok k ∧ (dy b').ok k)
    rw [o1, o2]
/-- _law_bent -/
def sp__law_bent : ASp := fun ds M P => ∃ (x k o : Th) (B : Nat), ds = [dy (MR.mk 0), dy x, dy k, dy o] ∧ M = [cHand] ∧ 8 ≤ B ∧ B ≤ 500 ∧ x.wid B ∧ k.wid B ∧ o.wid B ∧ ∀ x' k' : Th, x'.wid (B + 1) → k'.wid (B + 1) → P (dy (x', k')) [cHand]
theorem u__law_bent {P : Dy → Mem → Prop} {x k o : Th} {B : Nat} (h : ∀ x' k' : Th, x'.wid (B + 1) → k'.wid (B + 1) → P (dy (x', k')) [cHand]) (h1 : 8 ≤ B) (h2 : B ≤ 500) (h3 : x.wid B) (h4 : k.wid B) (h5 : o.wid B) : sp__law_bent [dy (MR.mk 0), dy x, dy k, dy o] [cHand] P := ⟨x, k, o, B, rfl, rfl, h1, h2, h3, h4, h5, h⟩
/-- _law_great_right -/
def sp__law_great_right : ASp := fun ds M P => ds = [dy (MR.mk 0)] ∧ M = [cHand] ∧ P (dy true) [cHand]
theorem u__law_great_right {P : Dy → Mem → Prop} (h : P (dy true) [cHand]) : sp__law_great_right [dy (MR.mk 0)] [cHand] P := ⟨rfl, rfl, h⟩
/-- _law_journals_right -/
def sp__law_journals_right : ASp := fun ds M P => ∃ (n : Int) (ks : List Zq.Kind), ds = [dy (MR.mk 0), dy (Tab.mk n ⟨ks⟩), dy n, dy (Tp.mk ks)] ∧ M = [cHand] ∧ KsOk n ks ∧ P (dy true) [cHand]
theorem u__law_journals_right {P : Dy → Mem → Prop} {n : Int} {ks : List Zq.Kind} (h : P (dy true) [cHand]) (h1 : KsOk n ks) : sp__law_journals_right [dy (MR.mk 0), dy (Tab.mk n ⟨ks⟩), dy n, dy (Tp.mk ks)] [cHand] P := ⟨n, ks, rfl, rfl, h1, h⟩
/-- law -/
def sp_law : ASp := fun ds M P => ∃ ns : List Int, ds = [dy ns] ∧ ns.length ≤ 63 ∧ P (dy true) M
theorem u_law {M : Mem} {P : Dy → Mem → Prop} {ns : List Int} (h : P (dy true) M) (h1 : ns.length ≤ 63) : sp_law [dy ns] M P := ⟨ns, rfl, h1, h⟩
end
end K01
end
section
set_option Elab.async false
set_option linter.all false
set_option maxRecDepth 100000
set_option maxHeartbeats 4000000
namespace K01
open PySem PySem.Spec PyProof.Rows L2 Zq K02
open C8 (Cal Mak pe_c pe_mk pe_gc)
open IsTh (to)
local macro_rules | `(tactic| walk_at "zq") => `(tactic| first
  | with_reducible refine ws_seq ?_
  | with_reducible refine ws_asg ?_
  | (with_reducible apply ws_asgG)
  | with_reducible refine ws_next ?_
  | with_reducible refine ws_ret ?_
  | with_reducible refine ws_if ?_
  | with_reducible refine ws_drop (te := tCall _ _ _ _) ?_
  | with_reducible refine wsx_seq ?_
  | with_reducible refine wsx_asg ?_
  | with_reducible refine wsx_if ?_
  | with_reducible refine wsx_ret ?_
  | with_reducible refine wsx_next ?_
  | with_reducible refine wsx_raise ?_
  | with_reducible refine as_dy ?_
  | ((with_reducible apply we_var); focus rfl)
  | with_reducible refine we_int ?_
  | with_reducible refine we_bl ?_
  | with_reducible refine we_non ?_
  | with_reducible refine we_ty ?_
  | with_reducible refine we_str ?_
  | with_reducible refine we_op2 ?_
  | with_reducible refine we_neg ?_
  | with_reducible refine we_andV ?_
  | with_reducible refine we_orV ?_
  | with_reducible refine we_notV ?_
  | with_reducible refine we_chain ?_
  | with_reducible refine we_cb ?_
  | with_reducible refine tup_pair ?_
  | with_reducible refine tup_three ?_
  | with_reducible refine tup_nil ?_
  | with_reducible refine we_call ?_
  | with_reducible refine we_callD ?_
  | with_reducible refine we_tup ?_
  | refine we_cells (Tx.cl (by assumption)) (Tx.nc (by assumption)) ?_
  | refine we_kinds (Tx.cl (by assumption)) (Tx.nk (by assumption)) ?_
  | with_reducible refine wt_test ?_
  | with_reducible refine wt_B ?_
  | with_reducible refine wt_not ?_
  | with_reducible refine wt_and ?_
  | with_reducible refine wt_or ?_
  | with_reducible refine wt_yes ?_
  | with_reducible refine wa_cons ?_
  | with_reducible refine wa_nil ?_
  | with_reducible refine rr_II ?_
  | with_reducible refine rr_isTrue ?_
  | with_reducible refine rr_notTrue ?_
  | with_reducible refine rr_isN0 ?_
  | with_reducible refine rr_notN0 ?_
  | with_reducible refine rr_isN ?_
  | with_reducible refine rr_notN ?_
  | with_reducible refine rr_neB ?_
  | with_reducible refine rr_isNo ?_
  | with_reducible refine rr_notNo ?_
  | with_reducible refine rr_IB ?_
  | with_reducible refine rr_eqI ?_
  | with_reducible refine rr_neI ?_
  | with_reducible refine rr_eqB ?_
  | with_reducible refine rr_ixP0 ?_
  | with_reducible refine rr_ixP1 ?_
  | with_reducible refine rr_ix30 ?_
  | with_reducible refine rr_ix31 ?_
  | with_reducible refine rr_ix32 ?_
  | with_reducible refine rr_leK ?_
  | with_reducible refine rr_ltK ?_
  | refine rr_eqD ?_
  | refine rr_neD ?_
  | with_reducible refine rr_inT ?_
  | with_reducible refine rr_ninT ?_
  | with_reducible refine rr_inL ?_
  | with_reducible refine rr_ninL ?_
  | with_reducible refine rc_isi kit_ii ?_
  | with_reducible refine rc_isi kit_ib ?_
  | with_reducible refine rc_isi kit_bb ?_
  | with_reducible refine rc_isi kit_tt ?_
  | refine rc_isInt (Tx.isi (by assumption)) ?_
  | refine rc_isBl (Tx.isi (by assumption)) ?_
  | refine rc_isTup (Tx.isi (by assumption)) ?_
  | refine rc_isStr (Tx.isi (by assumption)) ?_
  | with_reducible refine rc_lenL ?_
  | with_reducible refine rc_lenT ?_
  | with_reducible refine rc_lenP ?_
  | with_reducible refine rc_tupL ?_
  | refine rc_lenM rfl ?_
  | refine rc_tupM rfl ?_
  | ((with_reducible apply rr_inM); focus rfl)
  | ((with_reducible apply rr_ninM); focus rfl)
  | with_reducible apply wg_setM
  | refine ex_l rfl ?_
  | refine ex_d rfl ?_
  | with_reducible refine rc_int ?_
  | with_reducible refine rc_abs ?_
  | with_reducible refine rc_min2 ?_
  | with_reducible refine rc_all ?_
  | with_reducible refine rc_any ?_
  | with_reducible refine wg_name ?_
  | (apply wg_tup2)
  | (apply wg_tup3))
local macro_rules | `(tactic| walk_at "zqs") => `(tactic| repeat walk_at "zq")
local macro_rules | `(tactic| walk_at "zok1") => `(tactic| first
  | exact trivial
  | exact dy_ok _ _
  | exact cLst_ok _ _
  | exact cDic_ok _ _
  | exact hand_ok _
  | exact handX_ok
  | exact okM_nil
  | exact okE_nil
  | exact okDs_nil
  | refine okM_cons ?_ ?_
  | refine okDs_cons ?_ ?_
  | refine okE_none ?_
  | refine okE_cons ?_ ?_
  | exact mr_ok (Nat.le_of_ble_eq_true rfl)
  | exact Free.l _ _
  | exact Free.k _ _
  | exact Free.ok _ _
  | exact Frg.refl _
  | exact Frg.nil
  | refine Frg.same ?_
  | refine Frg.drop ?_)
local macro_rules | `(tactic| walk_at "zok") => `(tactic| repeat walk_at "zok1")
local macro_rules | `(tactic| walk_at "zcut") => `(tactic| exact Cut.mk (by walk_at "zok") (by walk_at "zok") (by walk_at "zok") rfl)
local macro_rules | `(tactic| walk_at "zb") => `(tactic| first
  | with_reducible refine bt_tt ?_
  | with_reducible refine bt_ff ?_
  | with_reducible refine bt_nt ?_
  | with_reducible refine bt_nf ?_
  | with_reducible refine bt_ft ?_
  | with_reducible refine bt_tf ?_
  | with_reducible refine bt_nt' ?_
  | with_reducible refine bt_nf' ?_
  | (with_reducible refine bt_t ?_ ?_
     focus (first | rfl | assumption))
  | (with_reducible refine bt_f ?_ ?_
     focus (first | rfl | assumption))
  | (with_reducible refine bt_t' ?_ ?_
     focus (first | rfl | assumption))
  | (with_reducible refine bt_f' ?_ ?_
     focus (first | rfl | assumption))
  | (refine ca5 ?_ ?_ ?_ ?_ ?_
     focus (first | rfl | decide)
     focus (first | exact Nat.zero_le _ | exact Nat.le_of_ble_eq_true rfl)
     focus (walk_at "zok"; done)
     focus (walk_at "zok"; done))
  | (refine ca3 ?_ ?_ ?_
     focus (walk_at "zok"; done)
     focus (walk_at "zok"; done)))

local macro_rules | `(tactic| walk_at "zu") => `(tactic| first
  | refine u_is_integer ?_
  | refine u_is_integer_th ?_
  | refine u_is_number_below ?_ ?_
  | refine u_is_number_below_th ?_
  | refine u_is_lot ?_
  | refine u_is_lot_of_cells ?_
  | refine u_is_kind ?_
  | refine u__law_is_int ?_ ?_ ?_
  | refine u__law_is_int_th ?_
  | refine u__law_flag ?_
  | refine u__law_history ?_ ?_ ?_
  | refine u__law_draw ?_ ?_ ?_
  | refine u__law_any ?_ ?_ ?_
  | refine u__law_any_th ?_ ?_ ?_
  | refine u__law_kinds ?_ ?_ ?_ ?_ ?_
  | refine u_is_journal ?_ ?_
  | refine u_is_journal_ty ?_ ?_ ?_
  | refine u_check_journal ?_ ?_ ?_
  | refine u_is_version ?_ ?_ ?_
  | refine u_is_plates ?_ ?_ ?_
  | refine u__law_is_lot ?_ ?_
  | refine u__law_is_kind ?_ ?_
  | refine u__law_due ?_ ?_
  | refine u_Table_initC ?_ ?_
  | refine u_Table_eq ?_ ?_
  | refine u__law_told ?_ ?_
  | refine u__law_deep ?_ ?_ ?_
  | refine u__law_odd ?_ ?_
  | refine u__law_table ?_ ?_ ?_
  | refine u__law_journal ?_ ?_ ?_ ?_ ?_
  | refine u__law_versions ?_ ?_ ?_ ?_ ?_
  | refine u__law_bent ?_ ?_ ?_ ?_ ?_ ?_
  | refine u__law_great_right ?_
  | refine u__law_journals_right ?_ ?_
  | refine u_law ?_ ?_)
local macro_rules | `(tactic| walk_at "zs1") => `(tactic| first
  | walk_at "zq"
  | walk_at "zu"
  | walk_at "zb")
local macro_rules | `(tactic| walk_at "zs") => `(tactic| repeat walk_at "zs1")
section
variable {P : Program} {w : World} {c : Cc} {mg : Str → Option Value} {base : Heap}
theorem asc_adj {xs : List Int} : xs.Pairwise (· < ·) ↔ ∀ i, i + 1 < xs.length → xs.getD i 0 < xs.getD (i + 1) 0 := by
  constructor
  · intro h i hi
    rw [List.getD_eq_getElem?_getD, List.getD_eq_getElem?_getD, List.getElem?_eq_getElem (show i < xs.length by omega), List.getElem?_eq_getElem hi]
    exact List.pairwise_iff_getElem.mp h i (i + 1) (by omega) hi (by omega)
  · induction xs using snoc_ind with
    | h0 => intro _; exact .nil
    | h1 xs v ih =>
      intro h
      rw [asc_snoc]
      refine ⟨ih fun i hi => ?_, fun u hu => ?_⟩
      · have := h i (by rw [List.length_append]; omega)
        rwa [List.getD_eq_getElem?_getD, List.getD_eq_getElem?_getD, List.getElem?_append_left (by omega), List.getElem?_append_left hi, ← List.getD_eq_getElem?_getD, ← List.getD_eq_getElem?_getD] at this
      · have hl := (List.getElem?_eq_some_iff.mp hu).1
        have := h (xs.length - 1) (by rw [List.length_append, List.length_cons, List.length_nil]; omega)
        rw [show xs.length - 1 + 1 = xs.length by omega, List.getD_eq_getElem?_getD, List.getElem?_append_left (by omega), hu, List.getD_eq_getElem?_getD, List.getElem?_append_right (Nat.le_refl _), Nat.sub_self] at this
        exact this
theorem all_in {a b : Int} : ∀ {l : List Th}, (l.map (isIn a b)).all id = true ↔ ∃ xs : List Int, l = xs.map Th.int ∧ ∀ r, r ∈ xs → a ≤ r ∧ r ≤ b
  | [] => ⟨fun _ => ⟨[], rfl, by simp⟩, fun _ => rfl⟩
  | x :: l => by
    rw [List.map_cons, List.all_cons, Bool.and_eq_true, all_in (l := l)]
    constructor
    · rintro ⟨h, xs, rfl, h2⟩
      obtain ⟨i, rfl, i0, i1⟩ := isIn_ex h
      refine ⟨i :: xs, rfl, fun r hr => ?_⟩
      rcases List.mem_cons.mp hr with rfl | z
      · exact ⟨i0, i1⟩
      · exact h2 r z
    · rintro ⟨xs, h, h2⟩
      cases xs with
      | nil => cases h
      | cons i xs =>
        rw [List.map_cons] at h
        injection h with h3 h4
        subst h3
        have := h2 i (by simp)
        refine ⟨?_, xs, h4, fun r hr => h2 r (List.mem_cons_of_mem _ hr)⟩
        show (decide (a ≤ i) && decide (i ≤ b)) = true
        rw [decide_eq_true this.1, decide_eq_true this.2]; rfl
theorem sc__law_is_lot : FnScope ["_law_thing", "_law_least", "_law_most", "_law_at", "_law_one"] ["_law_thing", "_law_least", "_law_most"] (defScope s__law_is_lot) := ⟨rfl, rfl, rfl, by decide +kernel, rfl, by decide +kernel, by decide +kernel⟩
theorem ok__law_is_lot {f : Addr} {fd : FuncData} (F : Fun c.K "_law_is_lot" "_law_is_lot" s__law_is_lot f fd) (T : Tb mg) (X : Tx c mg) (g__law_is_int : Cal P w c.K mg base 1 "_law_is_int" (spOf c 3 0 sp__law_is_int) []) :
    FnOk P w c.K mg base CX0 2 f fd ["_law_thing", "_law_least", "_law_most"] (spOf c 3 0 sp__law_is_lot) := by
  refine F.ok sc__law_is_lot (fun vs H Q E h => ?_) (fun cdv A outer s H vs Q E hr h => ?_)
  · obtain ⟨as, F, ds, M, P, _, hn, _, rd, _⟩ := h
    rw [rd.length, hn]; rfl
  · have hu1 : (A.deeper (envOfC "_law_is_lot" (defScope s__law_is_lot) s.heap.objs.size f cdv)).units + 1 < cLine := hu_of hr
    have hu8 : (A.deeper (envOfC "_law_is_lot" (defScope s__law_is_lot) s.heap.objs.size f cdv)).units + 8 < cLine := by have := hr.un; omega
    have hu16 : (A.deeper (envOfC "_law_is_lot" (defScope s__law_is_lot) s.heap.objs.size f cdv)).units + 16 < cLine := by have := hr.un; omega
    have hu64 : (A.deeper (envOfC "_law_is_lot" (defScope s__law_is_lot) s.heap.objs.size f cdv)).units + 64 < cLine := by have := hr.un; omega
    have hu65 : (A.deeper (envOfC "_law_is_lot" (defScope s__law_is_lot) s.heap.objs.size f cdv)).units + 65 < cLine := by have := hr.un; omega
    refine ⟨_, (pss_cons (ps_if (PW.pt (pw_or (pt_not (pt_val (pe_callB (r := rIsi c.K) call_isi (by rfl) T.b_isinstance (by decide +kernel) (pa_cons (pv 0) (pa_cons (pe_bltn (v := .ty "tuple") rfl T.b_tuple (by decide +kernel) rfl) pa_nil))))) (pw_or1 (pt_not (pt_val (pe_callB (r := rAll c.K) (cr_all rfl) (by rfl) T.b_all (by decide +kernel) (pa_cons (pe_lc (own := [("_law_one", 4)]) (g := (gName 4)) rfl sc__law_is_lot.nd (pi_tup (pv 0)) (blkOk_by (N := ["_law_thing", "_law_least", "_law_most", "_law_at", "_law_one"]) (sc := defScope s__law_is_lot) (by decide +kernel)) (fun _ _ _ _ _ => (pg_name (i := 4) sc__law_is_lot.nd rfl (Or.inl rfl))) (fun _ _ _ _ _ => pts_nil) (fun _ _ _ _ _ => (pe_c g__law_is_int hr (by decide) rfl (pa_cons (pv 4) (pa_cons (pv 1) (pa_cons (pv 2) pa_nil)))))) pa_nil))))))) (pss_one (ps_ret pe_bl)) pss_nil)
        (pss_one (ps_ret (pe_callB (r := rAll c.K) (cr_all rfl) (by rfl) T.b_all (by decide +kernel) (pa_cons (pe_lc (own := [("_law_at", 3)]) (g := (gName 3)) rfl sc__law_is_lot.nd (pi_range2 rfl T.b_range (pa_cons pe_int (pa_cons (pe_callB (r := Zq.rLen c.K) call_len_seq (by rfl) T.b_len (by decide +kernel) (pa_cons (pv 0) pa_nil)) pa_nil))) (blkOk_by (N := ["_law_thing", "_law_least", "_law_most", "_law_at", "_law_one"]) (sc := defScope s__law_is_lot) (by decide +kernel)) (fun _ _ _ _ _ => (pg_name (i := 3) sc__law_is_lot.nd rfl (Or.inl rfl))) (fun _ _ _ _ _ => pts_nil) (fun _ _ _ _ _ => (pe_cmpR op_lt (pe_ix (r := rIxT c.K) ix_tup (pv 0) (pe_op op_sub (pv 3) pe_int) (fun _ _ => rfl)) (pe_ix (r := rIxT c.K) ix_tup (pv 0) (pv 3) (fun _ _ => rfl)) (nomark _)))) pa_nil))))), ?_⟩
    refine body_ok h (by decide) fun ds M R hds hM hS => ?_
    obtain ⟨x, a, b, rfl, hw, hP⟩ := hS
    obtain rfl := List.length_eq_zero_iff.mp hM
    show WS c 0 _ [some (dy x), some (dy a), some (dy b), none, none] [] _ _
    cases x with
    | tup l =>
      have lw := hw l rfl
      rw [th_tup]
      walk_at "zs"
      refine we_lcM (β := Th) (γ := Bool) [4] (isIn a b) (fun t ht => ht) (by walk_at "zok") ?_
      refine wi_tup (α := Th) ?_
      walk_at "zs"
      refine ⟨⟨l⟩, rfl, rfl, l, rfl, by omega, fun y hy acc => ?_, ?_⟩
      · walk_at "zs"
        refine ⟨rfl, ?_⟩
        walk_at "zs"
        exact ⟨rfl, rfl⟩
      cases ha : (l.map (isIn a b)).all id with
      | true =>
        walk_at "zs"
        have e1 : (!(l.map (isIn a b)).all id) = false := by rw [ha]; rfl
        walk_at "zs"
        obtain ⟨xs, rfl, hb⟩ := all_in.mp ha
        rw [List.length_map] at lw
        rw [th_tints]
        refine we_lcM (β := Int) (γ := Bool) [3] (fun i => decide (xs.getD (i - 1).toNat 0 < xs.getD i.toNat 0)) (fun t ht => ht) (by walk_at "zok") ?_
        refine wi_range2 ?_
        walk_at "zs"
        refine ⟨1, (xs.length : Int), rfl, by decide, by decide, by omega, by omega, rfl, Zq.fromTo 1 (xs.length : Int), rfl, by unfold Zq.fromTo; rw [List.length_map, upto_len]; omega, fun y hy acc => ?_, ?_⟩
        · unfold Zq.fromTo at hy
          obtain ⟨j, hj, rfl⟩ := List.mem_map.mp hy
          have hj := upto_mem.mp hj
          walk_at "zs"
          refine ⟨rfl, ?_⟩
          walk_at "zs"
          refine rr_ixT (xs := Tp.mk xs) (by omega) (getD_get (xs := xs) (by omega)) ?_
          walk_at "zs"
          refine rr_ixT (xs := Tp.mk xs) (by omega) (getD_get (xs := xs) (by omega)) ?_
          walk_at "zs"
          exact ⟨rfl, rfl⟩
        · walk_at "zs"
          have e2 : tf (lotIn a b (.tup (xs.map Th.int))) = ((Zq.fromTo 1 (xs.length : Int)).map fun i => decide (xs.getD (i - 1).toNat 0 < xs.getD i.toNat 0)).all id := by
            refine tf_iff ?_
            rw [List.all_map, List.all_eq_true]
            constructor
            · intro h
              refine ⟨xs, rfl, asc_adj.mpr fun i hi => ?_, hb⟩
              have := h ((i : Int) + 1) (by unfold Zq.fromTo; exact List.mem_map.mpr ⟨(i : Int), upto_mem.mpr ⟨by omega, by omega⟩, by omega⟩)
              have := of_decide_eq_true this
              rwa [show ((i : Int) + 1 - 1).toNat = i by omega, show ((i : Int) + 1).toNat = i + 1 by omega] at this
            · rintro ⟨ys, hy, hp, _⟩ i hi
              have := map_int_inj (Th.tup.inj hy)
              subst this
              unfold Zq.fromTo at hi
              obtain ⟨j, hj, rfl⟩ := List.mem_map.mp hi
              have hj := upto_mem.mp hj
              have := asc_adj.mp hp j.toNat (by omega)
              refine decide_eq_true ?_
              rwa [show (1 + j - 1).toNat = j.toNat by omega, show (1 + j).toNat = j.toNat + 1 by omega]
          rw [e2] at hP
          exact hP
      | false =>
        walk_at "zs"
        have e1 : (!(l.map (isIn a b)).all id) = true := by rw [ha]; rfl
        walk_at "zs"
        rw [tf_f] at hP
        · exact hP
        · rintro ⟨xs, h, _, hb⟩
          rw [to_tup] at h
          injection h with h
          rw [all_in.mpr ⟨xs, h, hb⟩] at ha
          cases ha
    | _ =>
      walk_at "zs"
      rw [tf_f (by rintro ⟨k, h, _⟩; cases h)] at hP
      exact hP

theorem sc__law_is_kind : FnScope ["_law_cells", "_law_thing"] ["_law_cells", "_law_thing"] (defScope s__law_is_kind) := ⟨rfl, rfl, rfl, by decide +kernel, rfl, by decide +kernel, by decide +kernel⟩
theorem ok__law_is_kind {f : Addr} {fd : FuncData} (F : Fun c.K "_law_is_kind" "_law_is_kind" s__law_is_kind f fd) (T : Tb mg) (X : Tx c mg) (g__law_is_int : Cal P w c.K mg base 1 "_law_is_int" (spOf c 3 0 sp__law_is_int) []) (g__law_is_lot : Cal P w c.K mg base 2 "_law_is_lot" (spOf c 3 0 sp__law_is_lot) []) :
    FnOk P w c.K mg base CX0 3 f fd ["_law_cells", "_law_thing"] (spOf c 2 0 sp__law_is_kind) := by
  refine F.ok sc__law_is_kind (fun vs H Q E h => ?_) (fun cdv A outer s H vs Q E hr h => ?_)
  · obtain ⟨as, F, ds, M, P, _, hn, _, rd, _⟩ := h
    rw [rd.length, hn]; rfl
  · have hu1 : (A.deeper (envOfC "_law_is_kind" (defScope s__law_is_kind) s.heap.objs.size f cdv)).units + 1 < cLine := hu_of hr
    have hu8 : (A.deeper (envOfC "_law_is_kind" (defScope s__law_is_kind) s.heap.objs.size f cdv)).units + 8 < cLine := by have := hr.un; omega
    have hu16 : (A.deeper (envOfC "_law_is_kind" (defScope s__law_is_kind) s.heap.objs.size f cdv)).units + 16 < cLine := by have := hr.un; omega
    have hu64 : (A.deeper (envOfC "_law_is_kind" (defScope s__law_is_kind) s.heap.objs.size f cdv)).units + 64 < cLine := by have := hr.un; omega
    have hu65 : (A.deeper (envOfC "_law_is_kind" (defScope s__law_is_kind) s.heap.objs.size f cdv)).units + 65 < cLine := by have := hr.un; omega
    refine ⟨_, (pss_cons (ps_if (PW.pt (pw_or (pt_not (pt_val (pe_callB (r := rIsi c.K) call_isi (by rfl) T.b_isinstance (by decide +kernel) (pa_cons (pv 1) (pa_cons (pe_bltn (v := .ty "tuple") rfl T.b_tuple (by decide +kernel) rfl) pa_nil))))) (pw_or (pt_cmpR op_ne (pe_callB (r := Zq.rLen c.K) call_len_seq (by rfl) T.b_len (by decide +kernel) (pa_cons (pv 1) pa_nil)) pe_int (nomark _)) (pw_or1 (pt_not (pt_val (pe_c g__law_is_int hr (by decide) rfl (pa_cons (pe_ix (r := rIxT c.K) ix_tup (pv 1) pe_int (fun _ _ => rfl)) (pa_cons pe_int (pa_cons (pe_op op_sub (pv 0) pe_int) pa_nil)))))))))) (pss_one (ps_ret pe_bl)) pss_nil)
        (pss_one (ps_ret (pe_and (pe_c g__law_is_lot hr (by decide) rfl (pa_cons (pe_ix (r := rIxT c.K) ix_tup (pv 1) pe_int (fun _ _ => rfl)) (pa_cons pe_int (pa_cons (pe_op op_sub (pv 0) pe_int) pa_nil)))) (pe_one (pe_cmpR op_lt (pe_callB (r := Zq.rLen c.K) call_len_seq (by rfl) T.b_len (by decide +kernel) (pa_cons (pe_ix (r := rIxT c.K) ix_tup (pv 1) pe_int (fun _ _ => rfl)) pa_nil)) pe_int (nomark _))))))), ?_⟩
    refine body_ok h (by decide) fun ds M R hds hM hS => ?_
    obtain ⟨n, x, rfl, hw, hP⟩ := hS
    obtain rfl := List.length_eq_zero_iff.mp hM
    show WS c 0 _ [some (dy n), some (dy x)] [] _ _
    cases x with
    | tup l =>
      rw [th_tup]
      have hw := (wid_tup.mp hw).2
      walk_at "zs"
      match l, hP, hw with
      | [a, b], hP, hw =>
        walk_at "zs"
        refine rr_ixT (xs := Tp.mk [a, b]) (by decide) rfl ?_
        walk_at "zs"
        have ein : isIn 0 (n - 1) a = below n a := by
          cases a with
          | int i =>
            show (decide (0 ≤ i) && decide (i ≤ n - 1)) = (decide (0 ≤ i) && decide (i < n))
            rw [show decide (i ≤ n - 1) = decide (i < n) from decide_eq_decide.mpr (by omega)]
          | _ => rfl
        rw [ein]
        cases hb : below n a with
        | false =>
          walk_at "zs"
          rw [tf_f (fun h => by rw [(kind_in.mp h).1] at hb; cases hb)] at hP
          exact hP
        | true =>
          walk_at "zs"
          refine rr_ixT (xs := Tp.mk [a, b]) (by decide) rfl ?_
          walk_at "zs"
          · by_cases hc : lotIn 0 (n - 1) b
            · rw [tf_t hc]
              walk_at "zs"
              refine rr_ixT (xs := Tp.mk [a, b]) (by decide) rfl ?_
              obtain ⟨xs, rfl, ha, hr⟩ := hc
              rw [IsTh.eq]
              walk_at "zs"
              rw [tf_iff (b := decide (((xs.length : Nat) : Int) < 4))] at hP
              · exact hP
              · rw [decide_eq_true_eq, kind_in]
                constructor
                · intro h; exact ⟨hb, ⟨xs, rfl, ha, hr⟩, _, rfl, by rw [List.length_map]; show xs.length ≤ 3; omega⟩
                · rintro ⟨_, _, l, h1, h2⟩
                  rw [to_tup] at h1
                  injection h1 with h1
                  subst h1
                  rw [List.length_map] at h2; omega
            · rw [tf_f hc]
              walk_at "zs"
              rw [tf_f (fun h => hc (kind_in.mp h).2.1)] at hP
              exact hP
          · intro l hl
            have := hw b (by simp)
            rw [hl] at this
            exact (wid_tup.mp this).1
      | [], hP, hw => walk_at "zs"; rw [tf_f (by rintro ⟨k, h, _⟩; rw [to_kind] at h; injection h with h; cases h)] at hP; exact hP
      | [_], hP, hw => walk_at "zs"; rw [tf_f (by rintro ⟨k, h, _⟩; rw [to_kind] at h; injection h with h; cases h)] at hP; exact hP
      | _ :: _ :: _ :: l, hP, hw =>
        have e1 : (!decide ((((l.length + 1 + 1 + 1 : Nat)) : Int) = 2)) = true := by rw [decide_eq_false (by omega)]; rfl
        walk_at "zs"
        rw [tf_f (by rintro ⟨k, h, _⟩; rw [to_kind] at h; injection h with h; cases h)] at hP; exact hP
    | _ =>
      walk_at "zs"
      rw [tf_f (by rintro ⟨k, h, _⟩; cases h)] at hP
      exact hP

theorem sc__law_due : FnScope ["_law_cells", "_law_kinds_here", "_law_at"] ["_law_cells", "_law_kinds_here"] (defScope s__law_due) := ⟨rfl, rfl, rfl, by decide +kernel, rfl, by decide +kernel, by decide +kernel⟩
theorem ok__law_due {f : Addr} {fd : FuncData} (F : Fun c.K "_law_due" "_law_due" s__law_due f fd) (T : Tb mg) (X : Tx c mg) (g__law_is_int : Cal P w c.K mg base 1 "_law_is_int" (spOf c 3 0 sp__law_is_int) []) (g__law_is_kind : Cal P w c.K mg base 3 "_law_is_kind" (spOf c 2 0 sp__law_is_kind) []) :
    FnOk P w c.K mg base CX0 4 f fd ["_law_cells", "_law_kinds_here"] (spOf c 2 0 sp__law_due) := by
  refine F.ok sc__law_due (fun vs H Q E h => ?_) (fun cdv A outer s H vs Q E hr h => ?_)
  · obtain ⟨as, F, ds, M, P, _, hn, _, rd, _⟩ := h
    rw [rd.length, hn]; rfl
  · have hu1 : (A.deeper (envOfC "_law_due" (defScope s__law_due) s.heap.objs.size f cdv)).units + 1 < cLine := hu_of hr
    have hu8 : (A.deeper (envOfC "_law_due" (defScope s__law_due) s.heap.objs.size f cdv)).units + 8 < cLine := by have := hr.un; omega
    have hu16 : (A.deeper (envOfC "_law_due" (defScope s__law_due) s.heap.objs.size f cdv)).units + 16 < cLine := by have := hr.un; omega
    have hu64 : (A.deeper (envOfC "_law_due" (defScope s__law_due) s.heap.objs.size f cdv)).units + 64 < cLine := by have := hr.un; omega
    have hu65 : (A.deeper (envOfC "_law_due" (defScope s__law_due) s.heap.objs.size f cdv)).units + 65 < cLine := by have := hr.un; omega
    refine ⟨_, (pss_cons (ps_if (pt_not (pt_val (pe_c g__law_is_int hr (by decide) rfl (pa_cons (pv 0) (pa_cons pe_int (pa_cons pe_int pa_nil)))))) (pss_one (ps_ret (pe_tup (pa_cons pe_str (pa_cons (pe_un un_neg pe_int) pa_nil))))) pss_nil)
        (pss_cons (ps_if (PW.pt (pw_or (pt_not (pt_val (pe_callB (r := rIsi c.K) call_isi (by rfl) T.b_isinstance (by decide +kernel) (pa_cons (pv 1) (pa_cons (pe_bltn (v := .ty "tuple") rfl T.b_tuple (by decide +kernel) rfl) pa_nil))))) (pw_or1 (pt_not (pt_chain op_le op_le pe_int (pe_callB (r := Zq.rLen c.K) call_len_seq (by rfl) T.b_len (by decide +kernel) (pa_cons (pv 1) pa_nil)) pe_int))))) (pss_one (ps_ret (pe_tup (pa_cons pe_str (pa_cons (pe_un un_neg pe_int) pa_nil))))) pss_nil)
        (pss_cons (ps_for PassesOwn.never rfl (pi_range1 rfl T.b_range (pa_cons (pe_callB (r := Zq.rLen c.K) call_len_seq (by rfl) T.b_len (by decide +kernel) (pa_cons (pv 1) pa_nil)) pa_nil)) (pg_name (i := 2) sc__law_due.nd rfl (Or.inl rfl)) (pss_one (ps_if (PW.pt (pw_or (pt_not (pt_val (pe_c g__law_is_kind hr (by decide) rfl (pa_cons (pv 0) (pa_cons (pe_ix (r := rIxT c.K) ix_tup (pv 1) (pv 2) (fun _ _ => rfl)) pa_nil))))) (pw_or1 (PW.pt (pw_and (pt_cmpR op_gt (pv 2) pe_int (nomark _)) (pw_and1 (pt_not (pt_cmpR (r := Zr.rLtK c.K) (Zr.op_ltK hu8) (pe_ix (r := rIxT c.K) ix_tup (pv 1) (pe_op op_sub (pv 2) pe_int) (fun _ _ => rfl)) (pe_ix (r := rIxT c.K) ix_tup (pv 1) (pv 2) (fun _ _ => rfl)) (nomark _))))))))) (pss_one (ps_ret (pe_tup (pa_cons pe_str (pa_cons (pv 2) pa_nil))))) pss_nil)))
        (pss_one (ps_ret pe_non))))), ?_⟩
    refine body_ok h (by decide) fun ds M R hds hM hS => ?_
    obtain ⟨x, k, rfl, hw, hP⟩ := hS
    obtain rfl := List.length_eq_zero_iff.mp hM
    show WS c 0 _ [some (dy x), some (dy k), none] [] _ _
    walk_at "zs"
    cases hb : isIn 1 8 x with
    | false =>
      walk_at "zs"
      exact hP _ (.cells hb)
    | true =>
      walk_at "zs"
      obtain ⟨n, rfl, n1, n8⟩ := isIn_ex hb
      cases k with
      | tup l =>
        rw [th_tup]
        walk_at "zs"
        by_cases h1 : 1 ≤ ((l.length : Nat) : Int)
        · have e1 : decide (1 ≤ ((l.length : Nat) : Int)) = true := decide_eq_true h1
          walk_at "zs"
          by_cases h2 : ((l.length : Nat) : Int) ≤ 40
          · have e2 : (!decide (((l.length : Nat) : Int) ≤ 40)) = false := by rw [decide_eq_true h2]; rfl
            walk_at "zs"
            refine ws_for (S := Unit) (β := Int) (ts := [2]) (fun pre _ => upTo n l pre.length) (fun _ => [some (dy (Th.int n)), some (dy (Tp.mk l)), none]) (fun _ => []) ?_
            refine wi_range ?_
            walk_at "zs"
            refine ⟨(l.length : Int), rfl, by omega, by omega, upto l.length, rfl, (), upTo_0 n l, by walk_at "zcut", fun pre y post s e hJ => ?_, fun s hJ => ?_⟩
            · have hy : y = (pre.length : Int) ∧ pre.length < l.length := by
                have h1 : (upto l.length)[pre.length]? = some y := by rw [e, List.getElem?_append_right (Nat.le_refl _), Nat.sub_self]; rfl
                have hl : pre.length < l.length := by
                  have := (List.getElem?_eq_some_iff.mp h1).1
                  rw [upto_len] at this; exact this
                rw [upto_get hl] at h1
                injection h1 with h1
                exact ⟨h1.symm, hl⟩
              obtain ⟨hy, hlt⟩ := hy
              have hx : l[pre.length]? = some l[pre.length] := List.getElem?_eq_getElem hlt
              have len1 : (pre ++ [y]).length = pre.length + 1 := by rw [List.length_append]; rfl
              walk_at "zs"
              rw [th_int]
              refine rr_ixT (xs := Tp.mk l) (by omega) (by rw [hy, Int.toNat_natCast]; exact hx) ?_
              walk_at "zs"
              · by_cases hk : kindP n l[pre.length]
                · have e3 : (!tf (kindP n l[pre.length])) = false := by rw [tf_t hk]; rfl
                  walk_at "zs"
                  obtain ⟨kd, hkd, ok⟩ := hk
                  rw [hkd] at hx
                  refine ⟨fun q => ?_, fun q => ?_⟩
                  · have q0 : 0 < y := of_decide_eq_true q
                    obtain ⟨u, hu, uok⟩ := upTo_last hJ (by omega) (by omega)
                    walk_at "zs"
                    refine rr_ixT (xs := Tp.mk l) (by omega) (by rw [show (y - 1).toNat = pre.length - 1 by omega]; exact hu) ?_
                    walk_at "zs"
                    refine rr_ixT (xs := Tp.mk l) (by omega) (by rw [hy, Int.toNat_natCast]; exact hx) ?_
                    rw [IsTh.eq, IsTh.eq]
                    walk_at "zs"
                    cases hb : kbef u kd with
                    | true =>
                      walk_at "zs"
                      refine ⟨(), ?_, by walk_at "zcut"⟩
                      rw [len1]
                      refine upTo_step hJ hx ok fun u' _ hu' => ?_
                      rw [hu] at hu'
                      injection hu' with hu'
                      rw [← kind_inj hu']; exact hb
                    | false =>
                      walk_at "zs"
                      rw [prt_kinds2, hy]
                      exact hP _ (.at_ (by assumption) rfl rfl (by omega) hlt hJ (upTo_desc hx (by omega) hu hb))
                  · have q0 : ¬ 0 < y := of_decide_eq_false q
                    walk_at "zs"
                    refine ⟨(), ?_, by walk_at "zcut"⟩
                    rw [len1]
                    exact upTo_step hJ hx ok fun u' h0 _ => by omega
                · have e3 : (!tf (kindP n l[pre.length])) = true := by rw [tf_f hk]; rfl
                  walk_at "zs"
                  rw [prt_kinds2, hy]
                  exact hP _ (.at_ (by assumption) rfl rfl (by omega) hlt hJ (upTo_bad hx hk))
              · exact (wid_tup.mp hw).2 _ (List.getElem_mem _)
            · rw [upto_len] at hJ
              obtain ⟨ks, rfl, hk⟩ := upTo_ks (by assumption) (by omega) (by omega) hJ
              walk_at "zs"
              exact hP none (.ok rfl rfl hk)
          · have e2 : (!decide (((l.length : Nat) : Int) ≤ 40)) = true := by rw [decide_eq_false h2]; rfl
            walk_at "zs"
            rw [prt_kinds2]
            exact hP _ (.kinds (by assumption) (by rintro ⟨l', h, _, h3⟩; injection h with h; subst h; omega))
        · have e1 : decide (1 ≤ ((l.length : Nat) : Int)) = false := decide_eq_false h1
          walk_at "zs"
          rw [prt_kinds2]
          exact hP _ (.kinds (by assumption) (by rintro ⟨l', h, h3, _⟩; injection h with h; subst h; omega))
      | _ =>
        walk_at "zs"
        rw [prt_kinds2]
        exact hP _ (.kinds (by assumption) (by rintro ⟨l', h, _⟩; cases h))

end
end K01
end
section
set_option Elab.async false
set_option linter.all false
set_option maxRecDepth 100000
set_option maxHeartbeats 4000000
namespace K01
open PySem PySem.Spec PyProof.Rows L2 Zq K02
open C8 (Cal Mak pe_c pe_mk pe_gc)
open IsTh (to)
local macro_rules | `(tactic| walk_at "zq") => `(tactic| first
  | with_reducible refine ws_seq ?_
  | with_reducible refine ws_asg ?_
  | (with_reducible apply ws_asgG)
  | with_reducible refine ws_next ?_
  | with_reducible refine ws_ret ?_
  | with_reducible refine ws_if ?_
  | with_reducible refine ws_drop (te := tCall _ _ _ _) ?_
  | with_reducible refine wsx_seq ?_
  | with_reducible refine wsx_asg ?_
  | with_reducible refine wsx_if ?_
  | with_reducible refine wsx_ret ?_
  | with_reducible refine wsx_next ?_
  | with_reducible refine wsx_raise ?_
  | with_reducible refine as_dy ?_
  | ((with_reducible apply we_var); focus rfl)
  | with_reducible refine we_int ?_
  | with_reducible refine we_bl ?_
  | with_reducible refine we_non ?_
  | with_reducible refine we_ty ?_
  | with_reducible refine we_str ?_
  | with_reducible refine we_op2 ?_
  | with_reducible refine we_neg ?_
  | with_reducible refine we_andV ?_
  | with_reducible refine we_orV ?_
  | with_reducible refine we_notV ?_
  | with_reducible refine we_chain ?_
  | with_reducible refine we_cb ?_
  | with_reducible refine tup_pair ?_
  | with_reducible refine tup_three ?_
  | with_reducible refine tup_nil ?_
  | with_reducible refine we_call ?_
  | with_reducible refine we_callD ?_
  | with_reducible refine we_tup ?_
  | refine we_cells (Tx.cl (by assumption)) (Tx.nc (by assumption)) ?_
  | refine we_kinds (Tx.cl (by assumption)) (Tx.nk (by assumption)) ?_
  | with_reducible refine wt_test ?_
  | with_reducible refine wt_B ?_
  | with_reducible refine wt_not ?_
  | with_reducible refine wt_and ?_
  | with_reducible refine wt_or ?_
  | with_reducible refine wt_yes ?_
  | with_reducible refine wa_cons ?_
  | with_reducible refine wa_nil ?_
  | with_reducible refine rr_II ?_
  | with_reducible refine rr_isTrue ?_
  | with_reducible refine rr_notTrue ?_
  | with_reducible refine rr_isN0 ?_
  | with_reducible refine rr_notN0 ?_
  | with_reducible refine rr_isN ?_
  | with_reducible refine rr_notN ?_
  | with_reducible refine rr_neB ?_
  | with_reducible refine rr_isNo ?_
  | with_reducible refine rr_notNo ?_
  | with_reducible refine rr_IB ?_
  | with_reducible refine rr_eqI ?_
  | with_reducible refine rr_neI ?_
  | with_reducible refine rr_eqB ?_
  | with_reducible refine rr_ixP0 ?_
  | with_reducible refine rr_ixP1 ?_
  | with_reducible refine rr_ix30 ?_
  | with_reducible refine rr_ix31 ?_
  | with_reducible refine rr_ix32 ?_
  | with_reducible refine rr_leK ?_
  | with_reducible refine rr_ltK ?_
  | refine rr_eqD ?_
  | refine rr_neD ?_
  | with_reducible refine rr_inT ?_
  | with_reducible refine rr_ninT ?_
  | with_reducible refine rr_inL ?_
  | with_reducible refine rr_ninL ?_
  | with_reducible refine rc_isi kit_ii ?_
  | with_reducible refine rc_isi kit_ib ?_
  | with_reducible refine rc_isi kit_bb ?_
  | with_reducible refine rc_isi kit_tt ?_
  | refine rc_isInt (Tx.isi (by assumption)) ?_
  | refine rc_isBl (Tx.isi (by assumption)) ?_
  | refine rc_isTup (Tx.isi (by assumption)) ?_
  | refine rc_isStr (Tx.isi (by assumption)) ?_
  | with_reducible refine rc_lenL ?_
  | with_reducible refine rc_lenT ?_
  | with_reducible refine rc_lenP ?_
  | with_reducible refine rc_tupL ?_
  | refine rc_lenM rfl ?_
  | refine rc_tupM rfl ?_
  | ((with_reducible apply rr_inM); focus rfl)
  | ((with_reducible apply rr_ninM); focus rfl)
  | with_reducible apply wg_setM
  | refine ex_l rfl ?_
  | refine ex_d rfl ?_
  | with_reducible refine rc_int ?_
  | with_reducible refine rc_abs ?_
  | with_reducible refine rc_min2 ?_
  | with_reducible refine rc_all ?_
  | with_reducible refine rc_any ?_
  | with_reducible refine wg_name ?_
  | (apply wg_tup2)
  | (apply wg_tup3))
local macro_rules | `(tactic| walk_at "zqs") => `(tactic| repeat walk_at "zq")
local macro_rules | `(tactic| walk_at "zok1") => `(tactic| first
  | exact trivial
  | exact dy_ok _ _
  | exact cLst_ok _ _
  | exact cDic_ok _ _
  | exact hand_ok _
  | exact handX_ok
  | exact okM_nil
  | exact okE_nil
  | exact okDs_nil
  | refine okM_cons ?_ ?_
  | refine okDs_cons ?_ ?_
  | refine okE_none ?_
  | refine okE_cons ?_ ?_
  | exact mr_ok (Nat.le_of_ble_eq_true rfl)
  | exact Free.l _ _
  | exact Free.k _ _
  | exact Free.ok _ _
  | exact Frg.refl _
  | exact Frg.nil
  | refine Frg.same ?_
  | refine Frg.drop ?_)
local macro_rules | `(tactic| walk_at "zok") => `(tactic| repeat walk_at "zok1")
local macro_rules | `(tactic| walk_at "zcut") => `(tactic| exact Cut.mk (by walk_at "zok") (by walk_at "zok") (by walk_at "zok") rfl)
local macro_rules | `(tactic| walk_at "zb") => `(tactic| first
  | with_reducible refine bt_tt ?_
  | with_reducible refine bt_ff ?_
  | with_reducible refine bt_nt ?_
  | with_reducible refine bt_nf ?_
  | with_reducible refine bt_ft ?_
  | with_reducible refine bt_tf ?_
  | with_reducible refine bt_nt' ?_
  | with_reducible refine bt_nf' ?_
  | (with_reducible refine bt_t ?_ ?_
     focus (first | rfl | assumption))
  | (with_reducible refine bt_f ?_ ?_
     focus (first | rfl | assumption))
  | (with_reducible refine bt_t' ?_ ?_
     focus (first | rfl | assumption))
  | (with_reducible refine bt_f' ?_ ?_
     focus (first | rfl | assumption))
  | (refine ca5 ?_ ?_ ?_ ?_ ?_
     focus (first | rfl | decide)
     focus (first | exact Nat.zero_le _ | exact Nat.le_of_ble_eq_true rfl)
     focus (walk_at "zok"; done)
     focus (walk_at "zok"; done))
  | (refine ca3 ?_ ?_ ?_
     focus (walk_at "zok"; done)
     focus (walk_at "zok"; done)))

local macro_rules | `(tactic| walk_at "zu") => `(tactic| first
  | refine u_is_integer ?_
  | refine u_is_integer_th ?_
  | refine u_is_number_below ?_ ?_
  | refine u_is_number_below_th ?_
  | refine u_is_lot ?_
  | refine u_is_lot_of_cells ?_
  | refine u_is_kind ?_
  | refine u__law_is_int ?_ ?_ ?_
  | refine u__law_is_int_th ?_
  | refine u__law_flag ?_
  | refine u__law_history ?_ ?_ ?_
  | refine u__law_draw ?_ ?_ ?_
  | refine u__law_any ?_ ?_ ?_
  | refine u__law_any_th ?_ ?_ ?_
  | refine u__law_kinds ?_ ?_ ?_ ?_ ?_
  | refine u_is_journal ?_ ?_
  | refine u_is_journal_ty ?_ ?_ ?_
  | refine u_check_journal ?_ ?_ ?_
  | refine u_is_version ?_ ?_ ?_
  | refine u_is_plates ?_ ?_ ?_
  | refine u__law_is_lot ?_ ?_
  | refine u__law_is_kind ?_ ?_
  | refine u__law_due ?_ ?_
  | refine u_Table_initC ?_ ?_
  | refine u_Table_eq ?_ ?_
  | refine u__law_told ?_ ?_
  | refine u__law_deep ?_ ?_ ?_
  | refine u__law_odd ?_ ?_
  | refine u__law_table ?_ ?_ ?_
  | refine u__law_journal ?_ ?_ ?_ ?_ ?_
  | refine u__law_versions ?_ ?_ ?_ ?_ ?_
  | refine u__law_bent ?_ ?_ ?_ ?_ ?_ ?_
  | refine u__law_great_right ?_
  | refine u__law_journals_right ?_ ?_
  | refine u_law ?_ ?_)
local macro_rules | `(tactic| walk_at "zs1") => `(tactic| first
  | walk_at "zq"
  | walk_at "zu"
  | walk_at "zb")
local macro_rules | `(tactic| walk_at "zs") => `(tactic| repeat walk_at "zs1")
section
variable {P : Program} {w : World} {c : Cc} {mg : Str → Option Value} {base : Heap}
theorem sc_is_integer : FnScope ["thing"] ["thing"] (defScope s_is_integer) := ⟨rfl, rfl, rfl, by decide +kernel, rfl, by decide +kernel, by decide +kernel⟩
theorem ok_is_integer {f : Addr} {fd : FuncData} (F : Fun c.K "is_integer" "is_integer" s_is_integer f fd) (T : Tb mg) (X : Tx c mg)  :
    FnOk P w c.K mg base CX0 1 f fd ["thing"] (spOf c 1 0 sp_is_integer) := by
  refine F.ok sc_is_integer (fun vs H Q E h => ?_) (fun cdv A outer s H vs Q E hr h => ?_)
  · obtain ⟨as, F, ds, M, P, _, hn, _, rd, _⟩ := h
    rw [rd.length, hn]; rfl
  · have hu1 : (A.deeper (envOfC "is_integer" (defScope s_is_integer) s.heap.objs.size f cdv)).units + 1 < cLine := hu_of hr
    have hu8 : (A.deeper (envOfC "is_integer" (defScope s_is_integer) s.heap.objs.size f cdv)).units + 8 < cLine := by have := hr.un; omega
    have hu16 : (A.deeper (envOfC "is_integer" (defScope s_is_integer) s.heap.objs.size f cdv)).units + 16 < cLine := by have := hr.un; omega
    have hu64 : (A.deeper (envOfC "is_integer" (defScope s_is_integer) s.heap.objs.size f cdv)).units + 64 < cLine := by have := hr.un; omega
    have hu65 : (A.deeper (envOfC "is_integer" (defScope s_is_integer) s.heap.objs.size f cdv)).units + 65 < cLine := by have := hr.un; omega
    refine ⟨_, (pss_one (ps_ret (pe_and (pe_callB (r := rIsi c.K) call_isi (by rfl) T.b_isinstance (by decide +kernel) (pa_cons (pv 0) (pa_cons (pe_bltn (v := .ty "int") rfl T.b_int (by decide +kernel) rfl) pa_nil))) (pe_one (pe_not (pe_callB (r := rIsi c.K) call_isi (by rfl) T.b_isinstance (by decide +kernel) (pa_cons (pv 0) (pa_cons (pe_bltn (v := .ty "bool") rfl T.b_bool (by decide +kernel) rfl) pa_nil)))))))), ?_⟩
    refine body_ok h (by decide) fun ds M R hds hM hS => ?_
    obtain ⟨x, rfl, hP⟩ := hS
    obtain rfl := List.length_eq_zero_iff.mp hM
    show WS c 0 _ [some (dy x)] [] _ _
    walk_at "zs"
    refine ⟨fun q => ?_, fun q => ?_⟩
    · rw [q] at hP
      walk_at "zs"
      exact hP
    · rw [q] at hP
      walk_at "zs"
      exact hP

theorem sc_is_number_below : FnScope ["end", "thing"] ["end", "thing"] (defScope s_is_number_below) := ⟨rfl, rfl, rfl, by decide +kernel, rfl, by decide +kernel, by decide +kernel⟩
theorem ok_is_number_below {f : Addr} {fd : FuncData} (F : Fun c.K "is_number_below" "is_number_below" s_is_number_below f fd) (T : Tb mg) (X : Tx c mg) (g_is_integer : Cal P w c.K mg base 1 "is_integer" (spOf c 1 0 sp_is_integer) []) :
    FnOk P w c.K mg base CX0 2 f fd ["end", "thing"] (spOf c 2 0 sp_is_number_below) := by
  refine F.ok sc_is_number_below (fun vs H Q E h => ?_) (fun cdv A outer s H vs Q E hr h => ?_)
  · obtain ⟨as, F, ds, M, P, _, hn, _, rd, _⟩ := h
    rw [rd.length, hn]; rfl
  · have hu1 : (A.deeper (envOfC "is_number_below" (defScope s_is_number_below) s.heap.objs.size f cdv)).units + 1 < cLine := hu_of hr
    have hu8 : (A.deeper (envOfC "is_number_below" (defScope s_is_number_below) s.heap.objs.size f cdv)).units + 8 < cLine := by have := hr.un; omega
    have hu16 : (A.deeper (envOfC "is_number_below" (defScope s_is_number_below) s.heap.objs.size f cdv)).units + 16 < cLine := by have := hr.un; omega
    have hu64 : (A.deeper (envOfC "is_number_below" (defScope s_is_number_below) s.heap.objs.size f cdv)).units + 64 < cLine := by have := hr.un; omega
    have hu65 : (A.deeper (envOfC "is_number_below" (defScope s_is_number_below) s.heap.objs.size f cdv)).units + 65 < cLine := by have := hr.un; omega
    refine ⟨_, (pss_one (ps_ret (pe_and (pe_c g_is_integer hr (by decide) rfl (pa_cons (pv 1) pa_nil)) (pe_one (pe_chain op_le op_lt pe_int (pv 1) (pv 0)))))), ?_⟩
    refine body_ok h (by decide) fun ds M R hds hM hS => ?_
    obtain ⟨n, x, rfl, hP⟩ := hS
    obtain rfl := List.length_eq_zero_iff.mp hM
    show WS c 0 _ [some (dy n), some (dy x)] [] _ _
    cases x with
    | int i =>
      rw [th_int]
      walk_at "zs"
      have hP' : R (dy (decide (0 ≤ i) && decide (i < n))) [] := hP
      refine ⟨fun h => ?_, fun h => ?_⟩
      · walk_at "zs"
        rw [h] at hP'
        exact hP'
      · walk_at "zs"
        rw [h] at hP'
        exact hP'
    | _ =>
      walk_at "zs"
      exact hP

theorem sc_is_lot : FnScope ["thing", "at", "number"] ["thing"] (defScope s_is_lot) := ⟨rfl, rfl, rfl, by decide +kernel, rfl, by decide +kernel, by decide +kernel⟩
theorem ok_is_lot {f : Addr} {fd : FuncData} (F : Fun c.K "is_lot" "is_lot" s_is_lot f fd) (T : Tb mg) (X : Tx c mg) (g_is_integer : Cal P w c.K mg base 1 "is_integer" (spOf c 1 0 sp_is_integer) []) :
    FnOk P w c.K mg base CX0 2 f fd ["thing"] (spOf c 1 0 sp_is_lot) := by
  refine F.ok sc_is_lot (fun vs H Q E h => ?_) (fun cdv A outer s H vs Q E hr h => ?_)
  · obtain ⟨as, F, ds, M, P, _, hn, _, rd, _⟩ := h
    rw [rd.length, hn]; rfl
  · have hu1 : (A.deeper (envOfC "is_lot" (defScope s_is_lot) s.heap.objs.size f cdv)).units + 1 < cLine := hu_of hr
    have hu8 : (A.deeper (envOfC "is_lot" (defScope s_is_lot) s.heap.objs.size f cdv)).units + 8 < cLine := by have := hr.un; omega
    have hu16 : (A.deeper (envOfC "is_lot" (defScope s_is_lot) s.heap.objs.size f cdv)).units + 16 < cLine := by have := hr.un; omega
    have hu64 : (A.deeper (envOfC "is_lot" (defScope s_is_lot) s.heap.objs.size f cdv)).units + 64 < cLine := by have := hr.un; omega
    have hu65 : (A.deeper (envOfC "is_lot" (defScope s_is_lot) s.heap.objs.size f cdv)).units + 65 < cLine := by have := hr.un; omega
    refine ⟨_, (pss_cons (ps_if (pt_not (pt_val (pe_callB (r := rIsi c.K) call_isi (by rfl) T.b_isinstance (by decide +kernel) (pa_cons (pv 0) (pa_cons (pe_bltn (v := .ty "tuple") rfl T.b_tuple (by decide +kernel) rfl) pa_nil))))) (pss_one (ps_ret pe_bl)) pss_nil)
        (pss_cons (ps_for PassesOwn.never rfl (Zr.pi_enumT rfl T.b_enumerate (pa_cons (pv 0) pa_nil)) (pg_tup rfl (pgs_cons (pg_name (i := 1) sc_is_lot.nd rfl (Or.inl rfl)) (pgs_cons (pg_name (i := 2) sc_is_lot.nd rfl (Or.inl rfl)) pgs_nil))) (pss_cons (ps_if (pt_not (pt_val (pe_c g_is_integer hr (by decide) rfl (pa_cons (pv 2) pa_nil)))) (pss_one (ps_ret pe_bl)) pss_nil)
        (pss_one (ps_if (PW.pt (pw_and (pt_cmpR op_gt (pv 1) pe_int (nomark _)) (pw_and1 (pt_cmpR op_le (pv 2) (pe_ix (r := rIxT c.K) ix_tup (pv 0) (pe_op op_sub (pv 1) pe_int) (fun _ _ => rfl)) (nomark _))))) (pss_one (ps_ret pe_bl)) pss_nil))))
        (pss_one (ps_ret pe_bl)))), ?_⟩
    refine body_ok h (by decide) fun ds M R hds hM hS => ?_
    obtain ⟨x, rfl, hP⟩ := hS
    obtain rfl := List.length_eq_zero_iff.mp hM
    show WS c 0 _ [some (dy x), none, none] [] _ _
    cases x with
    | tup l =>
      rw [th_tup]
      walk_at "zs"
      refine ws_for (S := Unit) (β := Int × Th) (ts := [1] ++ [2]) (fun pre _ => ∃ xs : List Int, pre.map (·.2) = xs.map Th.int ∧ xs.Pairwise (· < ·)) (fun _ => [some (dy (Tp.mk l)), none, none]) (fun _ => []) ?_
      refine wi_enumT (α := Th) ?_
      walk_at "zs"
      refine ⟨⟨l⟩, rfl, nums l, rfl, (), ⟨[], rfl, .nil⟩, by walk_at "zcut", fun pre y post s e hJ => ?_, fun s hJ => ?_⟩
      · obtain ⟨h1, h2, h3, hm⟩ := nums_split e
        have hl := nums_cut e
        obtain ⟨k, x⟩ := y
        obtain ⟨xs, hx, ha⟩ := hJ
        have hlen : xs.length = pre.length := by have := congrArg List.length hx; rw [List.length_map, List.length_map] at this; exact this.symm
        have bad : ¬ lotP (.tup l) → R (dy false) [] := fun h => by rw [tf_f h] at hP; exact hP
        cases hb : (x.isInt && !x.isBl) with
        | false =>
          have e1 : (!(x.isInt && !x.isBl)) = true := by rw [hb]; rfl
          walk_at "zs"
          refine bad ?_
          rintro ⟨ys, hy, _⟩
          rw [to_tup] at hy
          injection hy with hy
          have : x ∈ ys.map Th.int := by rw [← hy]; exact hm
          obtain ⟨i, _, rfl⟩ := List.mem_map.mp this
          cases hb
        | true =>
          obtain ⟨i, rfl⟩ := isInt_ex hb
          have hk : k = (pre.length : Int) := h1
          have step : (∀ u, xs[xs.length - 1]? = some u → u < i) → ∃ ys : List Int, (pre ++ [(k, Th.int i)]).map (·.2) = ys.map Th.int ∧ ys.Pairwise (· < ·) := fun h => ⟨xs ++ [i], by rw [List.map_append, hx, List.map_append]; rfl, asc_snoc.mpr ⟨ha, h⟩⟩
          walk_at "zs"
          refine ⟨fun q => ?_, fun q => ?_⟩
          · have q0 : 0 < k := of_decide_eq_true q
            have hl1 : pre.length - 1 < l.length := by omega
            have hx1 : xs.length - 1 < xs.length := by omega
            have get : l[(k - 1).toNat]? = some (Th.int xs[xs.length - 1]) := by
              rw [hl, List.getElem?_append_left (by rw [List.length_map]; omega), hx, List.getElem?_map, show (k - 1).toNat = xs.length - 1 by omega, List.getElem?_eq_getElem hx1]; rfl
            walk_at "zs"
            refine rr_ixT (xs := Tp.mk l) (by omega) get ?_
            rw [th_int, th_int]
            walk_at "zs"
            refine ⟨fun q2 => ?_, fun q2 => ?_⟩
            · walk_at "zs"
              have q3 : i ≤ xs[xs.length - 1] := of_decide_eq_true q2
              refine bad ?_
              rintro ⟨ys, hy, hp⟩
              rw [to_tup] at hy
              injection hy with hy
              have g1 : ys[xs.length - 1]? = some xs[xs.length - 1] := by
                have : (ys.map Th.int)[xs.length - 1]? = some (Th.int xs[xs.length - 1]) := by rw [← hy, ← get]; congr 1; omega
                rw [List.getElem?_map] at this
                cases z : ys[xs.length - 1]? with
                | none => rw [z] at this; cases this
                | some w => rw [z] at this; injection this with this; injection this with this; rw [this]
              have g2 : ys[pre.length]? = some i := by
                have : (ys.map Th.int)[pre.length]? = some (Th.int i) := by rw [← hy, h3]
                rw [List.getElem?_map] at this
                cases z : ys[pre.length]? with
                | none => rw [z] at this; cases this
                | some w => rw [z] at this; injection this with this; injection this with this; rw [this]
              obtain ⟨l1, e1⟩ := List.getElem?_eq_some_iff.mp g1
              obtain ⟨l2, e2⟩ := List.getElem?_eq_some_iff.mp g2
              have := List.pairwise_iff_getElem.mp hp (xs.length - 1) pre.length l1 l2 (by omega)
              rw [e1, e2] at this
              omega
            · walk_at "zs"
              have q3 : ¬ i ≤ xs[xs.length - 1] := of_decide_eq_false q2
              refine ⟨(), step fun u hu => ?_, by walk_at "zcut"⟩
              rw [List.getElem?_eq_getElem hx1] at hu
              cases hu; omega
          · have q0 : ¬ 0 < k := of_decide_eq_false q
            walk_at "zs"
            refine ⟨(), step fun u hu => ?_, by walk_at "zcut"⟩
            have := (List.getElem?_eq_some_iff.mp hu).1
            omega
      · walk_at "zs"
        obtain ⟨xs, hx, ha⟩ := hJ
        rw [nums_snd] at hx
        rw [tf_t ⟨xs, by rw [to_tup, hx], ha⟩] at hP
        exact hP
    | _ =>
      walk_at "zs"
      rw [tf_f (by rintro ⟨xs, h, _⟩; cases h)] at hP
      exact hP

theorem lot_in {n : Int} {xs : List Int} (ha : xs.Pairwise (· < ·)) : lotIn 0 (n - 1) (to (Tp.mk xs)) ↔ xs = [] ∨ ∃ (h : 0 < xs.length), 0 ≤ xs[0] ∧ xs[xs.length - 1]'(by omega) < n := by
  constructor
  · rintro ⟨ys, hy, _, hb⟩
    have := tup_inj hy
    subst this
    by_cases h : 0 < xs.length
    · exact .inr ⟨h, (hb _ (List.getElem_mem _)).1, by have := (hb _ (List.getElem_mem (show xs.length - 1 < xs.length by omega))).2; omega⟩
    · exact .inl (List.length_eq_zero_iff.mp (by omega))
  · rintro (rfl | ⟨h, h1, h2⟩)
    · exact ⟨[], rfl, .nil, by simp⟩
    · refine ⟨xs, rfl, ha, fun r hr => ?_⟩
      obtain ⟨i, hi⟩ := List.mem_iff_getElem?.mp hr
      obtain ⟨hl, rfl⟩ := List.getElem?_eq_some_iff.mp hi
      have a : xs[0] ≤ xs[i] := by
        rcases Nat.eq_zero_or_pos i with z | z
        · subst z; omega
        · have := List.pairwise_iff_getElem.mp ha 0 i h hl z; omega
      have b : xs[i] ≤ xs[xs.length - 1] := by
        by_cases z : i = xs.length - 1
        · subst z; omega
        · have := List.pairwise_iff_getElem.mp ha i (xs.length - 1) hl (by omega) (by omega); omega
      omega
theorem sc_is_lot_of_cells : FnScope ["cells", "thing"] ["cells", "thing"] (defScope s_is_lot_of_cells) := ⟨rfl, rfl, rfl, by decide +kernel, rfl, by decide +kernel, by decide +kernel⟩
theorem ok_is_lot_of_cells {f : Addr} {fd : FuncData} (F : Fun c.K "is_lot_of_cells" "is_lot_of_cells" s_is_lot_of_cells f fd) (T : Tb mg) (X : Tx c mg) (g_is_lot : Cal P w c.K mg base 2 "is_lot" (spOf c 1 0 sp_is_lot) []) :
    FnOk P w c.K mg base CX0 3 f fd ["cells", "thing"] (spOf c 2 0 sp_is_lot_of_cells) := by
  refine F.ok sc_is_lot_of_cells (fun vs H Q E h => ?_) (fun cdv A outer s H vs Q E hr h => ?_)
  · obtain ⟨as, F, ds, M, P, _, hn, _, rd, _⟩ := h
    rw [rd.length, hn]; rfl
  · have hu1 : (A.deeper (envOfC "is_lot_of_cells" (defScope s_is_lot_of_cells) s.heap.objs.size f cdv)).units + 1 < cLine := hu_of hr
    have hu8 : (A.deeper (envOfC "is_lot_of_cells" (defScope s_is_lot_of_cells) s.heap.objs.size f cdv)).units + 8 < cLine := by have := hr.un; omega
    have hu16 : (A.deeper (envOfC "is_lot_of_cells" (defScope s_is_lot_of_cells) s.heap.objs.size f cdv)).units + 16 < cLine := by have := hr.un; omega
    have hu64 : (A.deeper (envOfC "is_lot_of_cells" (defScope s_is_lot_of_cells) s.heap.objs.size f cdv)).units + 64 < cLine := by have := hr.un; omega
    have hu65 : (A.deeper (envOfC "is_lot_of_cells" (defScope s_is_lot_of_cells) s.heap.objs.size f cdv)).units + 65 < cLine := by have := hr.un; omega
    refine ⟨_, (pss_cons (ps_if (pt_not (pt_val (pe_c g_is_lot hr (by decide) rfl (pa_cons (pv 1) pa_nil)))) (pss_one (ps_ret pe_bl)) pss_nil)
        (pss_one (ps_ret (pe_or (pe_cmpR op_eq (pe_callB (r := Zq.rLen c.K) call_len_seq (by rfl) T.b_len (by decide +kernel) (pa_cons (pv 1) pa_nil)) pe_int (nomark _)) (pe_one (pe_and (pe_cmpR op_ge (pe_ix (r := rIxT c.K) ix_tup (pv 1) pe_int (fun _ _ => rfl)) pe_int (nomark _)) (pe_one (pe_cmpR op_lt (pe_ix (r := rIxT c.K) ix_tup (pv 1) (pe_un un_neg pe_int) (fun _ _ => rfl)) (pv 0) (nomark _))))))))), ?_⟩
    refine body_ok h (by decide) fun ds M R hds hM hS => ?_
    obtain ⟨n, x, rfl, hP⟩ := hS
    obtain rfl := List.length_eq_zero_iff.mp hM
    show WS c 0 _ [some (dy n), some (dy x)] [] _ _
    by_cases hx : lotP x
    · have e1 : (!tf (lotP x)) = false := by rw [tf_t hx]; rfl
      walk_at "zs"
      obtain ⟨xs, rfl, ha⟩ := hx
      rw [IsTh.eq]
      walk_at "zs"
      by_cases h0 : xs.length = 0
      · have e2 : decide (((xs.length : Nat) : Int) = 0) = true := decide_eq_true (by omega)
        walk_at "zs"
        rw [tf_t ((lot_in ha).mpr (.inl (List.length_eq_zero_iff.mp h0)))] at hP
        exact hP
      · have e2 : decide (((xs.length : Nat) : Int) = 0) = false := decide_eq_false (by omega)
        have hl0 : 0 < xs.length := by omega
        walk_at "zs"
        refine rr_ixT (xs := Tp.mk xs) (by decide) (List.getElem?_eq_getElem (show (0 : Int).toNat < xs.length from hl0)) ?_
        walk_at "zs"
        refine ⟨fun q => ?_, fun q => ?_⟩
        · walk_at "zs"
          refine rr_ixTm1 (xs := Tp.mk xs) (List.getElem?_eq_getElem (show xs.length - 1 < xs.length by omega)) ?_
          walk_at "zs"
          rw [tf_iff (b := decide (xs[xs.length - 1] < n))] at hP
          · exact hP
          · rw [lot_in ha, decide_eq_true_eq]
            constructor
            · intro h; exact .inr ⟨hl0, of_decide_eq_true q, h⟩
            · rintro (h | ⟨_, _, h⟩)
              · rw [h] at hl0; exact absurd hl0 (by simp)
              · exact h
        · walk_at "zs"
          rw [tf_f] at hP
          · exact hP
          · rw [lot_in ha]
            rintro (h | ⟨_, h, _⟩)
            · rw [h] at hl0; exact absurd hl0 (by simp)
            · exact of_decide_eq_false q h
    · have e1 : (!tf (lotP x)) = true := by rw [tf_f hx]; rfl
      walk_at "zs"
      rw [tf_f (fun ⟨xs, h1, h2, _⟩ => hx ⟨xs, h1, h2⟩)] at hP
      exact hP

theorem sc_is_kind : FnScope ["cells", "thing", "cell", "reads"] ["cells", "thing"] (defScope s_is_kind) := ⟨rfl, rfl, rfl, by decide +kernel, rfl, by decide +kernel, by decide +kernel⟩
theorem ok_is_kind {f : Addr} {fd : FuncData} (F : Fun c.K "is_kind" "is_kind" s_is_kind f fd) (T : Tb mg) (X : Tx c mg) (g_is_lot_of_cells : Cal P w c.K mg base 3 "is_lot_of_cells" (spOf c 2 0 sp_is_lot_of_cells) []) (g_is_number_below : Cal P w c.K mg base 2 "is_number_below" (spOf c 2 0 sp_is_number_below) []) :
    FnOk P w c.K mg base CX0 4 f fd ["cells", "thing"] (spOf c 2 0 sp_is_kind) := by
  refine F.ok sc_is_kind (fun vs H Q E h => ?_) (fun cdv A outer s H vs Q E hr h => ?_)
  · obtain ⟨as, F, ds, M, P, _, hn, _, rd, _⟩ := h
    rw [rd.length, hn]; rfl
  · have hu1 : (A.deeper (envOfC "is_kind" (defScope s_is_kind) s.heap.objs.size f cdv)).units + 1 < cLine := hu_of hr
    have hu8 : (A.deeper (envOfC "is_kind" (defScope s_is_kind) s.heap.objs.size f cdv)).units + 8 < cLine := by have := hr.un; omega
    have hu16 : (A.deeper (envOfC "is_kind" (defScope s_is_kind) s.heap.objs.size f cdv)).units + 16 < cLine := by have := hr.un; omega
    have hu64 : (A.deeper (envOfC "is_kind" (defScope s_is_kind) s.heap.objs.size f cdv)).units + 64 < cLine := by have := hr.un; omega
    have hu65 : (A.deeper (envOfC "is_kind" (defScope s_is_kind) s.heap.objs.size f cdv)).units + 65 < cLine := by have := hr.un; omega
    refine ⟨_, (pss_cons (ps_if (PW.pt (pw_or (pt_not (pt_val (pe_callB (r := rIsi c.K) call_isi (by rfl) T.b_isinstance (by decide +kernel) (pa_cons (pv 1) (pa_cons (pe_bltn (v := .ty "tuple") rfl T.b_tuple (by decide +kernel) rfl) pa_nil))))) (pw_or1 (pt_cmpR op_ne (pe_callB (r := Zq.rLen c.K) call_len_seq (by rfl) T.b_len (by decide +kernel) (pa_cons (pv 1) pa_nil)) pe_int (nomark _))))) (pss_one (ps_ret pe_bl)) pss_nil)
        (pss_cons (ps_asg (pv 1) (pg_tup rfl (pgs_cons (pg_name (i := 2) sc_is_kind.nd rfl (Or.inl rfl)) (pgs_cons (pg_name (i := 3) sc_is_kind.nd rfl (Or.inl rfl)) pgs_nil))))
        (pss_cons (ps_if (PW.pt (pw_or (pt_not (pt_val (pe_c g_is_number_below hr (by decide) rfl (pa_cons (pv 0) (pa_cons (pv 2) pa_nil))))) (pw_or1 (pt_not (pt_val (pe_c g_is_lot_of_cells hr (by decide) rfl (pa_cons (pv 0) (pa_cons (pv 3) pa_nil)))))))) (pss_one (ps_ret pe_bl)) pss_nil)
        (pss_one (ps_ret (pe_cmpR op_le (pe_callB (r := Zq.rLen c.K) call_len_seq (by rfl) T.b_len (by decide +kernel) (pa_cons (pv 3) pa_nil)) (pe_gc (v := .int 3) rfl T.c_MOST_READS) (nomark _))))))), ?_⟩
    refine body_ok h (by decide) fun ds M R hds hM hS => ?_
    obtain ⟨n, x, rfl, hP⟩ := hS
    obtain rfl := List.length_eq_zero_iff.mp hM
    show WS c 0 _ [some (dy n), some (dy x), none, none] [] _ _
    cases x with
    | tup l =>
      rw [th_tup]
      walk_at "zs"
      match l, hP with
      | [a, b], hP =>
        walk_at "zs"
        rw [← th_tup, th_two]
        walk_at "zs"
        cases hb : below n a with
        | false =>
          walk_at "zs"
          rw [tf_f (fun h => by rw [(kind_in.mp h).1] at hb; cases hb)] at hP
          exact hP
        | true =>
          walk_at "zs"
          by_cases hc : lotIn 0 (n - 1) b
          · have e1 : (!tf (lotIn 0 (n - 1) b)) = false := by rw [tf_t hc]; rfl
            walk_at "zs"
            obtain ⟨xs, rfl, ha, hr⟩ := hc
            rw [IsTh.eq]
            walk_at "zs"
            rw [tf_iff (b := decide (((xs.length : Nat) : Int) ≤ 3))] at hP
            · exact hP
            · rw [decide_eq_true_eq, kind_in]
              constructor
              · intro h; have h : ((xs.length : Nat) : Int) ≤ 3 := h; exact ⟨hb, ⟨xs, rfl, ha, hr⟩, _, rfl, by rw [List.length_map]; show xs.length ≤ 3; omega⟩
              · rintro ⟨_, _, l, h1, h2⟩
                rw [to_tup] at h1
                injection h1 with h1
                subst h1
                rw [List.length_map] at h2; show ((xs.length : Nat) : Int) ≤ 3; omega
          · have e1 : (!tf (lotIn 0 (n - 1) b)) = true := by rw [tf_f hc]; rfl
            walk_at "zs"
            rw [tf_f (fun h => hc (kind_in.mp h).2.1)] at hP
            exact hP
      | [], hP => walk_at "zs"; rw [tf_f (by rintro ⟨k, h, _⟩; rw [to_kind] at h; injection h with h; cases h)] at hP; exact hP
      | [_], hP => walk_at "zs"; rw [tf_f (by rintro ⟨k, h, _⟩; rw [to_kind] at h; injection h with h; cases h)] at hP; exact hP
      | _ :: _ :: _ :: l, hP =>
        have e1 : (!decide ((((l.length + 1 + 1 + 1 : Nat)) : Int) = 2)) = true := by rw [decide_eq_false (by omega)]; rfl
        walk_at "zs"
        rw [tf_f (by rintro ⟨k, h, _⟩; rw [to_kind] at h; injection h with h; cases h)] at hP; exact hP
    | _ =>
      walk_at "zs"
      rw [tf_f (by rintro ⟨k, h, _⟩; cases h)] at hP
      exact hP

end
end K01
end
section
set_option Elab.async false
set_option linter.all false
set_option maxRecDepth 100000
set_option maxHeartbeats 4000000
namespace K01
open PySem PySem.Spec PyProof.Rows L2 Zq K02
open C8 (Cal Mak pe_c pe_mk pe_gc)
open IsTh (to)
local macro_rules | `(tactic| walk_at "zq") => `(tactic| first
  | with_reducible refine ws_seq ?_
  | with_reducible refine ws_asg ?_
  | (with_reducible apply ws_asgG)
  | with_reducible refine ws_next ?_
  | with_reducible refine ws_ret ?_
  | with_reducible refine ws_if ?_
  | with_reducible refine ws_drop (te := tCall _ _ _ _) ?_
  | with_reducible refine wsx_seq ?_
  | with_reducible refine wsx_asg ?_
  | with_reducible refine wsx_if ?_
  | with_reducible refine wsx_ret ?_
  | with_reducible refine wsx_next ?_
  | with_reducible refine wsx_raise ?_
  | with_reducible refine as_dy ?_
  | ((with_reducible apply we_var); focus rfl)
  | with_reducible refine we_int ?_
  | with_reducible refine we_bl ?_
  | with_reducible refine we_non ?_
  | with_reducible refine we_ty ?_
  | with_reducible refine we_str ?_
  | with_reducible refine we_op2 ?_
  | with_reducible refine we_neg ?_
  | with_reducible refine we_andV ?_
  | with_reducible refine we_orV ?_
  | with_reducible refine we_notV ?_
  | with_reducible refine we_chain ?_
  | with_reducible refine we_cb ?_
  | with_reducible refine tup_pair ?_
  | with_reducible refine tup_three ?_
  | with_reducible refine tup_nil ?_
  | with_reducible refine we_call ?_
  | with_reducible refine we_callD ?_
  | with_reducible refine we_tup ?_
  | refine we_cells (Tx.cl (by assumption)) (Tx.nc (by assumption)) ?_
  | refine we_kinds (Tx.cl (by assumption)) (Tx.nk (by assumption)) ?_
  | with_reducible refine wt_test ?_
  | with_reducible refine wt_B ?_
  | with_reducible refine wt_not ?_
  | with_reducible refine wt_and ?_
  | with_reducible refine wt_or ?_
  | with_reducible refine wt_yes ?_
  | with_reducible refine wa_cons ?_
  | with_reducible refine wa_nil ?_
  | with_reducible refine rr_II ?_
  | with_reducible refine rr_isTrue ?_
  | with_reducible refine rr_notTrue ?_
  | with_reducible refine rr_isN0 ?_
  | with_reducible refine rr_notN0 ?_
  | with_reducible refine rr_isN ?_
  | with_reducible refine rr_notN ?_
  | with_reducible refine rr_neB ?_
  | with_reducible refine rr_isNo ?_
  | with_reducible refine rr_notNo ?_
  | with_reducible refine rr_IB ?_
  | with_reducible refine rr_eqI ?_
  | with_reducible refine rr_neI ?_
  | with_reducible refine rr_eqB ?_
  | with_reducible refine rr_ixP0 ?_
  | with_reducible refine rr_ixP1 ?_
  | with_reducible refine rr_ix30 ?_
  | with_reducible refine rr_ix31 ?_
  | with_reducible refine rr_ix32 ?_
  | with_reducible refine rr_leK ?_
  | with_reducible refine rr_ltK ?_
  | refine rr_eqD ?_
  | refine rr_neD ?_
  | with_reducible refine rr_inT ?_
  | with_reducible refine rr_ninT ?_
  | with_reducible refine rr_inL ?_
  | with_reducible refine rr_ninL ?_
  | with_reducible refine rc_isi kit_ii ?_
  | with_reducible refine rc_isi kit_ib ?_
  | with_reducible refine rc_isi kit_bb ?_
  | with_reducible refine rc_isi kit_tt ?_
  | refine rc_isInt (Tx.isi (by assumption)) ?_
  | refine rc_isBl (Tx.isi (by assumption)) ?_
  | refine rc_isTup (Tx.isi (by assumption)) ?_
  | refine rc_isStr (Tx.isi (by assumption)) ?_
  | with_reducible refine rc_lenL ?_
  | with_reducible refine rc_lenT ?_
  | with_reducible refine rc_lenP ?_
  | with_reducible refine rc_tupL ?_
  | refine rc_lenM rfl ?_
  | refine rc_tupM rfl ?_
  | ((with_reducible apply rr_inM); focus rfl)
  | ((with_reducible apply rr_ninM); focus rfl)
  | with_reducible apply wg_setM
  | refine ex_l rfl ?_
  | refine ex_d rfl ?_
  | with_reducible refine rc_int ?_
  | with_reducible refine rc_abs ?_
  | with_reducible refine rc_min2 ?_
  | with_reducible refine rc_all ?_
  | with_reducible refine rc_any ?_
  | with_reducible refine wg_name ?_
  | (apply wg_tup2)
  | (apply wg_tup3))
local macro_rules | `(tactic| walk_at "zqs") => `(tactic| repeat walk_at "zq")
local macro_rules | `(tactic| walk_at "zok1") => `(tactic| first
  | exact trivial
  | exact dy_ok _ _
  | exact cLst_ok _ _
  | exact cDic_ok _ _
  | exact hand_ok _
  | exact handX_ok
  | exact okM_nil
  | exact okE_nil
  | exact okDs_nil
  | refine okM_cons ?_ ?_
  | refine okDs_cons ?_ ?_
  | refine okE_none ?_
  | refine okE_cons ?_ ?_
  | exact mr_ok (Nat.le_of_ble_eq_true rfl)
  | exact Free.l _ _
  | exact Free.k _ _
  | exact Free.ok _ _
  | exact Frg.refl _
  | exact Frg.nil
  | refine Frg.same ?_
  | refine Frg.drop ?_)
local macro_rules | `(tactic| walk_at "zok") => `(tactic| repeat walk_at "zok1")
local macro_rules | `(tactic| walk_at "zcut") => `(tactic| exact Cut.mk (by walk_at "zok") (by walk_at "zok") (by walk_at "zok") rfl)
local macro_rules | `(tactic| walk_at "zb") => `(tactic| first
  | with_reducible refine bt_tt ?_
  | with_reducible refine bt_ff ?_
  | with_reducible refine bt_nt ?_
  | with_reducible refine bt_nf ?_
  | with_reducible refine bt_ft ?_
  | with_reducible refine bt_tf ?_
  | with_reducible refine bt_nt' ?_
  | with_reducible refine bt_nf' ?_
  | (with_reducible refine bt_t ?_ ?_
     focus (first | rfl | assumption))
  | (with_reducible refine bt_f ?_ ?_
     focus (first | rfl | assumption))
  | (with_reducible refine bt_t' ?_ ?_
     focus (first | rfl | assumption))
  | (with_reducible refine bt_f' ?_ ?_
     focus (first | rfl | assumption))
  | (refine ca5 ?_ ?_ ?_ ?_ ?_
     focus (first | rfl | decide)
     focus (first | exact Nat.zero_le _ | exact Nat.le_of_ble_eq_true rfl)
     focus (walk_at "zok"; done)
     focus (walk_at "zok"; done))
  | (refine ca3 ?_ ?_ ?_
     focus (walk_at "zok"; done)
     focus (walk_at "zok"; done)))

local macro_rules | `(tactic| walk_at "zu") => `(tactic| first
  | refine u_is_integer ?_
  | refine u_is_integer_th ?_
  | refine u_is_number_below ?_ ?_
  | refine u_is_number_below_th ?_
  | refine u_is_lot ?_
  | refine u_is_lot_of_cells ?_
  | refine u_is_kind ?_
  | refine u__law_is_int ?_ ?_ ?_
  | refine u__law_is_int_th ?_
  | refine u__law_flag ?_
  | refine u__law_history ?_ ?_ ?_
  | refine u__law_draw ?_ ?_ ?_
  | refine u__law_any ?_ ?_ ?_
  | refine u__law_any_th ?_ ?_ ?_
  | refine u__law_kinds ?_ ?_ ?_ ?_ ?_
  | refine u_is_journal ?_ ?_
  | refine u_is_journal_ty ?_ ?_ ?_
  | refine u_check_journal ?_ ?_ ?_
  | refine u_is_version ?_ ?_ ?_
  | refine u_is_plates ?_ ?_ ?_
  | refine u__law_is_lot ?_ ?_
  | refine u__law_is_kind ?_ ?_
  | refine u__law_due ?_ ?_
  | refine u_Table_initC ?_ ?_
  | refine u_Table_eq ?_ ?_
  | refine u__law_told ?_ ?_
  | refine u__law_deep ?_ ?_ ?_
  | refine u__law_odd ?_ ?_
  | refine u__law_table ?_ ?_ ?_
  | refine u__law_journal ?_ ?_ ?_ ?_ ?_
  | refine u__law_versions ?_ ?_ ?_ ?_ ?_
  | refine u__law_bent ?_ ?_ ?_ ?_ ?_ ?_
  | refine u__law_great_right ?_
  | refine u__law_journals_right ?_ ?_
  | refine u_law ?_ ?_)
local macro_rules | `(tactic| walk_at "zs1") => `(tactic| first
  | walk_at "zq"
  | walk_at "zu"
  | walk_at "zb")
local macro_rules | `(tactic| walk_at "zs") => `(tactic| repeat walk_at "zs1")
section
variable {P : Program} {w : World} {c : Cc} {mg : Str → Option Value} {base : Heap}
theorem sc_is_journal : FnScope ["table", "thing", "kind"] ["table", "thing"] (defScope s_is_journal) := ⟨rfl, rfl, rfl, by decide +kernel, rfl, by decide +kernel, by decide +kernel⟩
theorem ok_is_journal {f : Addr} {fd : FuncData} (F : Fun c.K "is_journal" "is_journal" s_is_journal f fd) (T : Tb mg) (X : Tx c mg) (g_is_number_below : Cal P w c.K mg base 2 "is_number_below" (spOf c 2 0 sp_is_number_below) []) :
    FnOk P w c.K mg base CX0 3 f fd ["table", "thing"] (spOf c 2 0 sp_is_journal) := by
  refine F.ok sc_is_journal (fun vs H Q E h => ?_) (fun cdv A outer s H vs Q E hr h => ?_)
  · obtain ⟨as, F, ds, M, P, _, hn, _, rd, _⟩ := h
    rw [rd.length, hn]; rfl
  · have hu1 : (A.deeper (envOfC "is_journal" (defScope s_is_journal) s.heap.objs.size f cdv)).units + 1 < cLine := hu_of hr
    have hu8 : (A.deeper (envOfC "is_journal" (defScope s_is_journal) s.heap.objs.size f cdv)).units + 8 < cLine := by have := hr.un; omega
    have hu16 : (A.deeper (envOfC "is_journal" (defScope s_is_journal) s.heap.objs.size f cdv)).units + 16 < cLine := by have := hr.un; omega
    have hu64 : (A.deeper (envOfC "is_journal" (defScope s_is_journal) s.heap.objs.size f cdv)).units + 64 < cLine := by have := hr.un; omega
    have hu65 : (A.deeper (envOfC "is_journal" (defScope s_is_journal) s.heap.objs.size f cdv)).units + 65 < cLine := by have := hr.un; omega
    refine ⟨_, (pss_cons (ps_if (PW.pt (pw_or (pt_not (pt_val (pe_callB (r := rIsi c.K) call_isi (by rfl) T.b_isinstance (by decide +kernel) (pa_cons (pv 1) (pa_cons (pe_bltn (v := .ty "tuple") rfl T.b_tuple (by decide +kernel) rfl) pa_nil))))) (pw_or1 (pt_cmpR op_gt (pe_callB (r := Zq.rLen c.K) call_len_seq (by rfl) T.b_len (by decide +kernel) (pa_cons (pv 1) pa_nil)) (pe_gc (v := .int 400) rfl T.c_MOST_DEEDS) (nomark _))))) (pss_one (ps_ret pe_bl)) pss_nil)
        (pss_cons (ps_for PassesOwn.never rfl (pi_tup (pv 1)) (pg_name (i := 2) sc_is_journal.nd rfl (Or.inl rfl)) (pss_one (ps_if (pt_not (pt_val (pe_c g_is_number_below hr (by decide) rfl (pa_cons (pe_callB (r := Zq.rLen c.K) call_len_seq (by rfl) T.b_len (by decide +kernel) (pa_cons (pe_fld (pv 0) rfl) pa_nil)) (pa_cons (pv 2) pa_nil))))) (pss_one (ps_ret pe_bl)) pss_nil)))
        (pss_one (ps_ret pe_bl)))), ?_⟩
    refine body_ok h (by decide) fun ds M R hds hM hS => ?_
    obtain ⟨t, x, rfl, hk, hP⟩ := hS
    obtain rfl := List.length_eq_zero_iff.mp hM
    show WS c 0 _ [some (dy t), some (dy x), none] [] _ _
    cases x with
    | tup l =>
      rw [th_tup]
      walk_at "zs"
      have bad : ¬ jourP t.kinds.l (.tup l) → R (dy false) [] := fun h => by rw [tf_f h] at hP; exact hP
      refine ⟨fun q => ?_, fun q => ?_⟩
      · have q0 : (400 : Int) < ((l.length : Nat) : Int) := of_decide_eq_true q
        walk_at "zs"
        refine bad ?_
        rintro ⟨js, h, o⟩
        rw [to_tup] at h
        injection h with h
        have := o.len
        rw [h, List.length_map] at q0
        omega
      · have q0 : ¬ (400 : Int) < ((l.length : Nat) : Int) := of_decide_eq_false q
        walk_at "zs"
        refine ws_for (S := Unit) (β := Th) (ts := [2]) (fun pre _ => ∃ js : List Int, pre = js.map Th.int ∧ ∀ j, j ∈ js → 0 ≤ j ∧ j < (t.kinds.l.length : Int)) (fun _ => [some (dy t), some (dy (Tp.mk l)), none]) (fun _ => []) ?_
        refine wi_tup (α := Th) ?_
        walk_at "zs"
        refine ⟨⟨l⟩, rfl, l, rfl, (), ⟨[], rfl, by simp⟩, by walk_at "zcut", fun pre y post s e hJ => ?_, fun s hJ => ?_⟩
        · walk_at "zs"
          cases hb : below ((t.kinds.l.length : Nat) : Int) y with
          | true =>
            walk_at "zs"
            obtain ⟨js, h1, h2⟩ := hJ
            obtain ⟨i, rfl, i0, i1⟩ := below_ex hb
            refine ⟨(), ⟨js ++ [i], by rw [h1, List.map_append]; rfl, fun j hj => ?_⟩, by walk_at "zcut"⟩
            rcases List.mem_append.mp hj with z | z
            · exact h2 j z
            · obtain rfl : j = i := by simpa using z
              exact ⟨i0, i1⟩
          | false =>
            walk_at "zs"
            refine bad ?_
            rintro ⟨js, h, o⟩
            rw [to_tup] at h
            injection h with h
            have : y ∈ js.map Th.int := by rw [← h, e]; simp
            obtain ⟨j, hj, rfl⟩ := List.mem_map.mp this
            have := o.at_ j hj
            have hb : (decide (0 ≤ j) && decide (j < ((t.kinds.l.length : Nat) : Int))) = false := hb
            rw [decide_eq_true this.1, decide_eq_true this.2] at hb
            cases hb
        · walk_at "zs"
          obtain ⟨js, h1, h2⟩ := hJ
          subst h1
          rw [tf_t ⟨js, rfl, ⟨by rw [List.length_map] at q0; omega, h2⟩⟩] at hP
          exact hP
    | _ =>
      walk_at "zs"
      rw [tf_f (by rintro ⟨k, h, _⟩; cases h)] at hP
      exact hP

theorem sc_check_journal : FnScope ["table", "journal"] ["table", "journal"] (defScope s_check_journal) := ⟨rfl, rfl, rfl, by decide +kernel, rfl, by decide +kernel, by decide +kernel⟩
theorem ok_check_journal {f : Addr} {fd : FuncData} (F : Fun c.K "check_journal" "check_journal" s_check_journal f fd) (T : Tb mg) (X : Tx c mg) (g_is_journal : Cal P w c.K mg base 3 "is_journal" (spOf c 2 0 sp_is_journal) []) :
    FnOk P w c.K mg base CX0 4 f fd ["table", "journal"] (spOf c 2 0 sp_check_journal) := by
  refine F.ok sc_check_journal (fun vs H Q E h => ?_) (fun cdv A outer s H vs Q E hr h => ?_)
  · obtain ⟨as, F, ds, M, P, _, hn, _, rd, _⟩ := h
    rw [rd.length, hn]; rfl
  · have hu1 : (A.deeper (envOfC "check_journal" (defScope s_check_journal) s.heap.objs.size f cdv)).units + 1 < cLine := hu_of hr
    have hu8 : (A.deeper (envOfC "check_journal" (defScope s_check_journal) s.heap.objs.size f cdv)).units + 8 < cLine := by have := hr.un; omega
    have hu16 : (A.deeper (envOfC "check_journal" (defScope s_check_journal) s.heap.objs.size f cdv)).units + 16 < cLine := by have := hr.un; omega
    have hu64 : (A.deeper (envOfC "check_journal" (defScope s_check_journal) s.heap.objs.size f cdv)).units + 64 < cLine := by have := hr.un; omega
    have hu65 : (A.deeper (envOfC "check_journal" (defScope s_check_journal) s.heap.objs.size f cdv)).units + 65 < cLine := by have := hr.un; omega
    refine ⟨_, (pss_one (ps_if (pt_not (pt_val (pe_c g_is_journal hr (by decide) rfl (pa_cons (pv 0) (pa_cons (pv 1) pa_nil))))) (pss_one ps_dead) pss_nil)), ?_⟩
    refine body_okN h (by decide) fun ds M R hds hM hS => ?_
    obtain ⟨t, js, rfl, h2, hj, hP⟩ := hS
    obtain rfl := List.length_eq_zero_iff.mp hM
    show WS c 0 _ [some (dy t), some (dy (Tp.mk js))] [] _ _
    walk_at "zs"
    · exact ⟨trivial, hP⟩
    · exact hj
    · exact h2

theorem sc_is_version : FnScope ["table", "journal", "cell", "thing"] ["table", "journal", "cell", "thing"] (defScope s_is_version) := ⟨rfl, rfl, rfl, by decide +kernel, rfl, by decide +kernel, by decide +kernel⟩
theorem ok_is_version {f : Addr} {fd : FuncData} (F : Fun c.K "is_version" "is_version" s_is_version f fd) (T : Tb mg) (X : Tx c mg) (g_is_number_below : Cal P w c.K mg base 2 "is_number_below" (spOf c 2 0 sp_is_number_below) []) (g_is_integer : Cal P w c.K mg base 1 "is_integer" (spOf c 1 0 sp_is_integer) []) :
    FnOk P w c.K mg base CX0 3 f fd ["table", "journal", "cell", "thing"] (spOf c 4 0 sp_is_version) := by
  refine F.ok sc_is_version (fun vs H Q E h => ?_) (fun cdv A outer s H vs Q E hr h => ?_)
  · obtain ⟨as, F, ds, M, P, _, hn, _, rd, _⟩ := h
    rw [rd.length, hn]; rfl
  · have hu1 : (A.deeper (envOfC "is_version" (defScope s_is_version) s.heap.objs.size f cdv)).units + 1 < cLine := hu_of hr
    have hu8 : (A.deeper (envOfC "is_version" (defScope s_is_version) s.heap.objs.size f cdv)).units + 8 < cLine := by have := hr.un; omega
    have hu16 : (A.deeper (envOfC "is_version" (defScope s_is_version) s.heap.objs.size f cdv)).units + 16 < cLine := by have := hr.un; omega
    have hu64 : (A.deeper (envOfC "is_version" (defScope s_is_version) s.heap.objs.size f cdv)).units + 64 < cLine := by have := hr.un; omega
    have hu65 : (A.deeper (envOfC "is_version" (defScope s_is_version) s.heap.objs.size f cdv)).units + 65 < cLine := by have := hr.un; omega
    refine ⟨_, (pss_cons (ps_if (pt_val (pe_c g_is_number_below hr (by decide) rfl (pa_cons (pe_callB (r := Zq.rLen c.K) call_len_seq (by rfl) T.b_len (by decide +kernel) (pa_cons (pv 1) pa_nil)) (pa_cons (pv 3) pa_nil)))) (pss_one (ps_ret (pe_cmpR op_eq (pe_ix (r := rIxT c.K) ix_tup (pe_ix (r := rIxT c.K) ix_tup (pe_fld (pv 0) rfl) (pe_ix (r := rIxT c.K) ix_tup (pv 1) (pv 3) (fun _ _ => rfl)) (fun _ _ => rfl)) pe_int (fun _ _ => rfl)) (pv 2) (nomark _)))) pss_nil)
        (pss_one (ps_ret (pe_and (pe_c g_is_integer hr (by decide) rfl (pa_cons (pv 3) pa_nil)) (pe_one (pe_cmpR op_eq (pv 3) (pe_op op_sub (pe_un un_neg pe_int) (pv 2)) (nomark _))))))), ?_⟩
    refine body_ok h (by decide) fun ds M R hds hM hS => ?_
    obtain ⟨t, js, cell, x, rfl, hj, h0, hP⟩ := hS
    obtain rfl := List.length_eq_zero_iff.mp hM
    show WS c 0 _ [some (dy t), some (dy (Tp.mk js)), some (dy cell), some (dy x)] [] _ _
    cases hb : below ((js.length : Nat) : Int) x with
    | true =>
      walk_at "zs"
      obtain ⟨v, rfl, v0, v1⟩ := below_ex hb
      have hl : v.toNat < js.length := by omega
      have hjv : js[v.toNat]? = some js[v.toNat] := List.getElem?_eq_getElem hl
      have hm := List.mem_of_getElem? hjv
      have hw : (hist t.cells t.kinds.l js).wr[v.toNat]? = some (kat t.kinds.l js[v.toNat]).1 := by rw [wr_eq, List.getElem?_map, hjv]; rfl
      rw [th_int]
      refine rr_ixT (xs := Tp.mk js) v0 hjv ?_
      refine rr_ixT (hj.at_ _ hm).1 (hj.get hm) ?_
      walk_at "zs"
      rw [tf_iff (b := decide ((kat t.kinds.l js[v.toNat]).1 = cell))] at hP
      · exact hP
      · rw [decide_eq_true_eq]
        constructor
        · intro h; exact ⟨v, rfl, .inr ⟨v0, by rw [hw, h]⟩⟩
        · rintro ⟨u, hu, z | ⟨z, z2⟩⟩
          · injection hu with hu; omega
          · injection hu with hu
            subst hu
            rw [hw] at z2
            injection z2
    | false =>
      walk_at "zs"
      cases x with
      | int v =>
        rw [th_int]
        walk_at "zs"
        have nb : ¬ (0 ≤ v ∧ v < ((js.length : Nat) : Int)) := fun h => by
          have hb : (decide (0 ≤ v) && decide (v < ((js.length : Nat) : Int))) = false := hb
          rw [decide_eq_true h.1, decide_eq_true h.2] at hb; cases hb
        rw [tf_iff (b := decide (v = -1 - cell))] at hP
        · exact hP
        · rw [decide_eq_true_eq]
          constructor
          · intro h; exact ⟨v, rfl, .inl h⟩
          · rintro ⟨u, hu, z | ⟨z, z2⟩⟩
            · injection hu with hu; omega
            · injection hu with hu
              subst hu
              have := (List.getElem?_eq_some_iff.mp z2).1
              rw [wr_eq, List.length_map] at this
              exact absurd ⟨z, by omega⟩ nb
      | _ =>
        walk_at "zs"
        rw [tf_f (by rintro ⟨k, h, _⟩; cases h)] at hP
        exact hP

theorem sc_is_plates : FnScope ["table", "journal", "thing", "cell", "version"] ["table", "journal", "thing"] (defScope s_is_plates) := ⟨rfl, rfl, rfl, by decide +kernel, rfl, by decide +kernel, by decide +kernel⟩
theorem ok_is_plates {f : Addr} {fd : FuncData} (F : Fun c.K "is_plates" "is_plates" s_is_plates f fd) (T : Tb mg) (X : Tx c mg) (g_check_journal : Cal P w c.K mg base 4 "check_journal" (spOf c 2 0 sp_check_journal) []) (g_is_version : Cal P w c.K mg base 3 "is_version" (spOf c 4 0 sp_is_version) []) :
    FnOk P w c.K mg base CX0 5 f fd ["table", "journal", "thing"] (spOf c 3 0 sp_is_plates) := by
  refine F.ok sc_is_plates (fun vs H Q E h => ?_) (fun cdv A outer s H vs Q E hr h => ?_)
  · obtain ⟨as, F, ds, M, P, _, hn, _, rd, _⟩ := h
    rw [rd.length, hn]; rfl
  · have hu1 : (A.deeper (envOfC "is_plates" (defScope s_is_plates) s.heap.objs.size f cdv)).units + 1 < cLine := hu_of hr
    have hu8 : (A.deeper (envOfC "is_plates" (defScope s_is_plates) s.heap.objs.size f cdv)).units + 8 < cLine := by have := hr.un; omega
    have hu16 : (A.deeper (envOfC "is_plates" (defScope s_is_plates) s.heap.objs.size f cdv)).units + 16 < cLine := by have := hr.un; omega
    have hu64 : (A.deeper (envOfC "is_plates" (defScope s_is_plates) s.heap.objs.size f cdv)).units + 64 < cLine := by have := hr.un; omega
    have hu65 : (A.deeper (envOfC "is_plates" (defScope s_is_plates) s.heap.objs.size f cdv)).units + 65 < cLine := by have := hr.un; omega
    refine ⟨_, (pss_cons (ps_expr (pe_c g_check_journal hr (by decide) rfl (pa_cons (pv 0) (pa_cons (pv 1) pa_nil))))
        (pss_cons (ps_if (PW.pt (pw_or (pt_not (pt_val (pe_callB (r := rIsi c.K) call_isi (by rfl) T.b_isinstance (by decide +kernel) (pa_cons (pv 2) (pa_cons (pe_bltn (v := .ty "tuple") rfl T.b_tuple (by decide +kernel) rfl) pa_nil))))) (pw_or1 (pt_cmpR op_ne (pe_callB (r := Zq.rLen c.K) call_len_seq (by rfl) T.b_len (by decide +kernel) (pa_cons (pv 2) pa_nil)) (pe_fld (pv 0) rfl) (nomark _))))) (pss_one (ps_ret pe_bl)) pss_nil)
        (pss_cons (ps_for PassesOwn.never rfl (Zr.pi_enumT rfl T.b_enumerate (pa_cons (pv 2) pa_nil)) (pg_tup rfl (pgs_cons (pg_name (i := 3) sc_is_plates.nd rfl (Or.inl rfl)) (pgs_cons (pg_name (i := 4) sc_is_plates.nd rfl (Or.inl rfl)) pgs_nil))) (pss_one (ps_if (pt_not (pt_val (pe_c g_is_version hr (by decide) rfl (pa_cons (pv 0) (pa_cons (pv 1) (pa_cons (pv 3) (pa_cons (pv 4) pa_nil))))))) (pss_one (ps_ret pe_bl)) pss_nil)))
        (pss_one (ps_ret pe_bl))))), ?_⟩
    refine body_ok h (by decide) fun ds M R hds hM hS => ?_
    obtain ⟨t, js, x, rfl, hk, hj, hP⟩ := hS
    have n1 := hk.n1
    have k40 := hk.k40
    obtain rfl := List.length_eq_zero_iff.mp hM
    show WS c 0 _ [some (dy t), some (dy (Tp.mk js)), some (dy x), none, none] [] _ _
    cases x with
    | tup l =>
      rw [th_tup]
      walk_at "zs"
      · have bad : ¬ platP t.cells (hist t.cells t.kinds.l js).wr (.tup l) → R (dy false) [] := fun h => by rw [tf_f h] at hP; exact hP
        by_cases hn : ((l.length : Nat) : Int) = t.cells
        · have e1 : (!decide (((l.length : Nat) : Int) = t.cells)) = false := by rw [decide_eq_true hn]; rfl
          walk_at "zs"
          refine ws_for (S := Unit) (β := Int × Th) (ts := [3] ++ [4]) (fun pre _ => ∃ ps : List Int, pre.map (·.2) = ps.map Th.int ∧ ∀ (c : Nat) (v : Int), ps[c]? = some v → v = -1 - (c : Int) ∨ (0 ≤ v ∧ (hist t.cells t.kinds.l js).wr[v.toNat]? = some (c : Int))) (fun _ => [some (dy t), some (dy (Tp.mk js)), some (dy (Tp.mk l)), none, none]) (fun _ => []) ?_
          refine wi_enumT (α := Th) ?_
          walk_at "zs"
          refine ⟨⟨l⟩, rfl, nums l, rfl, (), ⟨[], rfl, by simp⟩, by walk_at "zcut", fun pre y post s e hJ => ?_, fun s hJ => ?_⟩
          · obtain ⟨h1, h2, h3, hm⟩ := nums_split e
            have hl := nums_cut e
            obtain ⟨k, x⟩ := y
            have hk1 : k = (pre.length : Int) := h1
            obtain ⟨ps, hx, ha⟩ := hJ
            have hlen : ps.length = pre.length := by have := congrArg List.length hx; rw [List.length_map, List.length_map] at this; exact this.symm
            walk_at "zs"
            · by_cases hv : verP (hist t.cells t.kinds.l js).wr k x
              · have e2 : (!tf (verP (hist t.cells t.kinds.l js).wr k x)) = false := by rw [tf_t hv]; rfl
                walk_at "zs"
                obtain ⟨v, rfl, hv⟩ := hv
                refine ⟨(), ⟨ps ++ [v], by rw [List.map_append, hx, List.map_append]; rfl, fun c u hu => ?_⟩, by walk_at "zcut"⟩
                by_cases hc : c < ps.length
                · rw [List.getElem?_append_left hc] at hu
                  exact ha c u hu
                · have hc2 := (List.getElem?_eq_some_iff.mp hu).1
                  rw [List.length_append, List.length_cons, List.length_nil] at hc2
                  have hce : c = ps.length := by omega
                  subst hce
                  rw [List.getElem?_append_right (Nat.le_refl _), Nat.sub_self] at hu
                  have hu : v = u := by simpa using hu
                  subst hu
                  rw [hk1, ← hlen] at hv
                  exact hv
              · have e2 : (!tf (verP (hist t.cells t.kinds.l js).wr k x)) = true := by rw [tf_f hv]; rfl
                walk_at "zs"
                refine bad ?_
                rintro ⟨qs, h, o⟩
                rw [to_tup] at h
                injection h with h
                rw [h, List.getElem?_map] at h3
                cases z : qs[pre.length]? with
                | none => rw [z] at h3; cases h3
                | some u =>
                  rw [z] at h3
                  have h3 : Th.int u = x := by simpa using h3
                  refine hv ⟨u, h3.symm, ?_⟩
                  rw [hk1]
                  exact o.at_ _ _ z
            · exact hj
            · show 0 ≤ k; omega
          · walk_at "zs"
            obtain ⟨ps, hx, ha⟩ := hJ
            rw [nums_snd] at hx
            subst hx
            rw [tf_t ⟨ps, rfl, ⟨by rw [List.length_map] at hn; omega, ha⟩⟩] at hP
            exact hP
        · have e1 : (!decide (((l.length : Nat) : Int) = t.cells)) = true := by rw [decide_eq_false hn]; rfl
          walk_at "zs"
          refine bad ?_
          rintro ⟨qs, h, o⟩
          rw [to_tup] at h
          injection h with h
          have := o.len
          rw [h, List.length_map] at hn
          omega
      · exact hj
      · omega
    | _ =>
      walk_at "zs"
      · rw [tf_f (by rintro ⟨k, h, _⟩; cases h)] at hP
        exact hP
      · exact hj
      · omega

end
end K01
end
section
set_option Elab.async false
set_option linter.all false
set_option maxRecDepth 100000
set_option maxHeartbeats 4000000
namespace K01
open PySem PySem.Spec PyProof.Rows L2 Zq K02
open C8 (Cal Mak pe_c pe_mk pe_gc)
open IsTh (to)
local macro_rules | `(tactic| walk_at "zq") => `(tactic| first
  | with_reducible refine ws_seq ?_
  | with_reducible refine ws_asg ?_
  | (with_reducible apply ws_asgG)
  | with_reducible refine ws_next ?_
  | with_reducible refine ws_ret ?_
  | with_reducible refine ws_if ?_
  | with_reducible refine ws_drop (te := tCall _ _ _ _) ?_
  | with_reducible refine wsx_seq ?_
  | with_reducible refine wsx_asg ?_
  | with_reducible refine wsx_if ?_
  | with_reducible refine wsx_ret ?_
  | with_reducible refine wsx_next ?_
  | with_reducible refine wsx_raise ?_
  | with_reducible refine as_dy ?_
  | ((with_reducible apply we_var); focus rfl)
  | with_reducible refine we_int ?_
  | with_reducible refine we_bl ?_
  | with_reducible refine we_non ?_
  | with_reducible refine we_ty ?_
  | with_reducible refine we_str ?_
  | with_reducible refine we_op2 ?_
  | with_reducible refine we_neg ?_
  | with_reducible refine we_andV ?_
  | with_reducible refine we_orV ?_
  | with_reducible refine we_notV ?_
  | with_reducible refine we_chain ?_
  | with_reducible refine we_cb ?_
  | with_reducible refine tup_pair ?_
  | with_reducible refine tup_three ?_
  | with_reducible refine tup_nil ?_
  | with_reducible refine we_call ?_
  | with_reducible refine we_callD ?_
  | with_reducible refine we_tup ?_
  | refine we_cells (Tx.cl (by assumption)) (Tx.nc (by assumption)) ?_
  | refine we_kinds (Tx.cl (by assumption)) (Tx.nk (by assumption)) ?_
  | with_reducible refine wt_test ?_
  | with_reducible refine wt_B ?_
  | with_reducible refine wt_not ?_
  | with_reducible refine wt_and ?_
  | with_reducible refine wt_or ?_
  | with_reducible refine wt_yes ?_
  | with_reducible refine wa_cons ?_
  | with_reducible refine wa_nil ?_
  | with_reducible refine rr_II ?_
  | with_reducible refine rr_isTrue ?_
  | with_reducible refine rr_notTrue ?_
  | with_reducible refine rr_isN0 ?_
  | with_reducible refine rr_notN0 ?_
  | with_reducible refine rr_isN ?_
  | with_reducible refine rr_notN ?_
  | with_reducible refine rr_neB ?_
  | with_reducible refine rr_isNo ?_
  | with_reducible refine rr_notNo ?_
  | with_reducible refine rr_IB ?_
  | with_reducible refine rr_eqI ?_
  | with_reducible refine rr_neI ?_
  | with_reducible refine rr_eqB ?_
  | with_reducible refine rr_ixP0 ?_
  | with_reducible refine rr_ixP1 ?_
  | with_reducible refine rr_ix30 ?_
  | with_reducible refine rr_ix31 ?_
  | with_reducible refine rr_ix32 ?_
  | with_reducible refine rr_leK ?_
  | with_reducible refine rr_ltK ?_
  | refine rr_eqD ?_
  | refine rr_neD ?_
  | with_reducible refine rr_inT ?_
  | with_reducible refine rr_ninT ?_
  | with_reducible refine rr_inL ?_
  | with_reducible refine rr_ninL ?_
  | with_reducible refine rc_isi kit_ii ?_
  | with_reducible refine rc_isi kit_ib ?_
  | with_reducible refine rc_isi kit_bb ?_
  | with_reducible refine rc_isi kit_tt ?_
  | refine rc_isInt (Tx.isi (by assumption)) ?_
  | refine rc_isBl (Tx.isi (by assumption)) ?_
  | refine rc_isTup (Tx.isi (by assumption)) ?_
  | refine rc_isStr (Tx.isi (by assumption)) ?_
  | with_reducible refine rc_lenL ?_
  | with_reducible refine rc_lenT ?_
  | with_reducible refine rc_lenP ?_
  | with_reducible refine rc_tupL ?_
  | refine rc_lenM rfl ?_
  | refine rc_tupM rfl ?_
  | ((with_reducible apply rr_inM); focus rfl)
  | ((with_reducible apply rr_ninM); focus rfl)
  | with_reducible apply wg_setM
  | refine ex_l rfl ?_
  | refine ex_d rfl ?_
  | with_reducible refine rc_int ?_
  | with_reducible refine rc_abs ?_
  | with_reducible refine rc_min2 ?_
  | with_reducible refine rc_all ?_
  | with_reducible refine rc_any ?_
  | with_reducible refine wg_name ?_
  | (apply wg_tup2)
  | (apply wg_tup3))
local macro_rules | `(tactic| walk_at "zqs") => `(tactic| repeat walk_at "zq")
local macro_rules | `(tactic| walk_at "zok1") => `(tactic| first
  | exact trivial
  | exact dy_ok _ _
  | exact cLst_ok _ _
  | exact cDic_ok _ _
  | exact hand_ok _
  | exact handX_ok
  | exact okM_nil
  | exact okE_nil
  | exact okDs_nil
  | refine okM_cons ?_ ?_
  | refine okDs_cons ?_ ?_
  | refine okE_none ?_
  | refine okE_cons ?_ ?_
  | exact mr_ok (Nat.le_of_ble_eq_true rfl)
  | exact Free.l _ _
  | exact Free.k _ _
  | exact Free.ok _ _
  | exact Frg.refl _
  | exact Frg.nil
  | refine Frg.same ?_
  | refine Frg.drop ?_)
local macro_rules | `(tactic| walk_at "zok") => `(tactic| repeat walk_at "zok1")
local macro_rules | `(tactic| walk_at "zcut") => `(tactic| exact Cut.mk (by walk_at "zok") (by walk_at "zok") (by walk_at "zok") rfl)
local macro_rules | `(tactic| walk_at "zb") => `(tactic| first
  | with_reducible refine bt_tt ?_
  | with_reducible refine bt_ff ?_
  | with_reducible refine bt_nt ?_
  | with_reducible refine bt_nf ?_
  | with_reducible refine bt_ft ?_
  | with_reducible refine bt_tf ?_
  | with_reducible refine bt_nt' ?_
  | with_reducible refine bt_nf' ?_
  | (with_reducible refine bt_t ?_ ?_
     focus (first | rfl | assumption))
  | (with_reducible refine bt_f ?_ ?_
     focus (first | rfl | assumption))
  | (with_reducible refine bt_t' ?_ ?_
     focus (first | rfl | assumption))
  | (with_reducible refine bt_f' ?_ ?_
     focus (first | rfl | assumption))
  | (refine ca5 ?_ ?_ ?_ ?_ ?_
     focus (first | rfl | decide)
     focus (first | exact Nat.zero_le _ | exact Nat.le_of_ble_eq_true rfl)
     focus (walk_at "zok"; done)
     focus (walk_at "zok"; done))
  | (refine ca3 ?_ ?_ ?_
     focus (walk_at "zok"; done)
     focus (walk_at "zok"; done)))

local macro_rules | `(tactic| walk_at "zu") => `(tactic| first
  | refine u_is_integer ?_
  | refine u_is_integer_th ?_
  | refine u_is_number_below ?_ ?_
  | refine u_is_number_below_th ?_
  | refine u_is_lot ?_
  | refine u_is_lot_of_cells ?_
  | refine u_is_kind ?_
  | refine u__law_is_int ?_ ?_ ?_
  | refine u__law_is_int_th ?_
  | refine u__law_flag ?_
  | refine u__law_history ?_ ?_ ?_
  | refine u__law_draw ?_ ?_ ?_
  | refine u__law_any ?_ ?_ ?_
  | refine u__law_any_th ?_ ?_ ?_
  | refine u__law_kinds ?_ ?_ ?_ ?_ ?_
  | refine u_is_journal ?_ ?_
  | refine u_is_journal_ty ?_ ?_ ?_
  | refine u_check_journal ?_ ?_ ?_
  | refine u_is_version ?_ ?_ ?_
  | refine u_is_plates ?_ ?_ ?_
  | refine u__law_is_lot ?_ ?_
  | refine u__law_is_kind ?_ ?_
  | refine u__law_due ?_ ?_
  | refine u_Table_initC ?_ ?_
  | refine u_Table_eq ?_ ?_
  | refine u__law_told ?_ ?_
  | refine u__law_deep ?_ ?_ ?_
  | refine u__law_odd ?_ ?_
  | refine u__law_table ?_ ?_ ?_
  | refine u__law_journal ?_ ?_ ?_ ?_ ?_
  | refine u__law_versions ?_ ?_ ?_ ?_ ?_
  | refine u__law_bent ?_ ?_ ?_ ?_ ?_ ?_
  | refine u__law_great_right ?_
  | refine u__law_journals_right ?_ ?_
  | refine u_law ?_ ?_)
local macro_rules | `(tactic| walk_at "zs1") => `(tactic| first
  | walk_at "zq"
  | walk_at "zu"
  | walk_at "zb")
local macro_rules | `(tactic| walk_at "zs") => `(tactic| repeat walk_at "zs1")
section
variable {P : Program} {w : World} {c : Cc} {mg : Str → Option Value} {base : Heap}
local macro_rules | `(tactic| walk_at "zh1") => `(tactic| first
  | refine rr_hand0 rfl ?_
  | refine rr_hand1 rfl ?_
  | refine rr_hand2 rfl ?_
  | refine rr_hand3 rfl ?_
  | refine rr_hand4 rfl ?_
  | with_reducible refine ws_asgG (wg_hand ?_)
  | with_reducible refine wg_hand ?_
  | with_reducible refine hh0 ?_
  | with_reducible refine hh1 ?_
  | with_reducible refine hh2 ?_
  | with_reducible refine hh3 ?_
  | with_reducible refine hh4 ?_
  | walk_at "zs1")
local macro_rules | `(tactic| walk_at "zh") => `(tactic| repeat walk_at "zh1")
theorem sc__law_draw : FnScope ["_law_hand_here", "_law_many", "_law_number", "_law_cell", "_law_digit"] ["_law_hand_here", "_law_many"] (defScope s__law_draw) := ⟨rfl, rfl, rfl, by decide +kernel, rfl, by decide +kernel, by decide +kernel⟩
theorem ok__law_draw {f : Addr} {fd : FuncData} (F : Fun c.K "_law_draw" "_law_draw" s__law_draw f fd) (T : Tb mg) (X : Tx c mg)  :
    FnOk P w c.K mg base CX0 1 f fd ["_law_hand_here", "_law_many"] (spOf c 2 1 sp__law_draw) := by
  refine F.ok sc__law_draw (fun vs H Q E h => ?_) (fun cdv A outer s H vs Q E hr h => ?_)
  · obtain ⟨as, F, ds, M, P, _, hn, _, rd, _⟩ := h
    rw [rd.length, hn]; rfl
  · have hu1 : (A.deeper (envOfC "_law_draw" (defScope s__law_draw) s.heap.objs.size f cdv)).units + 1 < cLine := hu_of hr
    have hu8 : (A.deeper (envOfC "_law_draw" (defScope s__law_draw) s.heap.objs.size f cdv)).units + 8 < cLine := by have := hr.un; omega
    have hu16 : (A.deeper (envOfC "_law_draw" (defScope s__law_draw) s.heap.objs.size f cdv)).units + 16 < cLine := by have := hr.un; omega
    have hu64 : (A.deeper (envOfC "_law_draw" (defScope s__law_draw) s.heap.objs.size f cdv)).units + 64 < cLine := by have := hr.un; omega
    have hu65 : (A.deeper (envOfC "_law_draw" (defScope s__law_draw) s.heap.objs.size f cdv)).units + 65 < cLine := by have := hr.un; omega
    refine ⟨_, (pss_cons (ps_if (PW.pt (pw_and (pt_cmpR op_eq (pe_ix (r := rIxL c.K) ix_list (pv 0) pe_int (fun _ _ => rfl)) pe_int (nomark _)) (pw_and1 (pt_cmpR op_lt (pe_ix (r := rIxL c.K) ix_list (pv 0) pe_int (fun _ _ => rfl)) (pe_callB (r := Zq.rLen c.K) call_len_seq (by rfl) T.b_len (by decide +kernel) (pa_cons (pe_ix (r := rIxL c.K) ix_list (pv 0) pe_int (fun _ _ => rfl)) pa_nil)) (nomark _))))) (pss_cons (ps_set (i := 3) sc__law_draw.nd rfl (Or.inl rfl) (pe_ix (r := rIxL c.K) ix_list (pe_ix (r := rIxL c.K) ix_list (pv 0) pe_int (fun _ _ => rfl)) (pe_ix (r := rIxL c.K) ix_list (pv 0) pe_int (fun _ _ => rfl)) (fun _ _ => rfl)))
        (pss_cons (ps_asg (pe_op op_add (pe_ix (r := rIxL c.K) ix_list (pv 0) pe_int (fun _ _ => rfl)) pe_int) (pg_sub (pv 0) pe_int set_list))
        (pss_cons (ps_asg (pe_op op_mod (pe_callTy (r := Zq.rInt1) call_int1 (by rfl) T.b_int (by decide +kernel) (pa_cons (pe_op op_add (pe_op op_add (pe_op op_mul (pe_ix (r := rIxL c.K) ix_list (pv 0) pe_int (fun _ _ => rfl)) pe_int) (pv 3)) pe_int) pa_nil)) pe_int) (pg_sub (pv 0) pe_int set_list))
        (pss_one (ps_if (pt_cmpR op_ge (pv 3) (pe_op op_pow pe_int pe_int) (nomark _)) (pss_one (ps_asg (pv 3) (pg_sub (pv 0) pe_int set_list))) pss_nil))))) pss_nil)
        (pss_cons (ps_if (pt_cmpR op_gt (pe_ix (r := rIxL c.K) ix_list (pv 0) pe_int (fun _ _ => rfl)) pe_int (nomark _)) (pss_cons (ps_set (i := 4) sc__law_draw.nd rfl (Or.inl rfl) (pe_op op_mod (pe_callTy (r := Zq.rInt1) call_int1 (by rfl) T.b_int (by decide +kernel) (pa_cons (pe_ix (r := rIxL c.K) ix_list (pv 0) pe_int (fun _ _ => rfl)) pa_nil)) (pv 1)))
        (pss_cons (ps_asg (pe_op op_fdiv (pe_ix (r := rIxL c.K) ix_list (pv 0) pe_int (fun _ _ => rfl)) (pv 1)) (pg_sub (pv 0) pe_int set_list))
        (pss_one (ps_ret (pv 4))))) pss_nil)
        (pss_cons (ps_asg (pe_op op_add (pe_ix (r := rIxL c.K) ix_list (pv 0) pe_int (fun _ _ => rfl)) pe_int) (pg_sub (pv 0) pe_int set_list))
        (pss_cons (ps_set (i := 2) sc__law_draw.nd rfl (Or.inl rfl) (pe_op op_mod (pe_callTy (r := Zq.rInt1) call_int1 (by rfl) T.b_int (by decide +kernel) (pa_cons (pe_op op_mul (pe_callTy (r := Zq.rInt1) call_int1 (by rfl) T.b_int (by decide +kernel) (pa_cons (pe_op op_add (pe_ix (r := rIxL c.K) ix_list (pv 0) pe_int (fun _ _ => rfl)) (pe_op op_mul pe_int (pe_ix (r := rIxL c.K) ix_list (pv 0) pe_int (fun _ _ => rfl)))) pa_nil)) pe_int) pa_nil)) pe_int))
        (pss_cons (ps_set (i := 2) sc__law_draw.nd rfl (Or.inl rfl) (pe_op op_mod (pe_callTy (r := Zq.rInt1) call_int1 (by rfl) T.b_int (by decide +kernel) (pa_cons (pe_op op_mul (pv 2) (pe_op op_add (pe_op op_fdiv (pv 2) pe_int) pe_int)) pa_nil)) pe_int))
        (pss_cons (ps_set (i := 2) sc__law_draw.nd rfl (Or.inl rfl) (pe_op op_mod (pe_callTy (r := Zq.rInt1) call_int1 (by rfl) T.b_int (by decide +kernel) (pa_cons (pe_op op_mul (pv 2) (pe_op op_add (pe_op op_fdiv (pv 2) pe_int) pe_int)) pa_nil)) pe_int))
        (pss_one (ps_ret (pe_op op_mod (pe_callTy (r := Zq.rInt1) call_int1 (by rfl) T.b_int (by decide +kernel) (pa_cons (pe_op op_fdiv (pv 2) pe_int) pa_nil)) (pv 1)))))))))), ?_⟩
    refine body_ok h (by decide) fun ds M R hds hM hS => ?_
    obtain ⟨many, rfl, rfl, h1, h2, hP⟩ := hS
    have hm0 : 0 < many := by omega
    have fin : ∀ x : Int, R (dy (x % many)) [cHand] := fun x => hP _ (Int.emod_nonneg _ (by omega)) (Int.emod_lt_of_pos _ hm0)
    show WS c 1 _ [some (dy (MR.mk 0)), some (dy many), none, none, none] [cHand] _ _
    refine ws_open fun cells a b s n h0 => ws_shut ?_
    let J : Env' → Mem → Prop := fun e m => ∃ (cells : List Int) (a b s n : Int), 0 ≤ a ∧ m = [cHandX cells a b s n] ∧ Frg e [some (dy (MR.mk 0)), some (dy many), none, none, none]
    refine ws_seqJ J ?_ fun e m hJ => ?_
    · walk_at "zh"
      refine ⟨fun q => ?_, fun q => ?_⟩
      · walk_at "zh"
        refine ⟨fun q2 => ?_, fun q2 => ?_⟩
        · walk_at "zh"
          have q3 : a < (cells.length : Int) := of_decide_eq_true q2
          refine rr_ixL (xs := cells) h0 (getD_get (xs := cells) (by omega)) ?_
          generalize cells.getD a.toNat 0 = cell
          walk_at "zh"
          refine rr_mulR ?_ ⟨by decide, by decide⟩
          walk_at "zh"
          refine rr_mod ?_ (by decide)
          walk_at "zh"
          refine rr_pow ?_ ⟨by decide, by decide, by decide⟩
          walk_at "zh"
          refine ⟨fun q4 => ?_, fun q4 => ?_⟩
          · walk_at "zh"
            exact ⟨cells, _, _, _, _, by omega, rfl, by walk_at "zok"⟩
          · walk_at "zh"
            exact ⟨cells, _, _, _, _, by omega, rfl, by walk_at "zok"⟩
        · walk_at "zh"
          exact ⟨cells, a, b, s, n, h0, rfl, by walk_at "zok"⟩
      · walk_at "zh"
        exact ⟨cells, a, b, s, n, h0, rfl, by walk_at "zok"⟩
    · obtain ⟨cells, a, b, s, n, h0, rfl, hf⟩ := hJ
      refine ws_frg hf ?_
      refine ws_seqJ J ?_ fun e m hJ => ?_
      · walk_at "zh"
        refine ⟨fun q => ?_, fun q => ?_⟩
        · walk_at "zh"
          refine rr_mod ?_ hm0
          walk_at "zh"
          refine rr_div ?_ ⟨hm0, by omega⟩
          walk_at "zh"
          exact ⟨cells, _, _, _, _, h0, rfl, fin _⟩
        · walk_at "zh"
          exact ⟨cells, a, b, s, n, h0, rfl, by walk_at "zok"⟩
      · obtain ⟨cells, a, b, s, n, h0, rfl, hf⟩ := hJ
        refine ws_frg hf ?_
        walk_at "zh"
        refine rr_mulL ?_ ⟨by decide, by decide⟩
        walk_at "zh"
        refine rr_mulR ?_ ⟨by decide, by decide⟩
        walk_at "zh"
        refine rr_mod ?_ (by decide)
        have e1 := Int.emod_nonneg ((s + 7919 * (n + 1)) * 48271) (show (2147483647 : Int) ≠ 0 by decide)
        have e2 := Int.emod_lt_of_pos ((s + 7919 * (n + 1)) * 48271) (show (0 : Int) < 2147483647 by decide)
        generalize (s + 7919 * (n + 1)) * 48271 % 2147483647 = x1 at *
        walk_at "zh"
        refine rr_div ?_ ⟨by decide, by decide⟩
        walk_at "zh"
        refine rr_mulL ?_ ⟨by omega, by omega⟩
        walk_at "zh"
        refine rr_mod ?_ (by decide)
        have e3 := Int.emod_nonneg (x1 * (x1 / 1009 + 69621)) (show (2147483647 : Int) ≠ 0 by decide)
        have e4 := Int.emod_lt_of_pos (x1 * (x1 / 1009 + 69621)) (show (0 : Int) < 2147483647 by decide)
        generalize x1 * (x1 / 1009 + 69621) % 2147483647 = x2 at *
        walk_at "zh"
        refine rr_div ?_ ⟨by decide, by decide⟩
        walk_at "zh"
        refine rr_mulL ?_ ⟨by omega, by omega⟩
        walk_at "zh"
        refine rr_mod ?_ (by decide)
        generalize x2 * (x2 / 2003 + 40692) % 2147483399 = x3 at *
        walk_at "zh"
        refine rr_div ?_ ⟨by decide, by decide⟩
        walk_at "zh"
        refine rr_mod ?_ hm0
        walk_at "zh"
        exact ⟨cells, _, _, _, _, h0, rfl, fin _⟩

theorem sc__law_any : FnScope ["_law_hand_here", "_law_some"] ["_law_hand_here", "_law_some"] (defScope s__law_any) := ⟨rfl, rfl, rfl, by decide +kernel, rfl, by decide +kernel, by decide +kernel⟩
theorem ok__law_any {f : Addr} {fd : FuncData} (F : Fun c.K "_law_any" "_law_any" s__law_any f fd) (T : Tb mg) (X : Tx c mg) (g__law_draw : Cal P w c.K mg base 1 "_law_draw" (spOf c 2 1 sp__law_draw) []) :
    FnOk P w c.K mg base CX0 2 f fd ["_law_hand_here", "_law_some"] (spOf c 2 1 sp__law_any) := by
  refine F.ok sc__law_any (fun vs H Q E h => ?_) (fun cdv A outer s H vs Q E hr h => ?_)
  · obtain ⟨as, F, ds, M, P, _, hn, _, rd, _⟩ := h
    rw [rd.length, hn]; rfl
  · have hu1 : (A.deeper (envOfC "_law_any" (defScope s__law_any) s.heap.objs.size f cdv)).units + 1 < cLine := hu_of hr
    have hu8 : (A.deeper (envOfC "_law_any" (defScope s__law_any) s.heap.objs.size f cdv)).units + 8 < cLine := by have := hr.un; omega
    have hu16 : (A.deeper (envOfC "_law_any" (defScope s__law_any) s.heap.objs.size f cdv)).units + 16 < cLine := by have := hr.un; omega
    have hu64 : (A.deeper (envOfC "_law_any" (defScope s__law_any) s.heap.objs.size f cdv)).units + 64 < cLine := by have := hr.un; omega
    have hu65 : (A.deeper (envOfC "_law_any" (defScope s__law_any) s.heap.objs.size f cdv)).units + 65 < cLine := by have := hr.un; omega
    refine ⟨_, (pss_one (ps_ret (pe_ix (r := rIxL c.K) ix_list (pv 1) (pe_c g__law_draw hr (by decide) rfl (pa_cons (pv 0) (pa_cons (pe_callB (r := Zq.rLen c.K) call_len_seq (by rfl) T.b_len (by decide +kernel) (pa_cons (pv 1) pa_nil)) pa_nil))) (fun _ _ => rfl)))), ?_⟩
    refine body_ok h (by decide) fun ds M R hds hM hS => ?_
    obtain ⟨xs, rfl, rfl, h1, h2, hP⟩ := hS
    have hl : 0 < xs.length := List.length_pos_iff.mpr h1
    show WS c 1 _ [some (dy (MR.mk 0)), some (dy xs)] [cHand] _ _
    walk_at "zs"
    · intro r r0 r1
      refine rr_ixL r0 (List.getElem?_eq_getElem (by omega : r.toNat < xs.length)) ?_
      walk_at "zs"
      exact hP _ (List.getElem_mem _)
    · omega
    · omega

theorem sc__law_kinds : FnScope ["_law_hand_here", "_law_cells", "_law_most", "_law_reads", "_law_found", "_law_turn", "_law_some", "_law_kind", "_law_one"] ["_law_hand_here", "_law_cells", "_law_most", "_law_reads"] (defScope s__law_kinds) := ⟨rfl, rfl, rfl, by decide +kernel, rfl, by decide +kernel, by decide +kernel⟩
theorem ok__law_kinds {f : Addr} {fd : FuncData} (F : Fun c.K "_law_kinds" "_law_kinds" s__law_kinds f fd) (T : Tb mg) (X : Tx c mg) (g__law_draw : Cal P w c.K mg base 1 "_law_draw" (spOf c 2 1 sp__law_draw) []) :
    FnOk P w c.K mg base CX0 2 f fd ["_law_hand_here", "_law_cells", "_law_most", "_law_reads"] (spOf c 4 1 sp__law_kinds) := by
  refine F.ok sc__law_kinds (fun vs H Q E h => ?_) (fun cdv A outer s H vs Q E hr h => ?_)
  · obtain ⟨as, F, ds, M, P, _, hn, _, rd, _⟩ := h
    rw [rd.length, hn]; rfl
  · have hu1 : (A.deeper (envOfC "_law_kinds" (defScope s__law_kinds) s.heap.objs.size f cdv)).units + 1 < cLine := hu_of hr
    have hu8 : (A.deeper (envOfC "_law_kinds" (defScope s__law_kinds) s.heap.objs.size f cdv)).units + 8 < cLine := by have := hr.un; omega
    have hu16 : (A.deeper (envOfC "_law_kinds" (defScope s__law_kinds) s.heap.objs.size f cdv)).units + 16 < cLine := by have := hr.un; omega
    have hu64 : (A.deeper (envOfC "_law_kinds" (defScope s__law_kinds) s.heap.objs.size f cdv)).units + 64 < cLine := by have := hr.un; omega
    have hu65 : (A.deeper (envOfC "_law_kinds" (defScope s__law_kinds) s.heap.objs.size f cdv)).units + 65 < cLine := by have := hr.un; omega
    refine ⟨_, (pss_cons (ps_set (i := 4) sc__law_kinds.nd rfl (Or.inl rfl) (pe_lst pa_nil))
        (pss_cons (ps_for PassesOwn.never rfl (pi_range1 rfl T.b_range (pa_cons (pe_op op_add pe_int (pe_c g__law_draw hr (by decide) rfl (pa_cons (pv 0) (pa_cons (pv 2) pa_nil)))) pa_nil)) (pg_name (i := 5) sc__law_kinds.nd rfl (Or.inl rfl)) (pss_cons (ps_setLc (i := 6) (own := [("_law_one", 8)]) (g := (gName 8)) rfl sc__law_kinds.nd rfl rfl (sw_true rfl rfl rfl (by decide +kernel)) (pi_range1 rfl T.b_range (pa_cons (pe_c g__law_draw hr (by decide) rfl (pa_cons (pv 0) (pa_cons (pe_op op_add (pv 3) pe_int) pa_nil))) pa_nil)) (blkOk_by (N := ["_law_hand_here", "_law_cells", "_law_most", "_law_reads", "_law_found", "_law_turn", "_law_some", "_law_kind", "_law_one"]) (sc := defScope s__law_kinds) (by decide +kernel)) (fun _ _ _ _ _ => (pg_name (i := 8) sc__law_kinds.nd rfl (Or.inl rfl))) (fun _ _ _ _ _ => pts_nil) (fun _ _ _ _ _ => (pe_c g__law_draw hr (by decide) rfl (pa_cons (pv 0) (pa_cons (pv 1) pa_nil)))))
        (pss_cons (ps_set (i := 7) sc__law_kinds.nd rfl (Or.inl rfl) (pe_tup (pa_cons (pe_c g__law_draw hr (by decide) rfl (pa_cons (pv 0) (pa_cons (pv 1) pa_nil))) (pa_cons (pe_callTy (r := Zq.rTup c.K) call_tuple_of (by rfl) T.b_tuple (by decide +kernel) (pa_cons (pe_callB (r := rSortedSet w) (cr_sortedSet rfl) (by rfl) T.b_sorted (by decide +kernel) (pa_cons (pe_callTy (r := Zr.rSetI c.K w) (Zr.cr_setI rfl) (by rfl) T.b_set (by decide +kernel) (pa_cons (pv 6) pa_nil)) pa_nil)) pa_nil)) pa_nil))))
        (pss_one (ps_if (pt_cmpR (r := rNotInD c.K) (op_notInD hu65) (pv 7) (pv 4) (by first | rfl | decide)) (pss_one (ps_expr (pe_bm PySem.F.plainAttrs_list PySem.F.slot_list_append PySem.F.type_list_append mt_append (pv 4) (pa_cons (pv 7) pa_nil)))) pss_nil)))))
        (pss_one (ps_ret (pe_callTy (r := Zq.rTup c.K) call_tuple_of (by rfl) T.b_tuple (by decide +kernel) (pa_cons (pe_callB (r := Zr.rSortK c.K) (Zr.cr_sortK hu16) (by rfl) T.b_sorted (by decide +kernel) (pa_cons (pv 4) pa_nil)) pa_nil)))))), ?_⟩
    refine body_ok h (by decide) fun ds M R hds hM hS => ?_
    obtain ⟨n, most, rfl, rfl, h1, h2, h3, h4, hP⟩ := hS
    show WS c 1 _ [some (dy (MR.mk 0)), some (dy n), some (dy most), some (dy (3 : Int)), none, none, none, none, none] [cHand] _ _
    walk_at "zs"
    refine we_lstC (α := Zq.Kind) ?_
    walk_at "zs"
    refine ⟨[], rfl, Nat.zero_le _, ?_⟩
    walk_at "zs"
    refine ws_for (β := Int) (S := List Zq.Kind) (ts := [5]) (fun pre s => s.Nodup ∧ s.length ≤ pre.length ∧ (pre ≠ [] → s ≠ []) ∧ ∀ k, k ∈ s → KOk n k) (fun _ => [some (dy (MR.mk 0)), some (dy n), some (dy most), some (dy (3 : Int)), some (dy (MR.mk 1)), none, none, none, none]) (fun s => [cHand, cLst s]) ?_
    refine wi_range ?_
    walk_at "zs"
    · intro r r0 r1
      walk_at "zs"
      refine ⟨1 + r, rfl, by omega, by omega, upto (1 + r).toNat, rfl, [], ⟨.nil, Nat.le_refl _, fun z => absurd rfl z, fun k z => by simp at z⟩, by walk_at "zcut", fun pre y post s e hJ => ?_, fun s hJ => ?_⟩
      · have el := congrArg List.length e
        rw [upto_len, List.length_append, List.length_cons] at el
        walk_at "zs"
        refine we_lcR (β := Int) (γ := Int) [8] (fun _ z => 0 ≤ z ∧ z < n) (fun t ht => ht) (by walk_at "zok") ?_
        refine wi_range ?_
        walk_at "zs"
        · intro q q0 q1
          walk_at "zs"
          refine ⟨q, rfl, by omega, by omega, rfl, upto q.toNat, rfl, by rw [upto_len]; omega, fun y' hy' acc => ?_, fun so hso => ?_⟩
          · walk_at "zs"
            refine ⟨rfl, ?_⟩
            walk_at "zs"
            · intro z z0 z1
              exact ⟨z, rfl, rfl, z0, z1⟩
            · omega
            · omega
          have sl := paired_len hso
          rw [upto_len] at sl
          have sb : ∀ v, v ∈ so → 0 ≤ v ∧ v < n := fun v hv => paired_r (G := fun z => 0 ≤ z ∧ z < n) hso hv
          walk_at "zs"
          · intro kc kc0 kc1
            walk_at "zs"
            refine rc_set (Nat.lt_of_le_of_lt (by omega : so.length + 1 ≤ 10) (by decide)) fun cn hcn => ?_
            walk_at "zs"
            refine rc_sortS rfl (by show cn < 64; omega) fun zs z1 z2 z3 => ?_
            walk_at "zs"
            refine rr_ninDM rfl ?_
            walk_at "zs"
            have kok : KOk n (kc, Tp.mk zs) := ⟨kc0, kc1, z1, fun v hv => sb v ((z2 v).mp hv), by show zs.length ≤ 3; have : zs.length = cn := z3; omega⟩
            refine ⟨fun t => ?_, fun t => ?_⟩
            · refine ws_app (α := Zq.Kind) ?_
              walk_at "zs"
              have hn : (kc, Tp.mk zs) ∉ s := by simpa using t
              refine ⟨by have := hJ.2.1; show s.length < _; omega, s ++ [(kc, Tp.mk zs)], ⟨?_, ?_, fun _ => by simp, fun k hk => ?_⟩, by walk_at "zcut"⟩
              · rw [List.nodup_append]
                refine ⟨hJ.1, by simp, fun a ha b hb => ?_⟩
                have : b = (kc, Tp.mk zs) := by simpa using hb
                subst this
                intro e; subst e; exact hn ha
              · have := hJ.2.1
                simp only [List.length_append, List.length_cons, List.length_nil]; omega
              · rcases List.mem_append.mp hk with z | z
                · exact hJ.2.2.2 k z
                · have : k = (kc, Tp.mk zs) := by simpa using z
                  rw [this]; exact kok
            · walk_at "zs"
              have hn : (kc, Tp.mk zs) ∈ s := by simpa using t
              refine ⟨s, ⟨hJ.1, ?_, fun _ z => by rw [z] at hn; simp at hn, hJ.2.2.2⟩, by walk_at "zcut"⟩
              have := hJ.2.1
              simp only [List.length_append, List.length_cons, List.length_nil]; omega
          · omega
          · omega
        · omega
        · omega
      · walk_at "zs"
        refine rc_sortKM rfl fun zs hz => ?_
        walk_at "zs"
        have ul : (upto (1 + r).toNat).length = (1 + r).toNat := upto_len _
        have sl := hz.perm.length_eq
        have s0 : s ≠ [] := hJ.2.2.1 (by intro z; rw [z] at ul; simp at ul; omega)
        have s1 := List.length_pos_iff.mpr s0
        have s2 := hJ.2.1
        exact hP zs ⟨h1, h2, fun k hk => hJ.2.2.2 k (hz.perm.mem_iff.mp hk), by omega, by omega, ksort_lt hz.asc (hz.perm.nodup_iff.mpr hJ.1)⟩
    · exact h3
    · omega

end
end K01
end
section
set_option Elab.async false
set_option linter.all false
set_option maxRecDepth 100000
set_option maxHeartbeats 4000000
namespace K01
open PySem PySem.Spec PyProof.Rows L2 Zq K02
open C8 (Cal Mak pe_c pe_mk pe_gc)
open IsTh (to)
local macro_rules | `(tactic| walk_at "zq") => `(tactic| first
  | with_reducible refine ws_seq ?_
  | with_reducible refine ws_asg ?_
  | (with_reducible apply ws_asgG)
  | with_reducible refine ws_next ?_
  | with_reducible refine ws_ret ?_
  | with_reducible refine ws_if ?_
  | with_reducible refine ws_drop (te := tCall _ _ _ _) ?_
  | with_reducible refine wsx_seq ?_
  | with_reducible refine wsx_asg ?_
  | with_reducible refine wsx_if ?_
  | with_reducible refine wsx_ret ?_
  | with_reducible refine wsx_next ?_
  | with_reducible refine wsx_raise ?_
  | with_reducible refine as_dy ?_
  | ((with_reducible apply we_var); focus rfl)
  | with_reducible refine we_int ?_
  | with_reducible refine we_bl ?_
  | with_reducible refine we_non ?_
  | with_reducible refine we_ty ?_
  | with_reducible refine we_str ?_
  | with_reducible refine we_op2 ?_
  | with_reducible refine we_neg ?_
  | with_reducible refine we_andV ?_
  | with_reducible refine we_orV ?_
  | with_reducible refine we_notV ?_
  | with_reducible refine we_chain ?_
  | with_reducible refine we_cb ?_
  | with_reducible refine tup_pair ?_
  | with_reducible refine tup_three ?_
  | with_reducible refine tup_nil ?_
  | with_reducible refine we_call ?_
  | with_reducible refine we_callD ?_
  | with_reducible refine we_tup ?_
  | refine we_cells (Tx.cl (by assumption)) (Tx.nc (by assumption)) ?_
  | refine we_kinds (Tx.cl (by assumption)) (Tx.nk (by assumption)) ?_
  | with_reducible refine wt_test ?_
  | with_reducible refine wt_B ?_
  | with_reducible refine wt_not ?_
  | with_reducible refine wt_and ?_
  | with_reducible refine wt_or ?_
  | with_reducible refine wt_yes ?_
  | with_reducible refine wa_cons ?_
  | with_reducible refine wa_nil ?_
  | with_reducible refine rr_II ?_
  | with_reducible refine rr_isTrue ?_
  | with_reducible refine rr_notTrue ?_
  | with_reducible refine rr_isN0 ?_
  | with_reducible refine rr_notN0 ?_
  | with_reducible refine rr_isN ?_
  | with_reducible refine rr_notN ?_
  | with_reducible refine rr_neB ?_
  | with_reducible refine rr_isNo ?_
  | with_reducible refine rr_notNo ?_
  | with_reducible refine rr_IB ?_
  | with_reducible refine rr_eqI ?_
  | with_reducible refine rr_neI ?_
  | with_reducible refine rr_eqB ?_
  | with_reducible refine rr_ixP0 ?_
  | with_reducible refine rr_ixP1 ?_
  | with_reducible refine rr_ix30 ?_
  | with_reducible refine rr_ix31 ?_
  | with_reducible refine rr_ix32 ?_
  | with_reducible refine rr_leK ?_
  | with_reducible refine rr_ltK ?_
  | refine rr_eqD ?_
  | refine rr_neD ?_
  | with_reducible refine rr_inT ?_
  | with_reducible refine rr_ninT ?_
  | with_reducible refine rr_inL ?_
  | with_reducible refine rr_ninL ?_
  | with_reducible refine rc_isi kit_ii ?_
  | with_reducible refine rc_isi kit_ib ?_
  | with_reducible refine rc_isi kit_bb ?_
  | with_reducible refine rc_isi kit_tt ?_
  | refine rc_isInt (Tx.isi (by assumption)) ?_
  | refine rc_isBl (Tx.isi (by assumption)) ?_
  | refine rc_isTup (Tx.isi (by assumption)) ?_
  | refine rc_isStr (Tx.isi (by assumption)) ?_
  | with_reducible refine rc_lenL ?_
  | with_reducible refine rc_lenT ?_
  | with_reducible refine rc_lenP ?_
  | with_reducible refine rc_tupL ?_
  | refine rc_lenM rfl ?_
  | refine rc_tupM rfl ?_
  | ((with_reducible apply rr_inM); focus rfl)
  | ((with_reducible apply rr_ninM); focus rfl)
  | with_reducible apply wg_setM
  | refine ex_l rfl ?_
  | refine ex_d rfl ?_
  | with_reducible refine rc_int ?_
  | with_reducible refine rc_abs ?_
  | with_reducible refine rc_min2 ?_
  | with_reducible refine rc_all ?_
  | with_reducible refine rc_any ?_
  | with_reducible refine wg_name ?_
  | (apply wg_tup2)
  | (apply wg_tup3))
local macro_rules | `(tactic| walk_at "zqs") => `(tactic| repeat walk_at "zq")
local macro_rules | `(tactic| walk_at "zok1") => `(tactic| first
  | exact trivial
  | exact dy_ok _ _
  | exact cLst_ok _ _
  | exact cDic_ok _ _
  | exact hand_ok _
  | exact handX_ok
  | exact okM_nil
  | exact okE_nil
  | exact okDs_nil
  | refine okM_cons ?_ ?_
  | refine okDs_cons ?_ ?_
  | refine okE_none ?_
  | refine okE_cons ?_ ?_
  | exact mr_ok (Nat.le_of_ble_eq_true rfl)
  | exact Free.l _ _
  | exact Free.k _ _
  | exact Free.ok _ _
  | exact Frg.refl _
  | exact Frg.nil
  | refine Frg.same ?_
  | refine Frg.drop ?_)
local macro_rules | `(tactic| walk_at "zok") => `(tactic| repeat walk_at "zok1")
local macro_rules | `(tactic| walk_at "zcut") => `(tactic| exact Cut.mk (by walk_at "zok") (by walk_at "zok") (by walk_at "zok") rfl)
local macro_rules | `(tactic| walk_at "zb") => `(tactic| first
  | with_reducible refine bt_tt ?_
  | with_reducible refine bt_ff ?_
  | with_reducible refine bt_nt ?_
  | with_reducible refine bt_nf ?_
  | with_reducible refine bt_ft ?_
  | with_reducible refine bt_tf ?_
  | with_reducible refine bt_nt' ?_
  | with_reducible refine bt_nf' ?_
  | (with_reducible refine bt_t ?_ ?_
     focus (first | rfl | assumption))
  | (with_reducible refine bt_f ?_ ?_
     focus (first | rfl | assumption))
  | (with_reducible refine bt_t' ?_ ?_
     focus (first | rfl | assumption))
  | (with_reducible refine bt_f' ?_ ?_
     focus (first | rfl | assumption))
  | (refine ca5 ?_ ?_ ?_ ?_ ?_
     focus (first | rfl | decide)
     focus (first | exact Nat.zero_le _ | exact Nat.le_of_ble_eq_true rfl)
     focus (walk_at "zok"; done)
     focus (walk_at "zok"; done))
  | (refine ca3 ?_ ?_ ?_
     focus (walk_at "zok"; done)
     focus (walk_at "zok"; done)))

local macro_rules | `(tactic| walk_at "zu") => `(tactic| first
  | refine u_is_integer ?_
  | refine u_is_integer_th ?_
  | refine u_is_number_below ?_ ?_
  | refine u_is_number_below_th ?_
  | refine u_is_lot ?_
  | refine u_is_lot_of_cells ?_
  | refine u_is_kind ?_
  | refine u__law_is_int ?_ ?_ ?_
  | refine u__law_is_int_th ?_
  | refine u__law_flag ?_
  | refine u__law_history ?_ ?_ ?_
  | refine u__law_draw ?_ ?_ ?_
  | refine u__law_any ?_ ?_ ?_
  | refine u__law_any_th ?_ ?_ ?_
  | refine u__law_kinds ?_ ?_ ?_ ?_ ?_
  | refine u_is_journal ?_ ?_
  | refine u_is_journal_ty ?_ ?_ ?_
  | refine u_check_journal ?_ ?_ ?_
  | refine u_is_version ?_ ?_ ?_
  | refine u_is_plates ?_ ?_ ?_
  | refine u__law_is_lot ?_ ?_
  | refine u__law_is_kind ?_ ?_
  | refine u__law_due ?_ ?_
  | refine u_Table_initC ?_ ?_
  | refine u_Table_eq ?_ ?_
  | refine u__law_told ?_ ?_
  | refine u__law_deep ?_ ?_ ?_
  | refine u__law_odd ?_ ?_
  | refine u__law_table ?_ ?_ ?_
  | refine u__law_journal ?_ ?_ ?_ ?_ ?_
  | refine u__law_versions ?_ ?_ ?_ ?_ ?_
  | refine u__law_bent ?_ ?_ ?_ ?_ ?_ ?_
  | refine u__law_great_right ?_
  | refine u__law_journals_right ?_ ?_
  | refine u_law ?_ ?_)
local macro_rules | `(tactic| walk_at "zs1") => `(tactic| first
  | walk_at "zq"
  | walk_at "zu"
  | walk_at "zb")
local macro_rules | `(tactic| walk_at "zs") => `(tactic| repeat walk_at "zs1")
section
variable {P : Program} {w : World} {c : Cc} {mg : Str → Option Value} {base : Heap}
theorem sc__law_is_int : FnScope ["_law_thing", "_law_least", "_law_most"] ["_law_thing", "_law_least", "_law_most"] (defScope s__law_is_int) := ⟨rfl, rfl, rfl, by decide +kernel, rfl, by decide +kernel, by decide +kernel⟩
theorem ok__law_is_int {f : Addr} {fd : FuncData} (F : Fun c.K "_law_is_int" "_law_is_int" s__law_is_int f fd) (T : Tb mg) (X : Tx c mg)  :
    FnOk P w c.K mg base CX0 1 f fd ["_law_thing", "_law_least", "_law_most"] (spOf c 3 0 sp__law_is_int) := by
  refine F.ok sc__law_is_int (fun vs H Q E h => ?_) (fun cdv A outer s H vs Q E hr h => ?_)
  · obtain ⟨as, F, ds, M, P, _, hn, _, rd, _⟩ := h
    rw [rd.length, hn]; rfl
  · have hu1 : (A.deeper (envOfC "_law_is_int" (defScope s__law_is_int) s.heap.objs.size f cdv)).units + 1 < cLine := hu_of hr
    have hu8 : (A.deeper (envOfC "_law_is_int" (defScope s__law_is_int) s.heap.objs.size f cdv)).units + 8 < cLine := by have := hr.un; omega
    have hu16 : (A.deeper (envOfC "_law_is_int" (defScope s__law_is_int) s.heap.objs.size f cdv)).units + 16 < cLine := by have := hr.un; omega
    have hu64 : (A.deeper (envOfC "_law_is_int" (defScope s__law_is_int) s.heap.objs.size f cdv)).units + 64 < cLine := by have := hr.un; omega
    have hu65 : (A.deeper (envOfC "_law_is_int" (defScope s__law_is_int) s.heap.objs.size f cdv)).units + 65 < cLine := by have := hr.un; omega
    refine ⟨_, (pss_one (ps_ret (pe_and (pe_callB (r := rIsi c.K) call_isi (by rfl) T.b_isinstance (by decide +kernel) (pa_cons (pv 0) (pa_cons (pe_bltn (v := .ty "int") rfl T.b_int (by decide +kernel) rfl) pa_nil))) (pe_and (pe_not (pe_callB (r := rIsi c.K) call_isi (by rfl) T.b_isinstance (by decide +kernel) (pa_cons (pv 0) (pa_cons (pe_bltn (v := .ty "bool") rfl T.b_bool (by decide +kernel) rfl) pa_nil)))) (pe_one (pe_chain op_le op_le (pv 1) (pv 0) (pv 2))))))), ?_⟩
    refine body_ok h (by decide) fun ds M R hds hM hS => ?_
    obtain ⟨x, a, b, rfl, hP⟩ := hS
    obtain rfl := List.length_eq_zero_iff.mp hM
    show WS c 0 _ [some (dy x), some (dy a), some (dy b)] [] _ _
    cases x with
    | int i =>
      rw [th_int]
      walk_at "zs"
      have hP' : R (dy (decide (a ≤ i) && decide (i ≤ b))) [] := hP
      refine ⟨fun h => ?_, fun h => ?_⟩
      · walk_at "zs"
        rw [h] at hP'
        exact hP'
      · walk_at "zs"
        rw [h] at hP'
        exact hP'
    | _ =>
      walk_at "zs"
      exact hP

theorem sc__law_flag : FnScope ["_law_told_here", "_law_due_here"] ["_law_told_here", "_law_due_here"] (defScope s__law_flag) := ⟨rfl, rfl, rfl, by decide +kernel, rfl, by decide +kernel, by decide +kernel⟩
theorem ok__law_flag {f : Addr} {fd : FuncData} (F : Fun c.K "_law_flag" "_law_flag" s__law_flag f fd) (T : Tb mg) (X : Tx c mg)  :
    FnOk P w c.K mg base CX0 1 f fd ["_law_told_here", "_law_due_here"] (spOf c 2 0 sp__law_flag) := by
  refine F.ok sc__law_flag (fun vs H Q E h => ?_) (fun cdv A outer s H vs Q E hr h => ?_)
  · obtain ⟨as, F, ds, M, P, _, hn, _, rd, _⟩ := h
    rw [rd.length, hn]; rfl
  · have hu1 : (A.deeper (envOfC "_law_flag" (defScope s__law_flag) s.heap.objs.size f cdv)).units + 1 < cLine := hu_of hr
    have hu8 : (A.deeper (envOfC "_law_flag" (defScope s__law_flag) s.heap.objs.size f cdv)).units + 8 < cLine := by have := hr.un; omega
    have hu16 : (A.deeper (envOfC "_law_flag" (defScope s__law_flag) s.heap.objs.size f cdv)).units + 16 < cLine := by have := hr.un; omega
    have hu64 : (A.deeper (envOfC "_law_flag" (defScope s__law_flag) s.heap.objs.size f cdv)).units + 64 < cLine := by have := hr.un; omega
    have hu65 : (A.deeper (envOfC "_law_flag" (defScope s__law_flag) s.heap.objs.size f cdv)).units + 65 < cLine := by have := hr.un; omega
    refine ⟨_, (pss_one (ps_ret (pe_and (pe_callB (r := rIsi c.K) call_isi (by rfl) T.b_isinstance (by decide +kernel) (pa_cons (pv 0) (pa_cons (pe_bltn (v := .ty "bool") rfl T.b_bool (by decide +kernel) rfl) pa_nil))) (pe_one (pe_cmpR op_eq (pv 0) (pv 1) (nomark _)))))), ?_⟩
    refine body_ok h (by decide) fun ds M R hds hM hS => ?_
    obtain ⟨x, y, rfl, hP⟩ := hS
    obtain rfl := List.length_eq_zero_iff.mp hM
    show WS c 0 _ [some (dy x), some (dy y)] [] _ _
    walk_at "zs"
    exact hP

theorem sc__law_history : FnScope ["_law_cells", "_law_kinds_here", "_law_journal_here", "_law_last", "_law_written", "_law_read", "_law_deed", "_law_number", "_law_cell", "_law_reads", "_law_one"] ["_law_cells", "_law_kinds_here", "_law_journal_here"] (defScope s__law_history) := ⟨rfl, rfl, rfl, by decide +kernel, rfl, by decide +kernel, by decide +kernel⟩
theorem ok__law_history {f : Addr} {fd : FuncData} (F : Fun c.K "_law_history" "_law_history" s__law_history f fd) (T : Tb mg) (X : Tx c mg)  :
    FnOk P w c.K mg base CX0 1 f fd ["_law_cells", "_law_kinds_here", "_law_journal_here"] (spOf c 3 0 sp__law_history) := by
  refine F.ok sc__law_history (fun vs H Q E h => ?_) (fun cdv A outer s H vs Q E hr h => ?_)
  · obtain ⟨as, F, ds, M, P, _, hn, _, rd, _⟩ := h
    rw [rd.length, hn]; rfl
  · have hu1 : (A.deeper (envOfC "_law_history" (defScope s__law_history) s.heap.objs.size f cdv)).units + 1 < cLine := hu_of hr
    have hu8 : (A.deeper (envOfC "_law_history" (defScope s__law_history) s.heap.objs.size f cdv)).units + 8 < cLine := by have := hr.un; omega
    have hu16 : (A.deeper (envOfC "_law_history" (defScope s__law_history) s.heap.objs.size f cdv)).units + 16 < cLine := by have := hr.un; omega
    have hu64 : (A.deeper (envOfC "_law_history" (defScope s__law_history) s.heap.objs.size f cdv)).units + 64 < cLine := by have := hr.un; omega
    have hu65 : (A.deeper (envOfC "_law_history" (defScope s__law_history) s.heap.objs.size f cdv)).units + 65 < cLine := by have := hr.un; omega
    refine ⟨_, (pss_cons (ps_set (i := 3) sc__law_history.nd rfl (Or.inr rfl) (pe_lc (own := [("_law_cell", 8)]) (g := (gName 8)) rfl sc__law_history.nd (pi_range1 rfl T.b_range (pa_cons (pv 0) pa_nil)) (blkOk_by (N := ["_law_cells", "_law_kinds_here", "_law_journal_here", "_law_last", "_law_written", "_law_read", "_law_deed", "_law_number", "_law_cell", "_law_reads", "_law_one"]) (sc := defScope s__law_history) (by decide +kernel)) (fun _ _ _ _ _ => (pg_name (i := 8) sc__law_history.nd rfl (Or.inl rfl))) (fun _ _ _ _ _ => pts_nil) (fun _ _ _ _ _ => (pe_op op_sub (pe_un un_neg pe_int) (pv 8)))))
        (pss_cons (ps_set (i := 4) sc__law_history.nd rfl (Or.inl rfl) (pe_lst pa_nil))
        (pss_cons (ps_set (i := 5) sc__law_history.nd rfl (Or.inl rfl) (pe_lst pa_nil))
        (pss_cons (ps_for PassesOwn.never rfl (Zr.pi_enumT rfl T.b_enumerate (pa_cons (pv 2) pa_nil)) (pg_tup rfl (pgs_cons (pg_name (i := 6) sc__law_history.nd rfl (Or.inl rfl)) (pgs_cons (pg_name (i := 7) sc__law_history.nd rfl (Or.inl rfl)) pgs_nil))) (pss_cons (ps_asg (pe_ix (r := rIxT c.K) ix_tup (pv 1) (pv 7) (fun _ _ => rfl)) (pg_tup rfl (pgs_cons (pg_name (i := 8) sc__law_history.nd rfl (Or.inl rfl)) (pgs_cons (pg_name (i := 9) sc__law_history.nd rfl (Or.inl rfl)) pgs_nil))))
        (pss_cons (ps_expr (pe_bm PySem.F.plainAttrs_list PySem.F.slot_list_append PySem.F.type_list_append mt_append (pv 4) (pa_cons (pv 8) pa_nil)))
        (pss_cons (ps_expr (pe_bm PySem.F.plainAttrs_list PySem.F.slot_list_append PySem.F.type_list_append mt_append (pv 5) (pa_cons (pe_callTy (r := Zq.rTup c.K) call_tuple_of (by rfl) T.b_tuple (by decide +kernel) (pa_cons (pe_lc (own := [("_law_one", 10)]) (g := (gName 10)) rfl sc__law_history.nd (pi_tup (pv 9)) (blkOk_by (N := ["_law_cells", "_law_kinds_here", "_law_journal_here", "_law_last", "_law_written", "_law_read", "_law_deed", "_law_number", "_law_cell", "_law_reads", "_law_one"]) (sc := defScope s__law_history) (by decide +kernel)) (fun _ _ _ _ _ => (pg_name (i := 10) sc__law_history.nd rfl (Or.inl rfl))) (fun _ _ _ _ _ => pts_nil) (fun _ _ _ _ _ => (pe_ix (r := rIxL c.K) ix_list (pv 3) (pv 10) (fun _ _ => rfl)))) pa_nil)) pa_nil)))
        (pss_one (ps_asg (pv 6) (pg_sub (pv 3) (pv 8) set_list)))))))
        (pss_one (ps_ret (pe_tup (pa_cons (pv 4) (pa_cons (pv 5) (pa_cons (pv 3) pa_nil)))))))))), ?_⟩
    refine body_ok h (by decide) fun ds M R hds hM hS => ?_
    obtain ⟨n, ks, js, rfl, hk, hj, hP⟩ := hS
    have n1 := hk.n1
    have n8 := hk.n8
    obtain rfl := List.length_eq_zero_iff.mp hM
    show WS c 0 _ [some (dy n), some (dy (Tp.mk ks)), some (dy (Tp.mk js)), none, none, none, none, none, none, none, none] [] _ _
    walk_at "zs"
    refine we_lcMC (β := Int) (γ := Int) [8] (fun i => -1 - i) (fun t ht => ht) ?_
    refine wi_range ?_
    walk_at "zs"
    refine ⟨n, rfl, by omega, by omega, rfl, upto n.toNat, rfl, by rw [upto_len]; omega, fun y hy acc => ?_, ?_⟩
    · walk_at "zs"
      refine ⟨rfl, ?_⟩
      walk_at "zs"
      exact ⟨rfl, rfl⟩
    walk_at "zs"
    refine we_lstC (α := Int) ?_
    walk_at "zs"
    refine ⟨[], rfl, Nat.zero_le _, ?_⟩
    walk_at "zs"
    refine we_lstC (α := Tp Int) ?_
    walk_at "zs"
    refine ⟨[], rfl, Nat.zero_le _, ?_⟩
    walk_at "zs"
    refine ws_fold (β := Int × Int) ([6] ++ [7]) (hstep ks) (hst0 n) (fun _ => [some (dy n), some (dy (Tp.mk ks)), some (dy (Tp.mk js)), some (dy (MR.mk 0)), some (dy (MR.mk 1)), some (dy (MR.mk 2)), none, none, none, none, none]) (fun s => [cLst s.la, cLst s.wr, cLst s.rd]) (fun pre s => HOk n pre.length s) ?_
    refine wi_enumT (α := Int) ?_
    walk_at "zs"
    refine ⟨⟨js⟩, rfl, nums js, rfl, hok0 _, by walk_at "zcut", fun pre y post s e hs hJ => ?_, fun s hs hJ => ?_⟩
    · obtain ⟨h1, h2, h3, hm⟩ := nums_split e
      have ok := hj.ok hk hm
      have pl : pre.length < js.length := h2
      have jl := hj.len
      have rl := hJ.rl
      have wl := hJ.wl
      have ll := hJ.ll
      walk_at "zs"
      refine rr_ixT (hj.at_ _ hm).1 (hj.get hm) ?_
      walk_at "zs"
      refine ws_app (α := Int) ?_
      walk_at "zs"
      refine ⟨by omega, ?_⟩
      walk_at "zs"
      refine ws_app (α := Tp Int) ?_
      walk_at "zs"
      refine we_lcM (β := Int) (γ := Int) [10] (fun r => s.la.getD r.toNat 0) (fun t ht => ht) (by walk_at "zok") ?_
      refine wi_tup (α := Int) ?_
      walk_at "zs"
      refine ⟨_, rfl, rfl, (kat ks y.2).2.l, rfl, by have := ok.len; omega, fun r hr acc => ?_, ?_⟩
      · walk_at "zs"
        refine ⟨rfl, ?_⟩
        walk_at "zs"
        have b := ok.r0 r hr
        refine rr_ixM (xs := s.la) rfl b.1 (getD_get (by omega)) ?_
        exact ⟨rfl, rfl⟩
      · walk_at "zs"
        refine ⟨by omega, ?_⟩
        walk_at "zs"
        refine ⟨ok.c0, ?_, ?_, by walk_at "zcut"⟩
        · have := ok.c1; have := ok.c0; omega
        · have := hok_step hJ ok
          rw [← h1] at this
          rw [List.length_append]; exact this
    · refine ws_retF ?_
      walk_at "zs"
      subst hs
      exact ⟨_, melt_3 ⟨Nat.zero_le _, rfl⟩ ⟨Nat.zero_le _, rfl⟩ ⟨Nat.zero_le _, rfl⟩, trivial, hP⟩

end
end K01
end
section
set_option Elab.async false
set_option linter.all false
set_option maxRecDepth 100000
set_option maxHeartbeats 4000000
namespace K01
open PySem PySem.Spec PyProof.Rows L2 Zq K02
open C8 (Cal Mak pe_c pe_mk pe_gc)
open IsTh (to)
local macro_rules | `(tactic| walk_at "zq") => `(tactic| first
  | with_reducible refine ws_seq ?_
  | with_reducible refine ws_asg ?_
  | (with_reducible apply ws_asgG)
  | with_reducible refine ws_next ?_
  | with_reducible refine ws_ret ?_
  | with_reducible refine ws_if ?_
  | with_reducible refine ws_drop (te := tCall _ _ _ _) ?_
  | with_reducible refine wsx_seq ?_
  | with_reducible refine wsx_asg ?_
  | with_reducible refine wsx_if ?_
  | with_reducible refine wsx_ret ?_
  | with_reducible refine wsx_next ?_
  | with_reducible refine wsx_raise ?_
  | with_reducible refine as_dy ?_
  | ((with_reducible apply we_var); focus rfl)
  | with_reducible refine we_int ?_
  | with_reducible refine we_bl ?_
  | with_reducible refine we_non ?_
  | with_reducible refine we_ty ?_
  | with_reducible refine we_str ?_
  | with_reducible refine we_op2 ?_
  | with_reducible refine we_neg ?_
  | with_reducible refine we_andV ?_
  | with_reducible refine we_orV ?_
  | with_reducible refine we_notV ?_
  | with_reducible refine we_chain ?_
  | with_reducible refine we_cb ?_
  | with_reducible refine tup_pair ?_
  | with_reducible refine tup_three ?_
  | with_reducible refine tup_nil ?_
  | with_reducible refine we_call ?_
  | with_reducible refine we_callD ?_
  | with_reducible refine we_tup ?_
  | refine we_cells (Tx.cl (by assumption)) (Tx.nc (by assumption)) ?_
  | refine we_kinds (Tx.cl (by assumption)) (Tx.nk (by assumption)) ?_
  | with_reducible refine wt_test ?_
  | with_reducible refine wt_B ?_
  | with_reducible refine wt_not ?_
  | with_reducible refine wt_and ?_
  | with_reducible refine wt_or ?_
  | with_reducible refine wt_yes ?_
  | with_reducible refine wa_cons ?_
  | with_reducible refine wa_nil ?_
  | with_reducible refine rr_II ?_
  | with_reducible refine rr_isTrue ?_
  | with_reducible refine rr_notTrue ?_
  | with_reducible refine rr_isN0 ?_
  | with_reducible refine rr_notN0 ?_
  | with_reducible refine rr_isN ?_
  | with_reducible refine rr_notN ?_
  | with_reducible refine rr_neB ?_
  | with_reducible refine rr_isNo ?_
  | with_reducible refine rr_notNo ?_
  | with_reducible refine rr_IB ?_
  | with_reducible refine rr_eqI ?_
  | with_reducible refine rr_neI ?_
  | with_reducible refine rr_eqB ?_
  | with_reducible refine rr_ixP0 ?_
  | with_reducible refine rr_ixP1 ?_
  | with_reducible refine rr_ix30 ?_
  | with_reducible refine rr_ix31 ?_
  | with_reducible refine rr_ix32 ?_
  | with_reducible refine rr_leK ?_
  | with_reducible refine rr_ltK ?_
  | refine rr_eqD ?_
  | refine rr_neD ?_
  | with_reducible refine rr_inT ?_
  | with_reducible refine rr_ninT ?_
  | with_reducible refine rr_inL ?_
  | with_reducible refine rr_ninL ?_
  | with_reducible refine rc_isi kit_ii ?_
  | with_reducible refine rc_isi kit_ib ?_
  | with_reducible refine rc_isi kit_bb ?_
  | with_reducible refine rc_isi kit_tt ?_
  | refine rc_isInt (Tx.isi (by assumption)) ?_
  | refine rc_isBl (Tx.isi (by assumption)) ?_
  | refine rc_isTup (Tx.isi (by assumption)) ?_
  | refine rc_isStr (Tx.isi (by assumption)) ?_
  | with_reducible refine rc_lenL ?_
  | with_reducible refine rc_lenT ?_
  | with_reducible refine rc_lenP ?_
  | with_reducible refine rc_tupL ?_
  | refine rc_lenM rfl ?_
  | refine rc_tupM rfl ?_
  | ((with_reducible apply rr_inM); focus rfl)
  | ((with_reducible apply rr_ninM); focus rfl)
  | with_reducible apply wg_setM
  | refine ex_l rfl ?_
  | refine ex_d rfl ?_
  | with_reducible refine rc_int ?_
  | with_reducible refine rc_abs ?_
  | with_reducible refine rc_min2 ?_
  | with_reducible refine rc_all ?_
  | with_reducible refine rc_any ?_
  | with_reducible refine wg_name ?_
  | (apply wg_tup2)
  | (apply wg_tup3))
local macro_rules | `(tactic| walk_at "zqs") => `(tactic| repeat walk_at "zq")
local macro_rules | `(tactic| walk_at "zok1") => `(tactic| first
  | exact trivial
  | exact dy_ok _ _
  | exact cLst_ok _ _
  | exact cDic_ok _ _
  | exact hand_ok _
  | exact handX_ok
  | exact okM_nil
  | exact okE_nil
  | exact okDs_nil
  | refine okM_cons ?_ ?_
  | refine okDs_cons ?_ ?_
  | refine okE_none ?_
  | refine okE_cons ?_ ?_
  | exact mr_ok (Nat.le_of_ble_eq_true rfl)
  | exact Free.l _ _
  | exact Free.k _ _
  | exact Free.ok _ _
  | exact Frg.refl _
  | exact Frg.nil
  | refine Frg.same ?_
  | refine Frg.drop ?_)
local macro_rules | `(tactic| walk_at "zok") => `(tactic| repeat walk_at "zok1")
local macro_rules | `(tactic| walk_at "zcut") => `(tactic| exact Cut.mk (by walk_at "zok") (by walk_at "zok") (by walk_at "zok") rfl)
local macro_rules | `(tactic| walk_at "zb") => `(tactic| first
  | with_reducible refine bt_tt ?_
  | with_reducible refine bt_ff ?_
  | with_reducible refine bt_nt ?_
  | with_reducible refine bt_nf ?_
  | with_reducible refine bt_ft ?_
  | with_reducible refine bt_tf ?_
  | with_reducible refine bt_nt' ?_
  | with_reducible refine bt_nf' ?_
  | (with_reducible refine bt_t ?_ ?_
     focus (first | rfl | assumption))
  | (with_reducible refine bt_f ?_ ?_
     focus (first | rfl | assumption))
  | (with_reducible refine bt_t' ?_ ?_
     focus (first | rfl | assumption))
  | (with_reducible refine bt_f' ?_ ?_
     focus (first | rfl | assumption))
  | (refine ca5 ?_ ?_ ?_ ?_ ?_
     focus (first | rfl | decide)
     focus (first | exact Nat.zero_le _ | exact Nat.le_of_ble_eq_true rfl)
     focus (walk_at "zok"; done)
     focus (walk_at "zok"; done))
  | (refine ca3 ?_ ?_ ?_
     focus (walk_at "zok"; done)
     focus (walk_at "zok"; done)))

local macro_rules | `(tactic| walk_at "zu") => `(tactic| first
  | refine u_is_integer ?_
  | refine u_is_integer_th ?_
  | refine u_is_number_below ?_ ?_
  | refine u_is_number_below_th ?_
  | refine u_is_lot ?_
  | refine u_is_lot_of_cells ?_
  | refine u_is_kind ?_
  | refine u__law_is_int ?_ ?_ ?_
  | refine u__law_is_int_th ?_
  | refine u__law_flag ?_
  | refine u__law_history ?_ ?_ ?_
  | refine u__law_draw ?_ ?_ ?_
  | refine u__law_any ?_ ?_ ?_
  | refine u__law_any_th ?_ ?_ ?_
  | refine u__law_kinds ?_ ?_ ?_ ?_ ?_
  | refine u_is_journal ?_ ?_
  | refine u_is_journal_ty ?_ ?_ ?_
  | refine u_check_journal ?_ ?_ ?_
  | refine u_is_version ?_ ?_ ?_
  | refine u_is_plates ?_ ?_ ?_
  | refine u__law_is_lot ?_ ?_
  | refine u__law_is_kind ?_ ?_
  | refine u__law_due ?_ ?_
  | refine u_Table_initC ?_ ?_
  | refine u_Table_eq ?_ ?_
  | refine u__law_told ?_ ?_
  | refine u__law_deep ?_ ?_ ?_
  | refine u__law_odd ?_ ?_
  | refine u__law_table ?_ ?_ ?_
  | refine u__law_journal ?_ ?_ ?_ ?_ ?_
  | refine u__law_versions ?_ ?_ ?_ ?_ ?_
  | refine u__law_bent ?_ ?_ ?_ ?_ ?_ ?_
  | refine u__law_great_right ?_
  | refine u__law_journals_right ?_ ?_
  | refine u_law ?_ ?_)
local macro_rules | `(tactic| walk_at "zs1") => `(tactic| first
  | walk_at "zq"
  | walk_at "zu"
  | walk_at "zb")
local macro_rules | `(tactic| walk_at "zs") => `(tactic| repeat walk_at "zs1")
section
variable {P : Program} {w : World} {c : Cc} {mg : Str → Option Value} {base : Heap}
theorem sc_Table_init : FnScope ["self", "cells", "kinds", "at", "kind"] ["self", "cells", "kinds"] (defScope s_Table_init) := ⟨rfl, rfl, rfl, by decide +kernel, rfl, by decide +kernel, by decide +kernel⟩
theorem ok_Table_init {f : Addr} {fd : FuncData} (F : Fun c.K "__init__" "Table.__init__" s_Table_init f fd) (T : Tb mg) (X : Tx c mg) (g_is_integer : Cal P w c.K mg base 1 "is_integer" (spOf c 1 0 sp_is_integer) []) (g_is_kind : Cal P w c.K mg base 4 "is_kind" (spOf c 2 0 sp_is_kind) []) (x_BadTable : ExF P w c.K mg base 1 "BadTable" (c.cls "BadTable") ["part", "at"]) :
    FnOk P w c.K mg base (L2.CX P w) 5 f fd ["self", "cells", "kinds"] (spOfX c 3 1 (sp_Table_init c)) := by
  refine F.okX sc_Table_init (fun vs H Q E h => ?_) (fun cdv A outer s H vs Q E hr h => ?_)
  · obtain ⟨as, F, ds, M, P, _, _, hn, _, rd, _⟩ := h
    rw [rd.length, hn]; rfl
  · have hu1 : (A.deeper (envOfC "Table.__init__" (defScope s_Table_init) s.heap.objs.size f cdv)).units + 1 < cLine := hu_of hr
    have hu8 : (A.deeper (envOfC "Table.__init__" (defScope s_Table_init) s.heap.objs.size f cdv)).units + 8 < cLine := by have := hr.un; omega
    have hu16 : (A.deeper (envOfC "Table.__init__" (defScope s_Table_init) s.heap.objs.size f cdv)).units + 16 < cLine := by have := hr.un; omega
    have hu64 : (A.deeper (envOfC "Table.__init__" (defScope s_Table_init) s.heap.objs.size f cdv)).units + 64 < cLine := by have := hr.un; omega
    have hu65 : (A.deeper (envOfC "Table.__init__" (defScope s_Table_init) s.heap.objs.size f cdv)).units + 65 < cLine := by have := hr.un; omega
    refine ⟨_, (pss_cons (ps_if (PW.pt (pw_or (pt_not (pt_val (pe_c g_is_integer hr (by decide) rfl (pa_cons (pv 1) pa_nil)))) (pw_or1 (pt_not (pt_chain op_le op_le pe_int (pv 1) (pe_gc (v := .int 8) rfl T.c_MOST_CELLS)))))) (pss_one (ps_raise rfl (takes_of rfl rfl rfl rfl) (Zq.pmk_f x_BadTable hr (by decide) rfl (pa_cons pe_str (pa_cons (pe_un un_neg pe_int) pa_nil))))) pss_nil)
        (pss_cons (ps_if (PW.pt (pw_or (pt_not (pt_val (pe_callB (r := rIsi c.K) call_isi (by rfl) T.b_isinstance (by decide +kernel) (pa_cons (pv 2) (pa_cons (pe_bltn (v := .ty "tuple") rfl T.b_tuple (by decide +kernel) rfl) pa_nil))))) (pw_or1 (pt_not (pt_chain op_le op_le pe_int (pe_callB (r := Zq.rLen c.K) call_len_seq (by rfl) T.b_len (by decide +kernel) (pa_cons (pv 2) pa_nil)) (pe_gc (v := .int 40) rfl T.c_MOST_KINDS)))))) (pss_one (ps_raise rfl (takes_of rfl rfl rfl rfl) (Zq.pmk_f x_BadTable hr (by decide) rfl (pa_cons pe_str (pa_cons (pe_un un_neg pe_int) pa_nil))))) pss_nil)
        (pss_cons (ps_for (L2.passes_of rfl) rfl (Zr.pi_enumT rfl T.b_enumerate (pa_cons (pv 2) pa_nil)) (pg_tup rfl (pgs_cons (pg_name (i := 3) sc_Table_init.nd rfl (Or.inl rfl)) (pgs_cons (pg_name (i := 4) sc_Table_init.nd rfl (Or.inl rfl)) pgs_nil))) (pss_cons (ps_if (pt_not (pt_val (pe_c g_is_kind hr (by decide) rfl (pa_cons (pv 1) (pa_cons (pv 4) pa_nil))))) (pss_one (ps_raise rfl (takes_of rfl rfl rfl rfl) (Zq.pmk_f x_BadTable hr (by decide) rfl (pa_cons pe_str (pa_cons (pv 3) pa_nil))))) pss_nil)
        (pss_one (ps_if (PW.pt (pw_and (pt_cmpR op_gt (pv 3) pe_int (nomark _)) (pw_and1 (pt_cmpR (r := Zr.rLeK c.K) (Zr.op_leK hu8) (pv 4) (pe_ix (r := rIxT c.K) ix_tup (pv 2) (pe_op op_sub (pv 3) pe_int) (fun _ _ => rfl)) (nomark _))))) (pss_one (ps_raise rfl (takes_of rfl rfl rfl rfl) (Zq.pmk_f x_BadTable hr (by decide) rfl (pa_cons pe_str (pa_cons (pv 3) pa_nil))))) pss_nil))))
        (pss_cons (ps_fld (pv 0) (pv 1) rfl)
        (pss_one (ps_fld (pv 0) (pv 2) rfl)))))), ?_⟩
    refine Zq.body_okX h (by decide) fun ds M R RX hds hM hS => ?_
    obtain ⟨x, k, rfl, rfl, hP, hE⟩ := hS
    show WSX c 1 _ _ [some (dy (MR.mk 0)), some (dy x), some (dy k), none, none] [cIns (c.cls "Table") 0 []] _ _ _
    have okC : okM 1 [cIns (c.cls "Table") 0 []] := ⟨fun f d h => (by cases h), trivial⟩
    cases hb : isIn 1 8 x with
    | false =>
      cases x with
      | int i =>
        rw [th_int]
        have hb : (decide (1 ≤ i) && decide (i ≤ 8)) = false := hb
        cases h1 : decide (1 ≤ i) with
        | false =>
          walk_at "zs"
          refine wmk_bad .cells X.oex_BadTable X.no_BadTable_part X.no_BadTable_at ?_
          walk_at "zs"
          exact ⟨_, rfl, badX_ok _ _ _, okC, hE _ (.cells (by assumption))⟩
        | true =>
          rw [h1] at hb
          have e2 : (!decide (i ≤ 8)) = true := by rw [show decide (i ≤ 8) = false from hb]; rfl
          walk_at "zs"
          refine wmk_bad .cells X.oex_BadTable X.no_BadTable_part X.no_BadTable_at ?_
          walk_at "zs"
          exact ⟨_, rfl, badX_ok _ _ _, okC, hE _ (.cells (by assumption))⟩
      | _ =>
        walk_at "zs"
        refine wmk_bad .cells X.oex_BadTable X.no_BadTable_part X.no_BadTable_at ?_
        walk_at "zs"
        exact ⟨_, rfl, badX_ok _ _ _, okC, hE _ (.cells (by assumption))⟩
    | true =>
      obtain ⟨n, rfl, n1, n8⟩ := isIn_ex hb
      rw [th_int]
      have e1 : decide (1 ≤ n) = true := decide_eq_true n1
      have e2 : (!decide (n ≤ 8)) = false := by rw [decide_eq_true n8]; rfl
      cases k with
      | tup l =>
        rw [th_tup]
        walk_at "zs"
        by_cases h1 : 1 ≤ ((l.length : Nat) : Int)
        · have e3 : decide (1 ≤ ((l.length : Nat) : Int)) = true := decide_eq_true h1
          walk_at "zs"
          by_cases h2 : ((l.length : Nat) : Int) ≤ 40
          · have e4 : (!decide (((l.length : Nat) : Int) ≤ 40)) = false := by rw [decide_eq_true h2]; rfl
            walk_at "zs"
            refine wsx_for (S := Unit) (β := Int × Th) (ts := [3] ++ [4]) (fun pre _ => upTo n l pre.length) (fun _ => [some (dy (MR.mk 0)), some (dy n), some (dy (Tp.mk l)), none, none]) (fun _ => [cIns (c.cls "Table") 0 []]) ?_
            refine wi_enumT (α := Th) ?_
            walk_at "zs"
            refine ⟨⟨l⟩, rfl, nums l, rfl, (), upTo_0 n l, Cut.mk (by walk_at "zok") (by walk_at "zok") okC rfl, fun pre y post s e hJ => ?_, fun s hJ => ?_⟩
            · obtain ⟨g1, hlt, hx, hm⟩ := nums_split e
              obtain ⟨at_, x⟩ := y
              have hy : at_ = (pre.length : Int) := g1
              have hx : l[pre.length]? = some x := hx
              have len1 : (pre ++ [(at_, x)]).length = pre.length + 1 := by rw [List.length_append]; rfl
              walk_at "zs"
              by_cases hk : kindP n x
              · have e3 : (!tf (kindP n x)) = false := by rw [tf_t hk]; rfl
                walk_at "zs"
                obtain ⟨kd, rfl, ok⟩ := hk
                refine ⟨fun q => ?_, fun q => ?_⟩
                · have q0 : 0 < at_ := of_decide_eq_true q
                  obtain ⟨u, hu, uok⟩ := upTo_last hJ (by omega) (by omega)
                  walk_at "zs"
                  refine rr_ixT (xs := Tp.mk l) (by omega) (by rw [show (at_ - 1).toNat = pre.length - 1 by omega]; exact hu) ?_
                  rw [IsTh.eq, IsTh.eq]
                  walk_at "zs"
                  cases hb : kbef u kd with
                  | true =>
                    have e5 : (!true) = false := rfl
                    walk_at "zs"
                    refine ⟨(), ?_, Cut.mk (by walk_at "zok") (by walk_at "zok") okC rfl⟩
                    rw [len1]
                    refine upTo_step hJ hx ok fun u' _ hu' => ?_
                    rw [hu] at hu'
                    injection hu' with hu'
                    rw [← kind_inj hu']; exact hb
                  | false =>
                    walk_at "zs"
                    refine wmk_bad .kinds X.oex_BadTable X.no_BadTable_part X.no_BadTable_at ?_
                    walk_at "zs"
                    refine ⟨_, rfl, badX_ok _ _ _, okC, ?_⟩
                    rw [hy]
                    exact hE _ (.at_ (by assumption) rfl rfl (by omega) hlt hJ (upTo_desc hx (by omega) hu hb))
                · have q0 : ¬ 0 < at_ := of_decide_eq_false q
                  walk_at "zs"
                  refine ⟨(), ?_, Cut.mk (by walk_at "zok") (by walk_at "zok") okC rfl⟩
                  rw [len1]
                  exact upTo_step hJ hx ok fun u' h0 _ => by omega
              · have e3 : (!tf (kindP n x)) = true := by rw [tf_f hk]; rfl
                walk_at "zs"
                refine wmk_bad .kinds X.oex_BadTable X.no_BadTable_part X.no_BadTable_at ?_
                walk_at "zs"
                refine ⟨_, rfl, badX_ok _ _ _, okC, ?_⟩
                rw [hy]
                exact hE _ (.at_ (by assumption) rfl rfl (by omega) hlt hJ (upTo_bad hx hk))
            · have hl : (nums l).length = l.length := nums_len _
              rw [hl] at hJ
              obtain ⟨ks, rfl, hk⟩ := upTo_ks (by assumption) (by omega) (by omega) hJ
              rw [to_mapT]
              walk_at "zs"
              refine wsx_of ?_
              refine ws_fld X.cl X.nc ?_
              walk_at "zs"
              refine ⟨_, _, rfl, by omega, ?_⟩
              refine wsx_of ?_
              refine ws_fld X.cl X.nk ?_
              walk_at "zs"
              refine ⟨_, _, rfl, by omega, ?_⟩
              refine ⟨⟨?_, trivial⟩, hP n ks rfl rfl hk⟩
              intro f d h
              simp only [List.lookup] at h
              split at h
              · cases h; exact dy_ok _ _
              · split at h
                · cases h; exact dy_ok _ _
                · cases h
          · have e4 : (!decide (((l.length : Nat) : Int) ≤ 40)) = true := by rw [decide_eq_false h2]; rfl
            walk_at "zs"
            refine wmk_bad .kinds X.oex_BadTable X.no_BadTable_part X.no_BadTable_at ?_
            walk_at "zs"
            exact ⟨_, rfl, badX_ok _ _ _, okC, hE _ (.kinds (by assumption) (by rintro ⟨l', h, _, h3⟩; injection h with h; subst h; omega))⟩
        · have e3 : decide (1 ≤ ((l.length : Nat) : Int)) = false := decide_eq_false h1
          walk_at "zs"
          refine wmk_bad .kinds X.oex_BadTable X.no_BadTable_part X.no_BadTable_at ?_
          walk_at "zs"
          exact ⟨_, rfl, badX_ok _ _ _, okC, hE _ (.kinds (by assumption) (by rintro ⟨l', h, h3, _⟩; injection h with h; subst h; omega))⟩
      | _ =>
        walk_at "zs"
        refine wmk_bad .kinds X.oex_BadTable X.no_BadTable_part X.no_BadTable_at ?_
        walk_at "zs"
        exact ⟨_, rfl, badX_ok _ _ _, okC, hE _ (.kinds (by assumption) (by rintro ⟨l', h, _⟩; cases h))⟩


theorem sc_Table_eq : FnScope ["self", "other"] ["self", "other"] (defScope s_Table_eq) := ⟨rfl, rfl, rfl, by decide +kernel, rfl, by decide +kernel, by decide +kernel⟩
theorem ok_Table_eq {f : Addr} {fd : FuncData} (F : Fun c.K "__eq__" "Table.__eq__" s_Table_eq f fd) (T : Tb mg) (X : Tx c mg)  :
    FnOk P w c.K mg base CX0 1 f fd ["self", "other"] (spOf c 2 0 (sp_Table_eq c)) := by
  refine F.ok sc_Table_eq (fun vs H Q E h => ?_) (fun cdv A outer s H vs Q E hr h => ?_)
  · obtain ⟨as, F, ds, M, P, _, hn, _, rd, _⟩ := h
    rw [rd.length, hn]; rfl
  · have hu1 : (A.deeper (envOfC "Table.__eq__" (defScope s_Table_eq) s.heap.objs.size f cdv)).units + 1 < cLine := hu_of hr
    have hu8 : (A.deeper (envOfC "Table.__eq__" (defScope s_Table_eq) s.heap.objs.size f cdv)).units + 8 < cLine := by have := hr.un; omega
    have hu16 : (A.deeper (envOfC "Table.__eq__" (defScope s_Table_eq) s.heap.objs.size f cdv)).units + 16 < cLine := by have := hr.un; omega
    have hu64 : (A.deeper (envOfC "Table.__eq__" (defScope s_Table_eq) s.heap.objs.size f cdv)).units + 64 < cLine := by have := hr.un; omega
    have hu65 : (A.deeper (envOfC "Table.__eq__" (defScope s_Table_eq) s.heap.objs.size f cdv)).units + 65 < cLine := by have := hr.un; omega
    refine ⟨_, (pss_one (ps_ret (pe_and (pe_callB (r := Zx.rIsiE c.K) Zx.call_isiE (by rfl) T.b_isinstance (by decide +kernel) (pa_cons (pv 1) (pa_cons (pe_gc (v := .ref (c.cls "Table")) rfl ⟨_, X.m_Table, rfl⟩) pa_nil))) (pe_and (pe_cmpR op_eq (pe_fld (pv 0) rfl) (pe_fld (pv 1) rfl) (nomark _)) (pe_one (pe_cmpR (r := rEqD c.K) (op_eqD hu64) (pe_fld (pv 0) rfl) (pe_fld (pv 1) rfl) (nomark _))))))), ?_⟩
    refine body_ok h (by decide) fun ds M R hds hM hS => ?_
    obtain ⟨t, x, rfl, hx, hP⟩ := hS
    obtain rfl := List.length_eq_zero_iff.mp hM
    show WS c 0 _ [some (dy t), some (dy x)] [] _ _
    walk_at "zs"
    refine we_ref ?_
    walk_at "zs"
    refine rc_isTab X.ist hx ?_
    match x, hP, hx with
    | .inl (.tab u), hP, hx =>
      rw [dy_inl, th_tab]
      walk_at "zs"
      have e : tf ((Sum.inl (Th.tab u) : Tz) = .inl (.tab t)) = (decide (t.cells = u.cells) && decide (t.kinds = u.kinds)) := by
        refine tf_iff ?_
        rw [Bool.and_eq_true, decide_eq_true_eq, decide_eq_true_eq]
        constructor
        · rintro ⟨h1, h2⟩
          obtain ⟨a, b⟩ := t
          obtain ⟨a', b'⟩ := u
          simp only at h1 h2
          rw [h1, h2]
        · intro h
          injection h with h
          injection h with h
          rw [h]; exact ⟨rfl, rfl⟩
      rw [e] at hP
      cases h1 : decide (t.cells = u.cells) with
      | true =>
        rw [h1] at hP
        walk_at "zs"
        exact hP
      | false =>
        rw [h1] at hP
        walk_at "zs"
        exact hP
    | .inl .non, hP, hx => walk_at "zs"; rw [tf_f (by intro h; injection h with h; cases h)] at hP; exact hP
    | .inl (.bl _), hP, hx => walk_at "zs"; rw [tf_f (by intro h; injection h with h; cases h)] at hP; exact hP
    | .inl (.int _), hP, hx => walk_at "zs"; rw [tf_f (by intro h; injection h with h; cases h)] at hP; exact hP
    | .inl (.str _), hP, hx => walk_at "zs"; rw [tf_f (by intro h; injection h with h; cases h)] at hP; exact hP
    | .inl (.tup _), hP, hx => walk_at "zs"; rw [tf_f (by intro h; injection h with h; cases h)] at hP; exact hP
    | .inl (.lst _), hP, hx => walk_at "zs"; rw [tf_f (by intro h; injection h with h; cases h)] at hP; exact hP
    | .inl .dic, hP, hx => walk_at "zs"; rw [tf_f (by intro h; injection h with h; cases h)] at hP; exact hP
    | .inr _, hP, hx => walk_at "zs"; rw [tf_f (by intro h; cases h)] at hP; exact hP

end
end K01
end
section
set_option Elab.async false
set_option linter.all false
set_option maxRecDepth 100000
set_option maxHeartbeats 4000000
namespace K01
open PySem PySem.Spec PyProof.Rows L2 Zq K02
open C8 (Cal Mak pe_c pe_mk pe_gc)
open IsTh (to)
local macro_rules | `(tactic| walk_at "zq") => `(tactic| first
  | with_reducible refine ws_seq ?_
  | with_reducible refine ws_asg ?_
  | (with_reducible apply ws_asgG)
  | with_reducible refine ws_next ?_
  | with_reducible refine ws_ret ?_
  | with_reducible refine ws_if ?_
  | with_reducible refine ws_drop (te := tCall _ _ _ _) ?_
  | with_reducible refine wsx_seq ?_
  | with_reducible refine wsx_asg ?_
  | with_reducible refine wsx_if ?_
  | with_reducible refine wsx_ret ?_
  | with_reducible refine wsx_next ?_
  | with_reducible refine wsx_raise ?_
  | with_reducible refine as_dy ?_
  | ((with_reducible apply we_var); focus rfl)
  | with_reducible refine we_int ?_
  | with_reducible refine we_bl ?_
  | with_reducible refine we_non ?_
  | with_reducible refine we_ty ?_
  | with_reducible refine we_str ?_
  | with_reducible refine we_op2 ?_
  | with_reducible refine we_neg ?_
  | with_reducible refine we_andV ?_
  | with_reducible refine we_orV ?_
  | with_reducible refine we_notV ?_
  | with_reducible refine we_chain ?_
  | with_reducible refine we_cb ?_
  | with_reducible refine tup_pair ?_
  | with_reducible refine tup_three ?_
  | with_reducible refine tup_nil ?_
  | with_reducible refine we_call ?_
  | with_reducible refine we_callD ?_
  | with_reducible refine we_tup ?_
  | refine we_cells (Tx.cl (by assumption)) (Tx.nc (by assumption)) ?_
  | refine we_kinds (Tx.cl (by assumption)) (Tx.nk (by assumption)) ?_
  | with_reducible refine wt_test ?_
  | with_reducible refine wt_B ?_
  | with_reducible refine wt_not ?_
  | with_reducible refine wt_and ?_
  | with_reducible refine wt_or ?_
  | with_reducible refine wt_yes ?_
  | with_reducible refine wa_cons ?_
  | with_reducible refine wa_nil ?_
  | with_reducible refine rr_II ?_
  | with_reducible refine rr_isTrue ?_
  | with_reducible refine rr_notTrue ?_
  | with_reducible refine rr_isN0 ?_
  | with_reducible refine rr_notN0 ?_
  | with_reducible refine rr_isN ?_
  | with_reducible refine rr_notN ?_
  | with_reducible refine rr_neB ?_
  | with_reducible refine rr_isNo ?_
  | with_reducible refine rr_notNo ?_
  | with_reducible refine rr_IB ?_
  | with_reducible refine rr_eqI ?_
  | with_reducible refine rr_neI ?_
  | with_reducible refine rr_eqB ?_
  | with_reducible refine rr_ixP0 ?_
  | with_reducible refine rr_ixP1 ?_
  | with_reducible refine rr_ix30 ?_
  | with_reducible refine rr_ix31 ?_
  | with_reducible refine rr_ix32 ?_
  | with_reducible refine rr_leK ?_
  | with_reducible refine rr_ltK ?_
  | refine rr_eqD ?_
  | refine rr_neD ?_
  | with_reducible refine rr_inT ?_
  | with_reducible refine rr_ninT ?_
  | with_reducible refine rr_inL ?_
  | with_reducible refine rr_ninL ?_
  | with_reducible refine rc_isi kit_ii ?_
  | with_reducible refine rc_isi kit_ib ?_
  | with_reducible refine rc_isi kit_bb ?_
  | with_reducible refine rc_isi kit_tt ?_
  | refine rc_isInt (Tx.isi (by assumption)) ?_
  | refine rc_isBl (Tx.isi (by assumption)) ?_
  | refine rc_isTup (Tx.isi (by assumption)) ?_
  | refine rc_isStr (Tx.isi (by assumption)) ?_
  | with_reducible refine rc_lenL ?_
  | with_reducible refine rc_lenT ?_
  | with_reducible refine rc_lenP ?_
  | with_reducible refine rc_tupL ?_
  | refine rc_lenM rfl ?_
  | refine rc_tupM rfl ?_
  | ((with_reducible apply rr_inM); focus rfl)
  | ((with_reducible apply rr_ninM); focus rfl)
  | with_reducible apply wg_setM
  | refine ex_l rfl ?_
  | refine ex_d rfl ?_
  | with_reducible refine rc_int ?_
  | with_reducible refine rc_abs ?_
  | with_reducible refine rc_min2 ?_
  | with_reducible refine rc_all ?_
  | with_reducible refine rc_any ?_
  | with_reducible refine wg_name ?_
  | (apply wg_tup2)
  | (apply wg_tup3))
local macro_rules | `(tactic| walk_at "zqs") => `(tactic| repeat walk_at "zq")
local macro_rules | `(tactic| walk_at "zok1") => `(tactic| first
  | exact trivial
  | exact dy_ok _ _
  | exact cLst_ok _ _
  | exact cDic_ok _ _
  | exact hand_ok _
  | exact handX_ok
  | exact okM_nil
  | exact okE_nil
  | exact okDs_nil
  | refine okM_cons ?_ ?_
  | refine okDs_cons ?_ ?_
  | refine okE_none ?_
  | refine okE_cons ?_ ?_
  | exact mr_ok (Nat.le_of_ble_eq_true rfl)
  | exact Free.l _ _
  | exact Free.k _ _
  | exact Free.ok _ _
  | exact Frg.refl _
  | exact Frg.nil
  | refine Frg.same ?_
  | refine Frg.drop ?_)
local macro_rules | `(tactic| walk_at "zok") => `(tactic| repeat walk_at "zok1")
local macro_rules | `(tactic| walk_at "zcut") => `(tactic| exact Cut.mk (by walk_at "zok") (by walk_at "zok") (by walk_at "zok") rfl)
local macro_rules | `(tactic| walk_at "zb") => `(tactic| first
  | with_reducible refine bt_tt ?_
  | with_reducible refine bt_ff ?_
  | with_reducible refine bt_nt ?_
  | with_reducible refine bt_nf ?_
  | with_reducible refine bt_ft ?_
  | with_reducible refine bt_tf ?_
  | with_reducible refine bt_nt' ?_
  | with_reducible refine bt_nf' ?_
  | (with_reducible refine bt_t ?_ ?_
     focus (first | rfl | assumption))
  | (with_reducible refine bt_f ?_ ?_
     focus (first | rfl | assumption))
  | (with_reducible refine bt_t' ?_ ?_
     focus (first | rfl | assumption))
  | (with_reducible refine bt_f' ?_ ?_
     focus (first | rfl | assumption))
  | (refine ca5 ?_ ?_ ?_ ?_ ?_
     focus (first | rfl | decide)
     focus (first | exact Nat.zero_le _ | exact Nat.le_of_ble_eq_true rfl)
     focus (walk_at "zok"; done)
     focus (walk_at "zok"; done))
  | (refine ca3 ?_ ?_ ?_
     focus (walk_at "zok"; done)
     focus (walk_at "zok"; done)))

local macro_rules | `(tactic| walk_at "zu") => `(tactic| first
  | refine u_is_integer ?_
  | refine u_is_integer_th ?_
  | refine u_is_number_below ?_ ?_
  | refine u_is_number_below_th ?_
  | refine u_is_lot ?_
  | refine u_is_lot_of_cells ?_
  | refine u_is_kind ?_
  | refine u__law_is_int ?_ ?_ ?_
  | refine u__law_is_int_th ?_
  | refine u__law_flag ?_
  | refine u__law_history ?_ ?_ ?_
  | refine u__law_draw ?_ ?_ ?_
  | refine u__law_any ?_ ?_ ?_
  | refine u__law_any_th ?_ ?_ ?_
  | refine u__law_kinds ?_ ?_ ?_ ?_ ?_
  | refine u_is_journal ?_ ?_
  | refine u_is_journal_ty ?_ ?_ ?_
  | refine u_check_journal ?_ ?_ ?_
  | refine u_is_version ?_ ?_ ?_
  | refine u_is_plates ?_ ?_ ?_
  | refine u__law_is_lot ?_ ?_
  | refine u__law_is_kind ?_ ?_
  | refine u__law_due ?_ ?_
  | refine u_Table_initC ?_ ?_
  | refine u_Table_eq ?_ ?_
  | refine u__law_told ?_ ?_
  | refine u__law_deep ?_ ?_ ?_
  | refine u__law_odd ?_ ?_
  | refine u__law_table ?_ ?_ ?_
  | refine u__law_journal ?_ ?_ ?_ ?_ ?_
  | refine u__law_versions ?_ ?_ ?_ ?_ ?_
  | refine u__law_bent ?_ ?_ ?_ ?_ ?_ ?_
  | refine u__law_great_right ?_
  | refine u__law_journals_right ?_ ?_
  | refine u_law ?_ ?_)
local macro_rules | `(tactic| walk_at "zs1") => `(tactic| first
  | walk_at "zq"
  | walk_at "zu"
  | walk_at "zb")
local macro_rules | `(tactic| walk_at "zs") => `(tactic| repeat walk_at "zs1")
section
variable {P : Program} {w : World} {c : Cc} {mg : Str → Option Value} {base : Heap}
theorem sc__law_told : FnScope ["_law_cells", "_law_kinds_here", "_law_told_here", "e"] ["_law_cells", "_law_kinds_here"] (defScope s__law_told) := ⟨rfl, rfl, rfl, by decide +kernel, rfl, by decide +kernel, by decide +kernel⟩
theorem ok__law_told {f : Addr} {fd : FuncData} (F : Fun c.K "_law_told" "_law_told" s__law_told f fd) (T : Tb mg) (X : Tx c mg)  (gX_Table : MakX P w c.K mg base 5 "Table" (c.cls "Table") (spOfX c 3 1 (sp_Table_init c))) :
    FnOk P w c.K mg base CX0 7 f fd ["_law_cells", "_law_kinds_here"] (spOf c 2 0 sp__law_told) := by
  refine F.ok sc__law_told (fun vs H Q E h => ?_) (fun cdv A outer s H vs Q E hr h => ?_)
  · obtain ⟨as, F, ds, M, P, _, hn, _, rd, _⟩ := h
    rw [rd.length, hn]; rfl
  · have hu1 : (A.deeper (envOfC "_law_told" (defScope s__law_told) s.heap.objs.size f cdv)).units + 1 < cLine := hu_of hr
    have hu8 : (A.deeper (envOfC "_law_told" (defScope s__law_told) s.heap.objs.size f cdv)).units + 8 < cLine := by have := hr.un; omega
    have hu16 : (A.deeper (envOfC "_law_told" (defScope s__law_told) s.heap.objs.size f cdv)).units + 16 < cLine := by have := hr.un; omega
    have hu64 : (A.deeper (envOfC "_law_told" (defScope s__law_told) s.heap.objs.size f cdv)).units + 64 < cLine := by have := hr.un; omega
    have hu65 : (A.deeper (envOfC "_law_told" (defScope s__law_told) s.heap.objs.size f cdv)).units + 65 < cLine := by have := hr.un; omega
    refine ⟨_, (pss_cons (ps_set (i := 2) sc__law_told.nd rfl (Or.inl rfl) (pe_tup (pa_cons pe_str (pa_cons pe_non pa_nil))))
        (pss_cons (ps_try_as (c := .ref (c.cls "PlateError")) (i := 3) rfl rfl sc__law_told.nd rfl rfl ⟨rfl, by decide, .inl X.m_PlateError⟩ takes0 (fun W pn xe tk _ => (pss_one (ps_set (i := 2) sc__law_told.nd rfl (Or.inl rfl) (pe_tup (pa_cons pe_non (pa_cons (Zq.pe_mkX gX_Table hr (by decide) rfl tk (pa_cons (pv 0) (pa_cons (pv 1) pa_nil))) pa_nil)))))) (fun a oe cls d pn hz hf => (pss_one (ps_if (PW.pt (pw_and (pt_val (pe_callB (r := Zq.rIsXd c.K a cls d) (Zq.call_isX hz hf) (by rfl) T.b_isinstance (by decide +kernel) (pa_cons (pv 3) (pa_cons (pe_gc (v := .ref (c.cls "BadTable")) rfl ⟨_, X.m_BadTable, rfl⟩) pa_nil)))) (pw_and1 (pt_val (pe_callB (r := Zq.rIsXd c.K a cls d) (Zq.call_isX hz hf) (by rfl) T.b_isinstance (by decide +kernel) (pa_cons (pv 3) (pa_cons (pe_bltn (v := .ty "ValueError") rfl T.b_ValueError (by decide +kernel) rfl) pa_nil))))))) (pss_one (ps_set (i := 2) sc__law_told.nd rfl (Or.inl rfl) (pe_tup (pa_cons (pe_tup (pa_cons (pe_xf (C := c.cls "BadTable") X.xf_BadTable X.no_BadTable_part hz hf (pv 3)) (pa_cons (pe_xf (C := c.cls "BadTable") X.xf_BadTable X.no_BadTable_at hz hf (pv 3)) pa_nil))) (pa_cons pe_non pa_nil))))) pss_nil))))
        (pss_one (ps_ret (pv 2))))), ?_⟩
    refine body_ok h (by decide) fun ds M R hds hM hS => ?_
    obtain ⟨x, k, rfl, hP, hE⟩ := hS
    obtain rfl := List.length_eq_zero_iff.mp hM
    show WS c 0 _ [some (dy x), some (dy k), none, none] [] _ _
    walk_at "zs"
    refine ws_tryAs (tb := fun W => tAsg (tTup (tCons (tC .non) (tCons (tMakeS (c.cls "Table") (spOfX c 3 1 (sp_Table_init c)) (L2.WE W) (tCons (tVar 0) (tCons (tVar 1) tNil))) tNil))) (gName 2)) (fun z e m => (∃ p, Due x k (some p) ∧ z = badX c p) ∧ e = [some (dy x), some (dy k), some (dy (("other" : Str), ())), none] ∧ m = []) (fun W' => ?_) ?_
    · walk_at "zs"
      refine wex_tup ?_
      refine wax_cons (wex_of ?_)
      walk_at "zs"
      refine wax_cons ?_
      refine wex_makeT ?_
      walk_at "zs"
      refine ⟨rfl, by walk_at "zok", ?_⟩
      refine ⟨x, k, rfl, rfl, fun n ks e1 e2 hk => ?_, fun p hp => ?_⟩
      · refine ⟨Tab.mk n ⟨ks⟩, 2, _, rfl, rfl, rfl, rfl, Free.ok _ _, ?_⟩
        refine wax_of ?_
        walk_at "zs"
        exact hP n ks e1 e2 hk
      · exact ⟨badX_ok _ _ _, ⟨p, hp, rfl⟩, rfl, rfl⟩
    · rintro z e m ⟨⟨p, hp, rfl⟩, rfl, rfl⟩
      refine ⟨X.exm_BadTable, fun a cls d => ?_⟩
      walk_at "zs"
      refine we_ref ?_
      walk_at "zs"
      refine rc_isX (cv := .ref (c.cls "BadTable")) X.ist.e (fun F as v h u r => by rw [show v = V.ref _ from h] at r; exact r) X.kx_BadTable ?_
      walk_at "zs"
      refine rc_isX (cv := .type "ValueError") X.ist.e (fun F as v h u r => by rw [show v = V.ty _ from h] at r; exact r) X.kv_BadTable ?_
      walk_at "zs"
      refine we_xf (x := badX c p) (y := dy p.1) rfl rfl ?_
      walk_at "zs"
      refine ⟨rfl, ?_⟩
      walk_at "zs"
      refine we_xf (x := badX c p) (y := dy p.2) rfl rfl ?_
      walk_at "zs"
      refine ⟨rfl, ?_⟩
      walk_at "zs"
      exact hE p hp

end
end K01
end
section
set_option Elab.async false
set_option linter.all false
set_option maxRecDepth 100000
set_option maxHeartbeats 4000000
namespace K01
open PySem PySem.Spec PyProof.Rows L2 Zq K02
open C8 (Cal Mak pe_c pe_mk pe_gc)
open IsTh (to)
local macro_rules | `(tactic| walk_at "zq") => `(tactic| first
  | with_reducible refine ws_seq ?_
  | with_reducible refine ws_asg ?_
  | (with_reducible apply ws_asgG)
  | with_reducible refine ws_next ?_
  | with_reducible refine ws_ret ?_
  | with_reducible refine ws_if ?_
  | with_reducible refine ws_drop (te := tCall _ _ _ _) ?_
  | with_reducible refine wsx_seq ?_
  | with_reducible refine wsx_asg ?_
  | with_reducible refine wsx_if ?_
  | with_reducible refine wsx_ret ?_
  | with_reducible refine wsx_next ?_
  | with_reducible refine wsx_raise ?_
  | with_reducible refine as_dy ?_
  | ((with_reducible apply we_var); focus rfl)
  | with_reducible refine we_int ?_
  | with_reducible refine we_bl ?_
  | with_reducible refine we_non ?_
  | with_reducible refine we_ty ?_
  | with_reducible refine we_str ?_
  | with_reducible refine we_op2 ?_
  | with_reducible refine we_neg ?_
  | with_reducible refine we_andV ?_
  | with_reducible refine we_orV ?_
  | with_reducible refine we_notV ?_
  | with_reducible refine we_chain ?_
  | with_reducible refine we_cb ?_
  | with_reducible refine tup_pair ?_
  | with_reducible refine tup_three ?_
  | with_reducible refine tup_nil ?_
  | with_reducible refine we_call ?_
  | with_reducible refine we_callD ?_
  | with_reducible refine we_tup ?_
  | refine we_cells (Tx.cl (by assumption)) (Tx.nc (by assumption)) ?_
  | refine we_kinds (Tx.cl (by assumption)) (Tx.nk (by assumption)) ?_
  | with_reducible refine wt_test ?_
  | with_reducible refine wt_B ?_
  | with_reducible refine wt_not ?_
  | with_reducible refine wt_and ?_
  | with_reducible refine wt_or ?_
  | with_reducible refine wt_yes ?_
  | with_reducible refine wa_cons ?_
  | with_reducible refine wa_nil ?_
  | with_reducible refine rr_II ?_
  | with_reducible refine rr_isTrue ?_
  | with_reducible refine rr_notTrue ?_
  | with_reducible refine rr_isN0 ?_
  | with_reducible refine rr_notN0 ?_
  | with_reducible refine rr_isN ?_
  | with_reducible refine rr_notN ?_
  | with_reducible refine rr_neB ?_
  | with_reducible refine rr_isNo ?_
  | with_reducible refine rr_notNo ?_
  | with_reducible refine rr_IB ?_
  | with_reducible refine rr_eqI ?_
  | with_reducible refine rr_neI ?_
  | with_reducible refine rr_eqB ?_
  | with_reducible refine rr_ixP0 ?_
  | with_reducible refine rr_ixP1 ?_
  | with_reducible refine rr_ix30 ?_
  | with_reducible refine rr_ix31 ?_
  | with_reducible refine rr_ix32 ?_
  | with_reducible refine rr_leK ?_
  | with_reducible refine rr_ltK ?_
  | refine rr_eqD ?_
  | refine rr_neD ?_
  | with_reducible refine rr_inT ?_
  | with_reducible refine rr_ninT ?_
  | with_reducible refine rr_inL ?_
  | with_reducible refine rr_ninL ?_
  | with_reducible refine rc_isi kit_ii ?_
  | with_reducible refine rc_isi kit_ib ?_
  | with_reducible refine rc_isi kit_bb ?_
  | with_reducible refine rc_isi kit_tt ?_
  | refine rc_isInt (Tx.isi (by assumption)) ?_
  | refine rc_isBl (Tx.isi (by assumption)) ?_
  | refine rc_isTup (Tx.isi (by assumption)) ?_
  | refine rc_isStr (Tx.isi (by assumption)) ?_
  | with_reducible refine rc_lenL ?_
  | with_reducible refine rc_lenT ?_
  | with_reducible refine rc_lenP ?_
  | with_reducible refine rc_tupL ?_
  | refine rc_lenM rfl ?_
  | refine rc_tupM rfl ?_
  | ((with_reducible apply rr_inM); focus rfl)
  | ((with_reducible apply rr_ninM); focus rfl)
  | with_reducible apply wg_setM
  | refine ex_l rfl ?_
  | refine ex_d rfl ?_
  | with_reducible refine rc_int ?_
  | with_reducible refine rc_abs ?_
  | with_reducible refine rc_min2 ?_
  | with_reducible refine rc_all ?_
  | with_reducible refine rc_any ?_
  | with_reducible refine wg_name ?_
  | (apply wg_tup2)
  | (apply wg_tup3))
local macro_rules | `(tactic| walk_at "zqs") => `(tactic| repeat walk_at "zq")
local macro_rules | `(tactic| walk_at "zok1") => `(tactic| first
  | exact trivial
  | exact dy_ok _ _
  | exact cLst_ok _ _
  | exact cDic_ok _ _
  | exact hand_ok _
  | exact handX_ok
  | exact okM_nil
  | exact okE_nil
  | exact okDs_nil
  | refine okM_cons ?_ ?_
  | refine okDs_cons ?_ ?_
  | refine okE_none ?_
  | refine okE_cons ?_ ?_
  | exact mr_ok (Nat.le_of_ble_eq_true rfl)
  | exact Free.l _ _
  | exact Free.k _ _
  | exact Free.ok _ _
  | exact Frg.refl _
  | exact Frg.nil
  | refine Frg.same ?_
  | refine Frg.drop ?_)
local macro_rules | `(tactic| walk_at "zok") => `(tactic| repeat walk_at "zok1")
local macro_rules | `(tactic| walk_at "zcut") => `(tactic| exact Cut.mk (by walk_at "zok") (by walk_at "zok") (by walk_at "zok") rfl)
local macro_rules | `(tactic| walk_at "zb") => `(tactic| first
  | with_reducible refine bt_tt ?_
  | with_reducible refine bt_ff ?_
  | with_reducible refine bt_nt ?_
  | with_reducible refine bt_nf ?_
  | with_reducible refine bt_ft ?_
  | with_reducible refine bt_tf ?_
  | with_reducible refine bt_nt' ?_
  | with_reducible refine bt_nf' ?_
  | (with_reducible refine bt_t ?_ ?_
     focus (first | rfl | assumption))
  | (with_reducible refine bt_f ?_ ?_
     focus (first | rfl | assumption))
  | (with_reducible refine bt_t' ?_ ?_
     focus (first | rfl | assumption))
  | (with_reducible refine bt_f' ?_ ?_
     focus (first | rfl | assumption))
  | (refine ca5 ?_ ?_ ?_ ?_ ?_
     focus (first | rfl | decide)
     focus (first | exact Nat.zero_le _ | exact Nat.le_of_ble_eq_true rfl)
     focus (walk_at "zok"; done)
     focus (walk_at "zok"; done))
  | (refine ca3 ?_ ?_ ?_
     focus (walk_at "zok"; done)
     focus (walk_at "zok"; done)))

local macro_rules | `(tactic| walk_at "zu") => `(tactic| first
  | refine u_is_integer ?_
  | refine u_is_integer_th ?_
  | refine u_is_number_below ?_ ?_
  | refine u_is_number_below_th ?_
  | refine u_is_lot ?_
  | refine u_is_lot_of_cells ?_
  | refine u_is_kind ?_
  | refine u__law_is_int ?_ ?_ ?_
  | refine u__law_is_int_th ?_
  | refine u__law_flag ?_
  | refine u__law_history ?_ ?_ ?_
  | refine u__law_draw ?_ ?_ ?_
  | refine u__law_any ?_ ?_ ?_
  | refine u__law_any_th ?_ ?_ ?_
  | refine u__law_kinds ?_ ?_ ?_ ?_ ?_
  | refine u_is_journal ?_ ?_
  | refine u_is_journal_ty ?_ ?_ ?_
  | refine u_check_journal ?_ ?_ ?_
  | refine u_is_version ?_ ?_ ?_
  | refine u_is_plates ?_ ?_ ?_
  | refine u__law_is_lot ?_ ?_
  | refine u__law_is_kind ?_ ?_
  | refine u__law_due ?_ ?_
  | refine u_Table_initC ?_ ?_
  | refine u_Table_eq ?_ ?_
  | refine u__law_told ?_ ?_
  | refine u__law_deep ?_ ?_ ?_
  | refine u__law_odd ?_ ?_
  | refine u__law_table ?_ ?_ ?_
  | refine u__law_journal ?_ ?_ ?_ ?_ ?_
  | refine u__law_versions ?_ ?_ ?_ ?_ ?_
  | refine u__law_bent ?_ ?_ ?_ ?_ ?_ ?_
  | refine u__law_great_right ?_
  | refine u__law_journals_right ?_ ?_
  | refine u_law ?_ ?_)
local macro_rules | `(tactic| walk_at "zs1") => `(tactic| first
  | walk_at "zq"
  | walk_at "zu"
  | walk_at "zb")
local macro_rules | `(tactic| walk_at "zs") => `(tactic| repeat walk_at "zs1")
section
variable {P : Program} {w : World} {c : Cc} {mg : Str → Option Value} {base : Heap}
theorem th_nil : dy (Tp.mk ([] : List Int)) = dy (Th.tup []) := (IsTh.eq (Tp.mk ([] : List Int))).symm
theorem th_tup1 (x : Th) : dy (Tp.mk [x]) = dy (Th.tup [x]) := (th_tup [x]).symm
theorem sc__law_deep : FnScope ["_law_many", "_law_thing", "_law_turn"] ["_law_many"] (defScope s__law_deep) := ⟨rfl, rfl, rfl, by decide +kernel, rfl, by decide +kernel, by decide +kernel⟩
theorem ok__law_deep {f : Addr} {fd : FuncData} (F : Fun c.K "_law_deep" "_law_deep" s__law_deep f fd) (T : Tb mg) (X : Tx c mg)  :
    FnOk P w c.K mg base CX0 1 f fd ["_law_many"] (spOf c 1 0 sp__law_deep) := by
  refine F.ok sc__law_deep (fun vs H Q E h => ?_) (fun cdv A outer s H vs Q E hr h => ?_)
  · obtain ⟨as, F, ds, M, P, _, hn, _, rd, _⟩ := h
    rw [rd.length, hn]; rfl
  · have hu1 : (A.deeper (envOfC "_law_deep" (defScope s__law_deep) s.heap.objs.size f cdv)).units + 1 < cLine := hu_of hr
    have hu8 : (A.deeper (envOfC "_law_deep" (defScope s__law_deep) s.heap.objs.size f cdv)).units + 8 < cLine := by have := hr.un; omega
    have hu16 : (A.deeper (envOfC "_law_deep" (defScope s__law_deep) s.heap.objs.size f cdv)).units + 16 < cLine := by have := hr.un; omega
    have hu64 : (A.deeper (envOfC "_law_deep" (defScope s__law_deep) s.heap.objs.size f cdv)).units + 64 < cLine := by have := hr.un; omega
    have hu65 : (A.deeper (envOfC "_law_deep" (defScope s__law_deep) s.heap.objs.size f cdv)).units + 65 < cLine := by have := hr.un; omega
    refine ⟨_, (pss_cons (ps_set (i := 1) sc__law_deep.nd rfl (Or.inl rfl) (pe_tup pa_nil))
        (pss_cons (ps_for PassesOwn.never rfl (pi_range1 rfl T.b_range (pa_cons (pv 0) pa_nil)) (pg_name (i := 2) sc__law_deep.nd rfl (Or.inl rfl)) (pss_one (ps_set (i := 1) sc__law_deep.nd rfl (Or.inl rfl) (pe_tup (pa_cons (pv 1) pa_nil)))))
        (pss_one (ps_ret (pv 1))))), ?_⟩
    refine body_ok h (by decide) fun ds M R hds hM hS => ?_
    obtain ⟨n, rfl, h0, h1, hP⟩ := hS
    obtain rfl := List.length_eq_zero_iff.mp hM
    show WS c 0 _ [some (dy n), none, none] [] _ _
    walk_at "zs"
    rw [th_nil]
    refine ws_for (S := Th) (β := Int) (ts := [2]) (fun _ s => s.wid 1) (fun s => [some (dy n), some (dy s), none]) (fun _ => []) ?_
    refine wi_range ?_
    walk_at "zs"
    refine ⟨n, rfl, h0, by omega, upto n.toNat, rfl, .tup [], wid_tup.mpr ⟨by decide, fun x h => by simp at h⟩, by walk_at "zcut", fun pre y post s e hJ => ?_, fun s hJ => ?_⟩
    · walk_at "zs"
      refine tup_tp (α := Th) [s] rfl (by simp) ?_
      rw [th_tup1]
      walk_at "zs"
      refine ⟨.tup [s], wid_tup.mpr ⟨by simp, fun x h => ?_⟩, by walk_at "zcut"⟩
      have : x = s := by simpa using h
      rw [this]; exact hJ
    · walk_at "zs"
      exact hP s hJ

theorem sc__law_odd : FnScope ["_law_hand_here", "_law_other", "_law_some"] ["_law_hand_here", "_law_other"] (defScope s__law_odd) := ⟨rfl, rfl, rfl, by decide +kernel, rfl, by decide +kernel, by decide +kernel⟩
theorem ok__law_odd {f : Addr} {fd : FuncData} (F : Fun c.K "_law_odd" "_law_odd" s__law_odd f fd) (T : Tb mg) (X : Tx c mg) (g__law_any : Cal P w c.K mg base 2 "_law_any" (spOf c 2 1 sp__law_any) []) (g__law_deep : Cal P w c.K mg base 1 "_law_deep" (spOf c 1 0 sp__law_deep) []) (g__law_draw : Cal P w c.K mg base 1 "_law_draw" (spOf c 2 1 sp__law_draw) []) :
    FnOk P w c.K mg base CX0 3 f fd ["_law_hand_here", "_law_other"] (spOf c 2 1 sp__law_odd) := by
  refine F.ok sc__law_odd (fun vs H Q E h => ?_) (fun cdv A outer s H vs Q E hr h => ?_)
  · obtain ⟨as, F, ds, M, P, _, hn, _, rd, _⟩ := h
    rw [rd.length, hn]; rfl
  · have hu1 : (A.deeper (envOfC "_law_odd" (defScope s__law_odd) s.heap.objs.size f cdv)).units + 1 < cLine := hu_of hr
    have hu8 : (A.deeper (envOfC "_law_odd" (defScope s__law_odd) s.heap.objs.size f cdv)).units + 8 < cLine := by have := hr.un; omega
    have hu16 : (A.deeper (envOfC "_law_odd" (defScope s__law_odd) s.heap.objs.size f cdv)).units + 16 < cLine := by have := hr.un; omega
    have hu64 : (A.deeper (envOfC "_law_odd" (defScope s__law_odd) s.heap.objs.size f cdv)).units + 64 < cLine := by have := hr.un; omega
    have hu65 : (A.deeper (envOfC "_law_odd" (defScope s__law_odd) s.heap.objs.size f cdv)).units + 65 < cLine := by have := hr.un; omega
    refine ⟨_, (pss_cons (ps_set (i := 2) sc__law_odd.nd rfl (Or.inl rfl) (pe_lst (pa_cons pe_non (pa_cons pe_bl (pa_cons pe_bl (pa_cons (pe_un un_neg pe_int) (pa_cons pe_int (pa_cons pe_int (pa_cons pe_int (pa_cons pe_str (pa_cons (pe_tup pa_nil) (pa_cons (pe_lst pa_nil) (pa_cons pe_dnewK (pa_cons (pe_tup (pa_cons pe_int pa_nil)) (pa_cons (pe_lst (pa_cons pe_int pa_nil)) (pa_cons (pe_tup (pa_cons pe_bl pa_nil)) (pa_cons (pe_tup (pa_cons pe_int (pa_cons pe_int pa_nil))) (pa_cons (pe_op op_pow pe_int pe_int) (pa_cons (pv 1) (pa_cons pe_str (pa_cons (pe_tup (pa_cons pe_non pa_nil)) pa_nil)))))))))))))))))))))
        (pss_one (ps_ret (pe_c g__law_any hr (by decide) rfl (pa_cons (pv 0) (pa_cons (pe_op (r := Zr.rCatL c.K) Zr.op_catL (pv 2) (pe_lst (pa_cons (pe_c g__law_deep hr (by decide) rfl (pa_cons (pe_op op_add pe_int (pe_c g__law_draw hr (by decide) rfl (pa_cons (pv 0) (pa_cons pe_int pa_nil)))) pa_nil)) pa_nil))) pa_nil)))))), ?_⟩
    refine body_ok h (by decide) fun ds M R hds hM hS => ?_
    obtain ⟨t, rfl, rfl, wt, hP⟩ := hS
    show WS c 1 _ [some (dy (MR.mk 0)), some (dy t), none] [cHand] _ _
    walk_at "zs"
    refine we_lst (α := Th) ?_
    walk_at "zs"
    refine we_lst (α := Int) ?_
    walk_at "zs"
    refine ⟨[], rfl, by decide, ?_⟩
    walk_at "zs"
    refine we_dic0 ?_
    walk_at "zs"
    refine tup_tp (α := Int) [0] rfl (by decide) ?_
    walk_at "zs"
    refine we_lst (α := Int) ?_
    walk_at "zs"
    refine ⟨[0], rfl, by decide, ?_⟩
    walk_at "zs"
    refine tup_tp (α := Bool) [true] rfl (by decide) ?_
    walk_at "zs"
    refine rr_pow ?_ ⟨by decide, by decide, by decide⟩
    walk_at "zs"
    refine tup_tp (α := Unit) [()] rfl (by decide) ?_
    walk_at "zs"
    refine ⟨[to (), to true, to false, to (-1 : Int), to (0 : Int), to (1 : Int), to (2 : Int), to ("0" : Str), to (Tp.mk ([] : List Int)), to ([] : List Int), Th.dic, to (Tp.mk [(0 : Int)]), to [(0 : Int)], to (Tp.mk [true]), to ((0 : Int), (0 : Int)), to ((10 : Int) ^ (40 : Int).toNat), to t, to ("" : Str), to (Tp.mk [()])], by simp only [List.map_cons, List.map_nil, IsTh.eq], by simp, ?_⟩
    generalize hxs : [to (), to true, to false, to (-1 : Int), to (0 : Int), to (1 : Int), to (2 : Int), to ("0" : Str), to (Tp.mk ([] : List Int)), to ([] : List Int), Th.dic, to (Tp.mk [(0 : Int)]), to [(0 : Int)], to (Tp.mk [true]), to ((0 : Int), (0 : Int)), to ((10 : Int) ^ (40 : Int).toNat), to t, to ("" : Str), to (Tp.mk [()])] = xs
    have hw : ∀ x, x ∈ xs → x.wid 2 := by
      subst hxs
      intro x hx
      simp only [List.mem_cons, List.not_mem_nil, or_false] at hx
      rcases hx with rfl | rfl | rfl | rfl | rfl | rfl | rfl | rfl | rfl | rfl | rfl | rfl | rfl | rfl | rfl | rfl | rfl | rfl | rfl <;> first | exact wt | simp [IsTh.to, Th.wid, Th.wids]
    have hl : xs.length = 19 := by subst hxs; rfl
    walk_at "zs"
    refine we_lst (α := Th) ?_
    walk_at "zs"
    · intro r r0 r1
      walk_at "zs"
      · intro x hx
        walk_at "zs"
        refine ⟨[x], rfl, by simp, ?_⟩
        walk_at "zs"
        refine rr_catL (by rw [hl]; simp) ?_
        walk_at "zs"
        · intro y hy
          walk_at "zs"
          refine hP y ?_
          rcases List.mem_append.mp hy with z | z
          · exact hw y z
          · have : y = x := by simpa using z
            rw [this]; exact Th.wid_mono (by decide) x hx
        · simp
        · rw [List.length_append, hl]; simp
      · omega
      · omega
    · decide
    · decide

theorem sc__law_table : FnScope ["_law_hand_here", "_law_cells", "_law_many"] ["_law_hand_here", "_law_cells"] (defScope s__law_table) := ⟨rfl, rfl, rfl, by decide +kernel, rfl, by decide +kernel, by decide +kernel⟩
theorem ok__law_table {f : Addr} {fd : FuncData} (F : Fun c.K "_law_table" "_law_table" s__law_table f fd) (T : Tb mg) (X : Tx c mg) (g__law_draw : Cal P w c.K mg base 1 "_law_draw" (spOf c 2 1 sp__law_draw) []) (g__law_kinds : Cal P w c.K mg base 2 "_law_kinds" (spOf c 4 1 sp__law_kinds) []) (g__law_any : Cal P w c.K mg base 2 "_law_any" (spOf c 2 1 sp__law_any) []) :
    FnOk P w c.K mg base CX0 3 f fd ["_law_hand_here", "_law_cells"] (spOf c 2 1 sp__law_table) := by
  refine F.ok sc__law_table (fun vs H Q E h => ?_) (fun cdv A outer s H vs Q E hr h => ?_)
  · obtain ⟨as, F, ds, M, P, _, hn, _, rd, _⟩ := h
    rw [rd.length, hn]; rfl
  · have hu1 : (A.deeper (envOfC "_law_table" (defScope s__law_table) s.heap.objs.size f cdv)).units + 1 < cLine := hu_of hr
    have hu8 : (A.deeper (envOfC "_law_table" (defScope s__law_table) s.heap.objs.size f cdv)).units + 8 < cLine := by have := hr.un; omega
    have hu16 : (A.deeper (envOfC "_law_table" (defScope s__law_table) s.heap.objs.size f cdv)).units + 16 < cLine := by have := hr.un; omega
    have hu64 : (A.deeper (envOfC "_law_table" (defScope s__law_table) s.heap.objs.size f cdv)).units + 64 < cLine := by have := hr.un; omega
    have hu65 : (A.deeper (envOfC "_law_table" (defScope s__law_table) s.heap.objs.size f cdv)).units + 65 < cLine := by have := hr.un; omega
    refine ⟨_, (pss_cons (ps_set (i := 2) sc__law_table.nd rfl (Or.inl rfl) (pe_op op_add pe_int (pe_c g__law_draw hr (by decide) rfl (pa_cons (pv 0) (pa_cons (pv 1) pa_nil)))))
        (pss_one (ps_ret (pe_tup (pa_cons (pv 2) (pa_cons (pe_c g__law_kinds hr (by decide) rfl (pa_cons (pv 0) (pa_cons (pv 2) (pa_cons (pe_c g__law_any hr (by decide) rfl (pa_cons (pv 0) (pa_cons (pe_lst (pa_cons pe_int (pa_cons pe_int (pa_cons pe_int pa_nil)))) pa_nil))) (pa_cons pe_int pa_nil))))) pa_nil)))))), ?_⟩
    refine body_ok h (by decide) fun ds M R hds hM hS => ?_
    obtain ⟨n0, rfl, rfl, g1, g2, hP⟩ := hS
    show WS c 1 _ [some (dy (MR.mk 0)), some (dy n0), none] [cHand] _ _
    walk_at "zs"
    · intro r r0 r1
      walk_at "zs"
      refine we_lst (α := Int) ?_
      walk_at "zs"
      refine ⟨[3, 6, 12], rfl, by decide, ?_⟩
      walk_at "zs"
      · intro m hm
        have m1 : 1 ≤ m ∧ m ≤ 12 := by
          simp only [List.mem_cons, List.not_mem_nil, or_false] at hm
          omega
        walk_at "zs"
        · intro ks hk
          walk_at "zs"
          exact hP _ ks hk
        all_goals omega
      · decide
      · decide
    · exact g1
    · omega

theorem sc__law_journal : FnScope ["_law_hand_here", "_law_kinds_here", "_law_most", "_law_turn"] ["_law_hand_here", "_law_kinds_here", "_law_most"] (defScope s__law_journal) := ⟨rfl, rfl, rfl, by decide +kernel, rfl, by decide +kernel, by decide +kernel⟩
theorem ok__law_journal {f : Addr} {fd : FuncData} (F : Fun c.K "_law_journal" "_law_journal" s__law_journal f fd) (T : Tb mg) (X : Tx c mg) (g__law_draw : Cal P w c.K mg base 1 "_law_draw" (spOf c 2 1 sp__law_draw) []) :
    FnOk P w c.K mg base CX0 2 f fd ["_law_hand_here", "_law_kinds_here", "_law_most"] (spOf c 3 1 sp__law_journal) := by
  refine F.ok sc__law_journal (fun vs H Q E h => ?_) (fun cdv A outer s H vs Q E hr h => ?_)
  · obtain ⟨as, F, ds, M, P, _, hn, _, rd, _⟩ := h
    rw [rd.length, hn]; rfl
  · have hu1 : (A.deeper (envOfC "_law_journal" (defScope s__law_journal) s.heap.objs.size f cdv)).units + 1 < cLine := hu_of hr
    have hu8 : (A.deeper (envOfC "_law_journal" (defScope s__law_journal) s.heap.objs.size f cdv)).units + 8 < cLine := by have := hr.un; omega
    have hu16 : (A.deeper (envOfC "_law_journal" (defScope s__law_journal) s.heap.objs.size f cdv)).units + 16 < cLine := by have := hr.un; omega
    have hu64 : (A.deeper (envOfC "_law_journal" (defScope s__law_journal) s.heap.objs.size f cdv)).units + 64 < cLine := by have := hr.un; omega
    have hu65 : (A.deeper (envOfC "_law_journal" (defScope s__law_journal) s.heap.objs.size f cdv)).units + 65 < cLine := by have := hr.un; omega
    refine ⟨_, (pss_one (ps_ret (pe_callTy (r := Zq.rTup c.K) call_tuple_of (by rfl) T.b_tuple (by decide +kernel) (pa_cons (pe_lc (own := [("_law_turn", 3)]) (g := (gName 3)) rfl sc__law_journal.nd (pi_range1 rfl T.b_range (pa_cons (pe_c g__law_draw hr (by decide) rfl (pa_cons (pv 0) (pa_cons (pe_op op_add (pv 2) pe_int) pa_nil))) pa_nil)) (blkOk_by (N := ["_law_hand_here", "_law_kinds_here", "_law_most", "_law_turn"]) (sc := defScope s__law_journal) (by decide +kernel)) (fun _ _ _ _ _ => (pg_name (i := 3) sc__law_journal.nd rfl (Or.inl rfl))) (fun _ _ _ _ _ => pts_nil) (fun _ _ _ _ _ => (pe_c g__law_draw hr (by decide) rfl (pa_cons (pv 0) (pa_cons (pe_callB (r := Zq.rLen c.K) call_len_seq (by rfl) T.b_len (by decide +kernel) (pa_cons (pv 1) pa_nil)) pa_nil))))) pa_nil)))), ?_⟩
    refine body_ok h (by decide) fun ds M R hds hM hS => ?_
    obtain ⟨ks, most, rfl, rfl, h1, h2, h3, h4, hP⟩ := hS
    show WS c 1 _ [some (dy (MR.mk 0)), some (dy (Tp.mk ks)), some (dy most), none] [cHand] _ _
    walk_at "zs"
    refine we_lcR (β := Int) (γ := Int) [3] (fun _ z => 0 ≤ z ∧ z < (ks.length : Int)) (fun t ht => ht) (by walk_at "zok") ?_
    refine wi_range ?_
    walk_at "zs"
    · intro q q0 q1
      walk_at "zs"
      refine ⟨q, rfl, by omega, by omega, rfl, upto q.toNat, rfl, by rw [upto_len]; omega, fun y' hy' acc => ?_, fun so hso => ?_⟩
      · walk_at "zs"
        refine ⟨rfl, ?_⟩
        walk_at "zs"
        · intro z z0 z1
          exact ⟨z, rfl, rfl, z0, z1⟩
        · show 1 ≤ ((ks.length : Nat) : Int); omega
        · show ((ks.length : Nat) : Int) ≤ _; omega
      have sl := paired_len hso
      rw [upto_len] at sl
      walk_at "zs"
      exact hP so ⟨by omega, fun v hv => paired_r (G := fun z => 0 ≤ z ∧ z < (ks.length : Int)) hso hv⟩ (by omega)
    · omega
    · omega

theorem vall0 (n : Int) (wr : List Int) : VAll n wr 0 ((upto n.toNat).map fun i => [-1 - i]) := by
  refine ⟨vok0 n wr, fun c l h v hv => ?_⟩
  have hc : c < n.toNat := by
    have := (List.getElem?_eq_some_iff.mp h).1
    rwa [List.length_map, upto_len] at this
  rw [List.getElem?_map, upto_get hc] at h
  have h : [-1 - (c : Int)] = l := by simpa using h
  subst h
  rcases hv with rfl | ⟨h1, h2, _⟩
  · simp
  · omega
theorem vall_step {n : Int} {wr : List Int} {m : Nat} {ls : List (List Int)} {x : Int} {l : List Int} (h : VAll n wr m ls) (hx : wr[m]? = some x) (x0 : 0 ≤ x) (hg : ls[x.toNat]? = some l) : VAll n wr (m + 1) (ls.set x.toNat (l ++ [(m : Int)])) := by
  refine ⟨vok_step h.ok hx x0 hg, fun c l' h' v hv => ?_⟩
  rw [List.getElem?_set] at h'
  by_cases e : x.toNat = c
  · rw [if_pos e] at h'
    split at h'
    · injection h' with h'
      subst h'
      rw [e] at hg
      by_cases ev : v = (m : Int)
      · rw [ev]; simp
      · exact List.mem_append.mpr (.inl (h.all c l hg v (hv.imp id fun ⟨a, b, d⟩ => ⟨a, by omega, d⟩)))
    · cases h'
  · rw [if_neg e] at h'
    refine h.all c l' h' v (hv.imp id fun ⟨a, b, d⟩ => ⟨a, ?_, d⟩)
    by_cases ev : v = (m : Int)
    · subst ev
      rw [Int.toNat_natCast, hx] at d
      injection d with d
      omega
    · omega
theorem sc__law_versions : FnScope ["_law_cells", "_law_written", "_law_found", "_law_deed", "_law_cell"] ["_law_cells", "_law_written"] (defScope s__law_versions) := ⟨rfl, rfl, rfl, by decide +kernel, rfl, by decide +kernel, by decide +kernel⟩
theorem ok__law_versions {f : Addr} {fd : FuncData} (F : Fun c.K "_law_versions" "_law_versions" s__law_versions f fd) (T : Tb mg) (X : Tx c mg)  :
    FnOk P w c.K mg base CX0 1 f fd ["_law_cells", "_law_written"] (spOf c 2 0 sp__law_versions) := by
  refine F.ok sc__law_versions (fun vs H Q E h => ?_) (fun cdv A outer s H vs Q E hr h => ?_)
  · obtain ⟨as, F, ds, M, P, _, hn, _, rd, _⟩ := h
    rw [rd.length, hn]; rfl
  · have hu1 : (A.deeper (envOfC "_law_versions" (defScope s__law_versions) s.heap.objs.size f cdv)).units + 1 < cLine := hu_of hr
    have hu8 : (A.deeper (envOfC "_law_versions" (defScope s__law_versions) s.heap.objs.size f cdv)).units + 8 < cLine := by have := hr.un; omega
    have hu16 : (A.deeper (envOfC "_law_versions" (defScope s__law_versions) s.heap.objs.size f cdv)).units + 16 < cLine := by have := hr.un; omega
    have hu64 : (A.deeper (envOfC "_law_versions" (defScope s__law_versions) s.heap.objs.size f cdv)).units + 64 < cLine := by have := hr.un; omega
    have hu65 : (A.deeper (envOfC "_law_versions" (defScope s__law_versions) s.heap.objs.size f cdv)).units + 65 < cLine := by have := hr.un; omega
    refine ⟨_, (pss_cons (ps_setLc (i := 2) (own := [("_law_cell", 4)]) (g := (gName 4)) rfl sc__law_versions.nd rfl rfl (sw_true rfl rfl rfl (by decide +kernel)) (pi_range1 rfl T.b_range (pa_cons (pv 0) pa_nil)) (blkOk_by (N := ["_law_cells", "_law_written", "_law_found", "_law_deed", "_law_cell"]) (sc := defScope s__law_versions) (by decide +kernel)) (fun _ _ _ _ _ => (pg_name (i := 4) sc__law_versions.nd rfl (Or.inl rfl))) (fun _ _ _ _ _ => pts_nil) (fun _ _ _ _ _ => (pe_lst (pa_cons (pe_op op_sub (pe_un un_neg pe_int) (pv 4)) pa_nil))))
        (pss_cons (ps_for PassesOwn.never rfl (pi_enum rfl T.b_enumerate (pa_cons (pv 1) pa_nil)) (pg_tup rfl (pgs_cons (pg_name (i := 3) sc__law_versions.nd rfl (Or.inl rfl)) (pgs_cons (pg_name (i := 4) sc__law_versions.nd rfl (Or.inl rfl)) pgs_nil))) (pss_one (ps_expr (pe_bm PySem.F.plainAttrs_list PySem.F.slot_list_append PySem.F.type_list_append mt_append (pe_ix (r := rIxL c.K) ix_list (pv 2) (pv 4) (fun _ _ => rfl)) (pa_cons (pv 3) pa_nil)))))
        (pss_one (ps_ret (pv 2))))), ?_⟩
    refine body_ok h (by decide) fun ds M R hds hM hS => ?_
    obtain ⟨n, wr, rfl, n1, n8, wl, wb, hP⟩ := hS
    obtain rfl := List.length_eq_zero_iff.mp hM
    show WS c 0 _ [some (dy n), some (dy wr), none, none, none] [] _ _
    walk_at "zs"
    refine we_lcN (β := Int) (γ := Int) [4] (fun i => [-1 - i]) (fun t ht => ht) ?_
    refine wi_range ?_
    walk_at "zs"
    refine ⟨n, rfl, by omega, by omega, rfl, upto n.toNat, rfl, by rw [upto_len]; omega, fun y hy N => ?_, ?_⟩
    · walk_at "zs"
      refine we_lstC (α := Int) ?_
      walk_at "zs"
      exact ⟨[-1 - y], rfl, by simp, rfl, rfl⟩
    rw [upto_len]
    walk_at "zs"
    refine ws_for (β := Int × Int) (S := List (List Int)) (ts := [3] ++ [4]) (fun pre ls => VAll n wr pre.length ls) (fun _ => [some (dy n), some (dy wr), some (dy (MR.mk 0)), none, none]) (fun ls => mVers n.toNat ls) ?_
    refine wi_enumL (α := Int) ?_
    walk_at "zs"
    have hN : (([] : Mem) ++ [cLst (mrs ([] : Mem).length n.toNat)] ++ List.map (fun y => cLst [-1 - y]) (upto n.toNat)).length = n.toNat + 1 := by
      simp only [List.length_append, List.length_cons, List.length_nil, List.length_map, upto_len]; omega
    rw [hN]
    have hv0 := vall0 n wr
    refine ⟨wr, rfl, nums wr, rfl, (upto n.toNat).map fun i => [-1 - i], hv0, ?_, fun pre y post ls e hJ => ?_, fun ls hJ => ?_⟩
    · have e9 : (([] : Mem) ++ [cLst (mrs ([] : Mem).length n.toNat)] ++ List.map (fun y => cLst [-1 - y]) (upto n.toNat)) = mVers n.toNat ((upto n.toNat).map fun i => [-1 - i]) := by unfold mVers; rw [List.map_map]; rfl
      rw [e9]
      exact cut_vers hv0.ok.len (by walk_at "zok") (by walk_at "zok")
    · obtain ⟨h1, h2, h3, hm⟩ := nums_split e
      have xb := wb _ hm
      have ll := hJ.ok.len
      have hxl : y.2.toNat < ls.length := by omega
      have hg := List.getElem?_eq_getElem hxl
      generalize ls[y.2.toNat] = l at hg
      have la := hJ.ok.at_ _ _ hg
      walk_at "zs"
      refine ws_app (α := Int) ?_
      walk_at "zs"
      refine rr_ixM (xs := mrs 0 n.toNat) rfl xb.1 (mrs_get (by omega)) ?_
      walk_at "zs"
      refine ⟨l, mVers_get hg, ?_⟩
      walk_at "zs"
      refine ⟨l, mVers_get hg, by omega, ls.set y.2.toNat (l ++ [y.1]), ?_, ?_⟩
      · rw [h1, List.length_append]
        exact vall_step hJ h3 xb.1 hg
      · show Zq.Cut _ _ ((mVers n.toNat ls).set (0 + 1 + y.2.toNat) (cLst (l ++ [y.1]))) _ _
        rw [mVers_set]
        exact cut_vers (by rw [List.length_set]; exact ll) (by walk_at "zok") (by walk_at "zok")
    · rw [nums_len] at hJ
      refine ws_retF ?_
      walk_at "zs"
      exact ⟨_, melt_vers hJ.ok.len, trivial, hP ls hJ⟩

end
end K01
end
section
set_option Elab.async false
set_option linter.all false
set_option maxRecDepth 100000
set_option maxHeartbeats 4000000
namespace K01
open PySem PySem.Spec PyProof.Rows L2 Zq K02
open C8 (Cal Mak pe_c pe_mk pe_gc)
open IsTh (to)
local macro_rules | `(tactic| walk_at "zq") => `(tactic| first
  | with_reducible refine ws_seq ?_
  | with_reducible refine ws_asg ?_
  | (with_reducible apply ws_asgG)
  | with_reducible refine ws_next ?_
  | with_reducible refine ws_ret ?_
  | with_reducible refine ws_if ?_
  | with_reducible refine ws_drop (te := tCall _ _ _ _) ?_
  | with_reducible refine wsx_seq ?_
  | with_reducible refine wsx_asg ?_
  | with_reducible refine wsx_if ?_
  | with_reducible refine wsx_ret ?_
  | with_reducible refine wsx_next ?_
  | with_reducible refine wsx_raise ?_
  | with_reducible refine as_dy ?_
  | ((with_reducible apply we_var); focus rfl)
  | with_reducible refine we_int ?_
  | with_reducible refine we_bl ?_
  | with_reducible refine we_non ?_
  | with_reducible refine we_ty ?_
  | with_reducible refine we_str ?_
  | with_reducible refine we_op2 ?_
  | with_reducible refine we_neg ?_
  | with_reducible refine we_andV ?_
  | with_reducible refine we_orV ?_
  | with_reducible refine we_notV ?_
  | with_reducible refine we_chain ?_
  | with_reducible refine we_cb ?_
  | with_reducible refine tup_pair ?_
  | with_reducible refine tup_three ?_
  | with_reducible refine tup_nil ?_
  | with_reducible refine we_call ?_
  | with_reducible refine we_callD ?_
  | with_reducible refine we_tup ?_
  | refine we_cells (Tx.cl (by assumption)) (Tx.nc (by assumption)) ?_
  | refine we_kinds (Tx.cl (by assumption)) (Tx.nk (by assumption)) ?_
  | with_reducible refine wt_test ?_
  | with_reducible refine wt_B ?_
  | with_reducible refine wt_not ?_
  | with_reducible refine wt_and ?_
  | with_reducible refine wt_or ?_
  | with_reducible refine wt_yes ?_
  | with_reducible refine wa_cons ?_
  | with_reducible refine wa_nil ?_
  | with_reducible refine rr_II ?_
  | with_reducible refine rr_isTrue ?_
  | with_reducible refine rr_notTrue ?_
  | with_reducible refine rr_isN0 ?_
  | with_reducible refine rr_notN0 ?_
  | with_reducible refine rr_isN ?_
  | with_reducible refine rr_notN ?_
  | with_reducible refine rr_neB ?_
  | with_reducible refine rr_isNo ?_
  | with_reducible refine rr_notNo ?_
  | with_reducible refine rr_IB ?_
  | with_reducible refine rr_eqI ?_
  | with_reducible refine rr_neI ?_
  | with_reducible refine rr_eqB ?_
  | with_reducible refine rr_ixP0 ?_
  | with_reducible refine rr_ixP1 ?_
  | with_reducible refine rr_ix30 ?_
  | with_reducible refine rr_ix31 ?_
  | with_reducible refine rr_ix32 ?_
  | with_reducible refine rr_leK ?_
  | with_reducible refine rr_ltK ?_
  | refine rr_eqD ?_
  | refine rr_neD ?_
  | with_reducible refine rr_inT ?_
  | with_reducible refine rr_ninT ?_
  | with_reducible refine rr_inL ?_
  | with_reducible refine rr_ninL ?_
  | with_reducible refine rc_isi kit_ii ?_
  | with_reducible refine rc_isi kit_ib ?_
  | with_reducible refine rc_isi kit_bb ?_
  | with_reducible refine rc_isi kit_tt ?_
  | refine rc_isInt (Tx.isi (by assumption)) ?_
  | refine rc_isBl (Tx.isi (by assumption)) ?_
  | refine rc_isTup (Tx.isi (by assumption)) ?_
  | refine rc_isStr (Tx.isi (by assumption)) ?_
  | with_reducible refine rc_lenL ?_
  | with_reducible refine rc_lenT ?_
  | with_reducible refine rc_lenP ?_
  | with_reducible refine rc_tupL ?_
  | refine rc_lenM rfl ?_
  | refine rc_tupM rfl ?_
  | ((with_reducible apply rr_inM); focus rfl)
  | ((with_reducible apply rr_ninM); focus rfl)
  | with_reducible apply wg_setM
  | refine ex_l rfl ?_
  | refine ex_d rfl ?_
  | with_reducible refine rc_int ?_
  | with_reducible refine rc_abs ?_
  | with_reducible refine rc_min2 ?_
  | with_reducible refine rc_all ?_
  | with_reducible refine rc_any ?_
  | with_reducible refine wg_name ?_
  | (apply wg_tup2)
  | (apply wg_tup3))
local macro_rules | `(tactic| walk_at "zqs") => `(tactic| repeat walk_at "zq")
local macro_rules | `(tactic| walk_at "zok1") => `(tactic| first
  | exact trivial
  | exact dy_ok _ _
  | exact cLst_ok _ _
  | exact cDic_ok _ _
  | exact hand_ok _
  | exact handX_ok
  | exact okM_nil
  | exact okE_nil
  | exact okDs_nil
  | refine okM_cons ?_ ?_
  | refine okDs_cons ?_ ?_
  | refine okE_none ?_
  | refine okE_cons ?_ ?_
  | exact mr_ok (Nat.le_of_ble_eq_true rfl)
  | exact Free.l _ _
  | exact Free.k _ _
  | exact Free.ok _ _
  | exact Frg.refl _
  | exact Frg.nil
  | refine Frg.same ?_
  | refine Frg.drop ?_)
local macro_rules | `(tactic| walk_at "zok") => `(tactic| repeat walk_at "zok1")
local macro_rules | `(tactic| walk_at "zcut") => `(tactic| exact Cut.mk (by walk_at "zok") (by walk_at "zok") (by walk_at "zok") rfl)
local macro_rules | `(tactic| walk_at "zb") => `(tactic| first
  | with_reducible refine bt_tt ?_
  | with_reducible refine bt_ff ?_
  | with_reducible refine bt_nt ?_
  | with_reducible refine bt_nf ?_
  | with_reducible refine bt_ft ?_
  | with_reducible refine bt_tf ?_
  | with_reducible refine bt_nt' ?_
  | with_reducible refine bt_nf' ?_
  | (with_reducible refine bt_t ?_ ?_
     focus (first | rfl | assumption))
  | (with_reducible refine bt_f ?_ ?_
     focus (first | rfl | assumption))
  | (with_reducible refine bt_t' ?_ ?_
     focus (first | rfl | assumption))
  | (with_reducible refine bt_f' ?_ ?_
     focus (first | rfl | assumption))
  | (refine ca5 ?_ ?_ ?_ ?_ ?_
     focus (first | rfl | decide)
     focus (first | exact Nat.zero_le _ | exact Nat.le_of_ble_eq_true rfl)
     focus (walk_at "zok"; done)
     focus (walk_at "zok"; done))
  | (refine ca3 ?_ ?_ ?_
     focus (walk_at "zok"; done)
     focus (walk_at "zok"; done)))

local macro_rules | `(tactic| walk_at "zu") => `(tactic| first
  | refine u_is_integer ?_
  | refine u_is_integer_th ?_
  | refine u_is_number_below ?_ ?_
  | refine u_is_number_below_th ?_
  | refine u_is_lot ?_
  | refine u_is_lot_of_cells ?_
  | refine u_is_kind ?_
  | refine u__law_is_int ?_ ?_ ?_
  | refine u__law_is_int_th ?_
  | refine u__law_flag ?_
  | refine u__law_history ?_ ?_ ?_
  | refine u__law_draw ?_ ?_ ?_
  | refine u__law_any ?_ ?_ ?_
  | refine u__law_any_th ?_ ?_ ?_
  | refine u__law_kinds ?_ ?_ ?_ ?_ ?_
  | refine u_is_journal ?_ ?_
  | refine u_is_journal_ty ?_ ?_ ?_
  | refine u_check_journal ?_ ?_ ?_
  | refine u_is_version ?_ ?_ ?_
  | refine u_is_plates ?_ ?_ ?_
  | refine u__law_is_lot ?_ ?_
  | refine u__law_is_kind ?_ ?_
  | refine u__law_due ?_ ?_
  | refine u_Table_initC ?_ ?_
  | refine u_Table_eq ?_ ?_
  | refine u__law_told ?_ ?_
  | refine u__law_deep ?_ ?_ ?_
  | refine u__law_odd ?_ ?_
  | refine u__law_table ?_ ?_ ?_
  | refine u__law_journal ?_ ?_ ?_ ?_ ?_
  | refine u__law_versions ?_ ?_ ?_ ?_ ?_
  | refine u__law_bent ?_ ?_ ?_ ?_ ?_ ?_
  | refine u__law_great_right ?_
  | refine u__law_journals_right ?_ ?_
  | refine u_law ?_ ?_)
local macro_rules | `(tactic| walk_at "zs1") => `(tactic| first
  | walk_at "zq"
  | walk_at "zu"
  | walk_at "zb")
local macro_rules | `(tactic| walk_at "zs") => `(tactic| repeat walk_at "zs1")
section
variable {P : Program} {w : World} {c : Cc} {mg : Str → Option Value} {base : Heap}
theorem sc__law_bent : FnScope ["_law_hand_here", "_law_cells", "_law_kinds_here", "_law_odd_here", "_law_at", "_law_way", "_law_kind", "_law_reads", "_law_some", "_law_more"] ["_law_hand_here", "_law_cells", "_law_kinds_here", "_law_odd_here"] (defScope s__law_bent) := ⟨rfl, rfl, rfl, by decide +kernel, rfl, by decide +kernel, by decide +kernel⟩
theorem ok__law_bent {f : Addr} {fd : FuncData} (F : Fun c.K "_law_bent" "_law_bent" s__law_bent f fd) (T : Tb mg) (X : Tx c mg) (g__law_draw : Cal P w c.K mg base 1 "_law_draw" (spOf c 2 1 sp__law_draw) []) (g__law_any : Cal P w c.K mg base 2 "_law_any" (spOf c 2 1 sp__law_any) []) :
    FnOk P w c.K mg base CX0 3 f fd ["_law_hand_here", "_law_cells", "_law_kinds_here", "_law_odd_here"] (spOf c 4 1 sp__law_bent) := by
  refine F.ok sc__law_bent (fun vs H Q E h => ?_) (fun cdv A outer s H vs Q E hr h => ?_)
  · obtain ⟨as, F, ds, M, P, _, hn, _, rd, _⟩ := h
    rw [rd.length, hn]; rfl
  · have hu1 : (A.deeper (envOfC "_law_bent" (defScope s__law_bent) s.heap.objs.size f cdv)).units + 1 < cLine := hu_of hr
    have hu8 : (A.deeper (envOfC "_law_bent" (defScope s__law_bent) s.heap.objs.size f cdv)).units + 8 < cLine := by have := hr.un; omega
    have hu16 : (A.deeper (envOfC "_law_bent" (defScope s__law_bent) s.heap.objs.size f cdv)).units + 16 < cLine := by have := hr.un; omega
    have hu64 : (A.deeper (envOfC "_law_bent" (defScope s__law_bent) s.heap.objs.size f cdv)).units + 64 < cLine := by have := hr.un; omega
    have hu65 : (A.deeper (envOfC "_law_bent" (defScope s__law_bent) s.heap.objs.size f cdv)).units + 65 < cLine := by have := hr.un; omega
    refine ⟨_, (pss_cons (ps_if (PW.pt (pw_or (pt_not (pt_val (pe_callB (r := rIsi c.K) call_isi (by rfl) T.b_isinstance (by decide +kernel) (pa_cons (pv 2) (pa_cons (pe_bltn (v := .ty "tuple") rfl T.b_tuple (by decide +kernel) rfl) pa_nil))))) (pw_or1 (pt_cmpR op_eq (pe_callB (r := Zq.rLen c.K) call_len_seq (by rfl) T.b_len (by decide +kernel) (pa_cons (pv 2) pa_nil)) pe_int (nomark _))))) (pss_one (ps_ret (pe_tup (pa_cons (pv 1) (pa_cons (pv 3) pa_nil))))) pss_nil)
        (pss_cons (ps_set (i := 4) sc__law_bent.nd rfl (Or.inl rfl) (pe_c g__law_draw hr (by decide) rfl (pa_cons (pv 0) (pa_cons (pe_callB (r := Zq.rLen c.K) call_len_seq (by rfl) T.b_len (by decide +kernel) (pa_cons (pv 2) pa_nil)) pa_nil))))
        (pss_cons (ps_set (i := 5) sc__law_bent.nd rfl (Or.inl rfl) (pe_c g__law_draw hr (by decide) rfl (pa_cons (pv 0) (pa_cons pe_int pa_nil))))
        (pss_cons (ps_if (pt_cmpR op_eq (pv 5) pe_int (nomark _)) (pss_one (ps_ret (pe_tup (pa_cons (pe_c g__law_any hr (by decide) rfl (pa_cons (pv 0) (pa_cons (pe_lst (pa_cons pe_int (pa_cons pe_int (pa_cons pe_int (pa_cons (pe_un un_neg pe_int) (pa_cons pe_bl (pa_cons pe_non (pa_cons pe_str (pa_cons (pe_tup (pa_cons pe_int pa_nil)) (pa_cons (pv 3) pa_nil)))))))))) pa_nil))) (pa_cons (pv 2) pa_nil))))) pss_nil)
        (pss_cons (ps_if (pt_cmpR op_eq (pv 5) pe_int (nomark _)) (pss_one (ps_ret (pe_tup (pa_cons (pv 1) (pa_cons (pe_c g__law_any hr (by decide) rfl (pa_cons (pv 0) (pa_cons (pe_lst (pa_cons (pe_tup pa_nil) (pa_cons (pe_callTy (r := Zq.rLst c.K) call_list_of (by rfl) T.b_list (by decide +kernel) (pa_cons (pv 2) pa_nil)) (pa_cons (Zr.pe_revT (pv 2)) (pa_cons (pe_op (r := rCatA c.K) op_catA (pv 2) (pe_slice (r := rSlA c.K) sl_tupA (pv 2) (po_some (pe_un un_neg pe_int)) po_none)) (pa_cons (pe_op (r := rCatA c.K) op_catA (pe_slice (r := rSlA c.K) sl_tupA (pv 2) (po_some (pv 4)) po_none) (pe_slice (r := rSlA c.K) sl_tupA (pv 2) po_none (po_some (pv 4)))) (pa_cons (pv 3) pa_nil))))))) pa_nil))) pa_nil))))) pss_nil)
        (pss_cons (ps_set (i := 6) sc__law_bent.nd rfl (Or.inl rfl) (pe_ix (r := rIxT c.K) ix_tup (pv 2) (pv 4) (fun _ _ => rfl)))
        (pss_cons (ps_if (PW.pt (pw_or (pt_cmpR op_eq (pv 5) pe_int (nomark _)) (pw_or (pt_not (pt_val (pe_callB (r := rIsi c.K) call_isi (by rfl) T.b_isinstance (by decide +kernel) (pa_cons (pv 6) (pa_cons (pe_bltn (v := .ty "tuple") rfl T.b_tuple (by decide +kernel) rfl) pa_nil))))) (pw_or (pt_cmpR op_ne (pe_callB (r := Zq.rLen c.K) call_len_seq (by rfl) T.b_len (by decide +kernel) (pa_cons (pv 6) pa_nil)) pe_int (nomark _)) (pw_or1 (pt_not (pt_val (pe_callB (r := rIsi c.K) call_isi (by rfl) T.b_isinstance (by decide +kernel) (pa_cons (pe_ix (r := rIxT c.K) ix_tup (pv 6) pe_int (fun _ _ => rfl)) (pa_cons (pe_bltn (v := .ty "tuple") rfl T.b_tuple (by decide +kernel) rfl) pa_nil)))))))))) (pss_one (ps_ret (pe_tup (pa_cons (pv 1) (pa_cons (pe_op (r := rCatA c.K) op_catA (pe_op (r := rCatA c.K) op_catA (pe_slice (r := rSlA c.K) sl_tupA (pv 2) po_none (po_some (pv 4))) (pe_tup (pa_cons (pv 3) pa_nil))) (pe_slice (r := rSlA c.K) sl_tupA (pv 2) (po_some (pe_op op_add (pv 4) pe_int)) po_none)) pa_nil))))) pss_nil)
        (pss_cons (ps_set (i := 7) sc__law_bent.nd rfl (Or.inl rfl) (pe_ix (r := rIxT c.K) ix_tup (pv 6) pe_int (fun _ _ => rfl)))
        (pss_cons (ps_set (i := 8) sc__law_bent.nd rfl (Or.inl rfl) (pe_lst (pa_cons (pe_op (r := rCatA c.K) op_catA (pv 7) (pe_tup (pa_cons pe_int pa_nil))) (pa_cons (Zr.pe_revT (pv 7)) (pa_cons (pe_op (r := rCatA c.K) op_catA (pv 7) (pe_slice (r := rSlA c.K) sl_tupA (pv 7) (po_some (pe_un un_neg pe_int)) po_none)) (pa_cons (pe_tup (pa_cons pe_int (pa_cons pe_int (pa_cons pe_int (pa_cons pe_int pa_nil))))) (pa_cons (pe_callTy (r := Zq.rLst c.K) call_list_of (by rfl) T.b_list (by decide +kernel) (pa_cons (pv 7) pa_nil)) (pa_cons (pv 3) (pa_cons (pe_op (r := rCatA c.K) op_catA (pv 7) (pe_tup (pa_cons pe_bl pa_nil))) pa_nil)))))))))
        (pss_cons (ps_set (i := 8) sc__law_bent.nd rfl (Or.inl rfl) (pe_op (r := Zr.rCatL c.K) Zr.op_catL (pv 8) (pe_lst (pa_cons (pe_op (r := rCatA c.K) op_catA (pe_tup (pa_cons (pe_un un_neg pe_int) pa_nil)) (pv 7)) pa_nil))))
        (pss_cons (ps_set (i := 9) sc__law_bent.nd rfl (Or.inl rfl) (pe_lst (pa_cons (pe_tup (pa_cons (pe_ix (r := rIxT c.K) ix_tup (pv 6) pe_int (fun _ _ => rfl)) (pa_cons (pe_c g__law_any hr (by decide) rfl (pa_cons (pv 0) (pa_cons (pv 8) pa_nil))) pa_nil))) (pa_cons (pe_tup (pa_cons (pe_c g__law_any hr (by decide) rfl (pa_cons (pv 0) (pa_cons (pe_lst (pa_cons pe_int (pa_cons (pe_un un_neg pe_int) (pa_cons pe_bl (pa_cons (pv 3) pa_nil))))) pa_nil))) (pa_cons (pv 7) pa_nil))) (pa_cons (pe_op (r := rCatA c.K) op_catA (pv 6) (pe_tup (pa_cons (pe_tup pa_nil) pa_nil))) (pa_cons (pe_callTy (r := Zq.rLst c.K) call_list_of (by rfl) T.b_list (by decide +kernel) (pa_cons (pv 6) pa_nil)) pa_nil))))))
        (pss_one (ps_ret (pe_tup (pa_cons (pv 1) (pa_cons (pe_op (r := rCatA c.K) op_catA (pe_op (r := rCatA c.K) op_catA (pe_slice (r := rSlA c.K) sl_tupA (pv 2) po_none (po_some (pv 4))) (pe_tup (pa_cons (pe_c g__law_any hr (by decide) rfl (pa_cons (pv 0) (pa_cons (pv 9) pa_nil))) pa_nil))) (pe_slice (r := rSlA c.K) sl_tupA (pv 2) (po_some (pe_op op_add (pv 4) pe_int)) po_none)) pa_nil)))))))))))))))), ?_⟩
    refine body_ok h (by decide) fun ds M R hds hM hS => ?_
    obtain ⟨x, k, od, B, rfl, rfl, b3, b5, wx, wk, wo, hP⟩ := hS
    have wo' := Th.wid_mono (show B ≤ B + 1 by omega) od wo
    have wx' := Th.wid_mono (show B ≤ B + 1 by omega) x wx
    have wk' := Th.wid_mono (show B ≤ B + 1 by omega) k wk
    have hO := hP x od wx' wo'
    show WS c 1 _ [some (dy (MR.mk 0)), some (dy x), some (dy k), some (dy od), none, none, none, none, none, none] [cHand] _ _
    cases k with
    | tup l =>
      rw [th_tup]
      walk_at "zs"
      by_cases h0 : l.length = 0
      · have e1 : decide (((l.length : Nat) : Int) = 0) = true := decide_eq_true (by omega)
        walk_at "zs"
        exact hO
      have e1 : decide (((l.length : Nat) : Int) = 0) = false := decide_eq_false (by omega)
      have fl := fit_tup.mp wk
      have fl' := fit_tup.mp wk'
      have ll := fl.1
      have lne : l ≠ [] := fun h => h0 (by rw [h]; rfl)
      walk_at "zs"
      · intro at_ a0 a1
        have ha : at_.toNat < l.length := by have : at_ < ((l.length : Nat) : Int) := a1; omega
        walk_at "zs"
        · intro way w0 w1
          walk_at "zs"
          refine ⟨fun q => ?_, fun q => ?_⟩
          · walk_at "zs"
            refine we_lst (α := Th) ?_
            walk_at "zs"
            refine tup_tp (α := Int) [2] rfl (by simp) ?_
            walk_at "zs"
            refine ⟨[.int 0, .int 9, .int 8, .int (-1), .bl true, .non, .str "2", .tup [.int 2], od], by simp only [List.map_cons, List.map_nil, th_int, th_bl, th_non, th_str, th_tup]; rw [show (Tp.mk [Th.int 2]) = Tp.mk ([2].map Th.int) from rfl, th_tints], by simp, ?_⟩
            walk_at "zs"
            · intro r hr
              walk_at "zs"
              rw [dy_pair (rfl : dy r = dy r) (th_mk l)]
              refine hP r (.tup l) ?_ wk'
              simp only [List.mem_cons, List.not_mem_nil, or_false] at hr
              rcases hr with rfl | rfl | rfl | rfl | rfl | rfl | rfl | rfl | rfl <;> first | exact wo' | exact fit_one (by omega) (wid_int _) | simp [Th.wid]
            · simp
            · simp
          · walk_at "zs"
            refine ⟨fun q => ?_, fun q => ?_⟩
            · walk_at "zs"
              refine we_lst (α := Th) ?_
              walk_at "zs"
              refine rc_lstTF ?_
              walk_at "zs"
              refine we_revT (α := Th) ?_
              walk_at "zs"
              refine we_slA (α := Th) ?_
              walk_at "zs"
              refine wo_some ?_
              walk_at "zs"
              refine wo_none ?_
              rw [cut_tail]
              refine rr_catT (by show l.length + (l.drop (l.length - 1)).length ≤ _; rw [List.length_drop]; omega) ?_
              walk_at "zs"
              refine we_slA (α := Th) ?_
              walk_at "zs"
              refine wo_some ?_
              walk_at "zs"
              refine wo_none ?_
              rw [cut_behind l (by omega)]
              walk_at "zs"
              refine we_slA (α := Th) ?_
              walk_at "zs"
              refine wo_none (wo_some ?_)
              walk_at "zs"
              rw [cut_ahead l (by omega)]
              refine rr_catT (by show (l.drop at_.toNat).length + (l.take at_.toNat).length ≤ _; rw [List.length_drop, List.length_take]; omega) ?_
              have p1 := fit_twice fl
              have p2 := fit_turn fl' at_.toNat
              have p3 := fit_rev fl'
              generalize l ++ l.drop (l.length - 1) = l1 at *
              generalize l.drop at_.toNat ++ l.take at_.toNat = l2 at *
              walk_at "zs"
              refine ⟨[.tup [], .lst l, .tup l.reverse, .tup l1, .tup l2, od], by simp only [List.map_cons, List.map_nil, th_tup, th_lst]; rw [show (Tp.mk ([] : List Th)) = Tp.mk (([] : List Int).map Th.int) from rfl, th_tints], by simp, ?_⟩
              walk_at "zs"
              · intro r hr
                walk_at "zs"
                refine hP x r wx' ?_
                simp only [List.mem_cons, List.not_mem_nil, or_false] at hr
                rcases hr with rfl | rfl | rfl | rfl | rfl | rfl <;> first | exact wo' | exact fit_nil | exact fit_tup.mpr p1 | exact fit_tup.mpr p2 | exact fit_tup.mpr p3 | exact wid_lst.mpr fl'
              · simp
              · simp
            · walk_at "zs"
              refine rr_ixT (xs := Tp.mk l) a0 (List.getElem?_eq_getElem ha) ?_
              have wb := fl.2 _ (List.getElem_mem ha)
              generalize l[at_.toNat] = b at wb
              refine ws_seq (ws_if (WT.mono (P := fun t m => m = [cHand] ∧ t = !tf (way ≠ 2 ∧ ∃ a r, b = .tup [a, .tup r])) ?_ ?_))
              · walk_at "zs"
                refine ⟨fun q => ?_, fun q => ?_⟩
                rotate_left
                · walk_at "zs"
                  exact ⟨rfl, by rw [tf_f (fun h => h.1 (of_decide_eq_true q))]; rfl⟩
                · walk_at "zs"
                  have q0 : way ≠ 2 := of_decide_eq_false q
                  cases b with
                  | tup bl =>
                    rw [th_tup]
                    walk_at "zs"
                    match bl with
                    | [a, .tup r] =>
                      walk_at "zs"
                      refine rr_ixT (xs := Tp.mk [a, .tup r]) (by decide) rfl ?_
                      walk_at "zs"
                      exact ⟨rfl, by rw [tf_t ⟨q0, a, r, rfl⟩]; rfl⟩
                    | [a, .non] => walk_at "zs"; refine rr_ixT (xs := Tp.mk [a, .non]) (by decide) rfl ?_; walk_at "zs"; exact ⟨rfl, by rw [tf_f (fun ⟨_, a, r, h⟩ => by cases h)]; rfl⟩
                    | [a, .bl z] => walk_at "zs"; refine rr_ixT (xs := Tp.mk [a, .bl z]) (by decide) rfl ?_; walk_at "zs"; exact ⟨rfl, by rw [tf_f (fun ⟨_, a, r, h⟩ => by cases h)]; rfl⟩
                    | [a, .int z] => walk_at "zs"; refine rr_ixT (xs := Tp.mk [a, .int z]) (by decide) rfl ?_; walk_at "zs"; exact ⟨rfl, by rw [tf_f (fun ⟨_, a, r, h⟩ => by cases h)]; rfl⟩
                    | [a, .str z] => walk_at "zs"; refine rr_ixT (xs := Tp.mk [a, .str z]) (by decide) rfl ?_; walk_at "zs"; exact ⟨rfl, by rw [tf_f (fun ⟨_, a, r, h⟩ => by cases h)]; rfl⟩
                    | [a, .lst z] => walk_at "zs"; refine rr_ixT (xs := Tp.mk [a, .lst z]) (by decide) rfl ?_; walk_at "zs"; exact ⟨rfl, by rw [tf_f (fun ⟨_, a, r, h⟩ => by cases h)]; rfl⟩
                    | [a, .dic] => walk_at "zs"; refine rr_ixT (xs := Tp.mk [a, .dic]) (by decide) rfl ?_; walk_at "zs"; exact ⟨rfl, by rw [tf_f (fun ⟨_, a, r, h⟩ => by cases h)]; rfl⟩
                    | [a, .tab z] => walk_at "zs"; refine rr_ixT (xs := Tp.mk [a, .tab z]) (by decide) rfl ?_; walk_at "zs"; exact ⟨rfl, by rw [tf_f (fun ⟨_, a, r, h⟩ => by cases h)]; rfl⟩
                    | [] => walk_at "zs"; exact ⟨rfl, by rw [tf_f (fun ⟨_, a, r, h⟩ => by cases h)]; rfl⟩
                    | [_] => walk_at "zs"; exact ⟨rfl, by rw [tf_f (fun ⟨_, a, r, h⟩ => by cases h)]; rfl⟩
                    | _ :: _ :: _ :: u =>
                      have e1 : (!decide ((((u.length + 1 + 1 + 1 : Nat)) : Int) = 2)) = true := by rw [decide_eq_false (by omega)]; rfl
                      walk_at "zs"
                      exact ⟨rfl, by rw [tf_f (fun ⟨_, a, r, h⟩ => by cases h)]; rfl⟩
                  | _ =>
                    walk_at "zs"
                    exact ⟨rfl, by rw [tf_f (fun ⟨_, a, r, h⟩ => by cases h)]; rfl⟩
              · rintro t m ⟨rfl, rfl⟩
                by_cases good : way ≠ 2 ∧ ∃ a r, b = .tup [a, .tup r]
                · have e2 : (!tf (way ≠ 2 ∧ ∃ a r, b = .tup [a, .tup r])) = false := by rw [tf_t good]; rfl
                  walk_at "zs"
                  obtain ⟨_, a, r, rfl⟩ := good
                  have wab := (fit_tup.mp wb).2
                  have wa := wab a (by simp)
                  have wr := wab (.tup r) (by simp)
                  have wa' := Th.wid_mono (show B ≤ B + 1 by omega) a wa
                  have wr' := Th.wid_mono (show B ≤ B + 1 by omega) _ wr
                  have fr := fit_tup.mp wr
                  have fr' := fit_tup.mp wr'
                  have lr := fr.1
                  rw [th_tup [a, .tup r]]
                  walk_at "zs"
                  refine rr_ixT (xs := Tp.mk [a, .tup r]) (by decide) rfl ?_
                  rw [th_tup r]
                  walk_at "zs"
                  refine we_lst (α := Th) ?_
                  walk_at "zs"
                  refine tup_tp (α := Th) [.int 8] (by simp only [List.map_cons, List.map_nil, th_int]) (by simp) ?_
                  refine rr_catT (by show r.length + 1 ≤ _; omega) ?_
                  walk_at "zs"
                  refine we_revT (α := Th) ?_
                  walk_at "zs"
                  refine we_slA (α := Th) ?_
                  walk_at "zs"
                  refine wo_some ?_
                  walk_at "zs"
                  refine wo_none ?_
                  rw [cut_tail]
                  refine rr_catT (by show r.length + (r.drop (r.length - 1)).length ≤ _; rw [List.length_drop]; omega) ?_
                  walk_at "zs"
                  refine tup_tp (α := Int) [0, 1, 2, 3] rfl (by simp) ?_
                  walk_at "zs"
                  refine rc_lstTF ?_
                  walk_at "zs"
                  refine tup_tp (α := Th) [.bl true] (by simp only [List.map_cons, List.map_nil, th_bl]) (by simp) ?_
                  refine rr_catT (by show r.length + 1 ≤ _; omega) ?_
                  have p1 := fit_more fr (x := .int 8) (wid_int 8)
                  have p2 := fit_twice fr
                  have p3 := fit_rev fr'
                  have p4 := fit_more fr (x := .bl true) (by simp [Th.wid])
                  have p5 := fit_ahead fr (x := .int (-1)) (wid_int _)
                  generalize r ++ [.int 8] = r1 at *
                  generalize r ++ r.drop (r.length - 1) = r2 at *
                  generalize r ++ [.bl true] = r4 at *
                  walk_at "zs"
                  refine ⟨[.tup r1, .tup r.reverse, .tup r2, .tup [.int 0, .int 1, .int 2, .int 3], .lst r, od, .tup r4], by simp only [List.map_cons, List.map_nil, th_tup, th_lst]; rw [show (Tp.mk [Th.int 0, .int 1, .int 2, .int 3]) = Tp.mk (([0, 1, 2, 3] : List Int).map Th.int) from rfl, th_tints], by simp, ?_⟩
                  walk_at "zs"
                  refine we_lst (α := Th) ?_
                  walk_at "zs"
                  refine tup_tp (α := Th) [.int (-1)] (by simp only [List.map_cons, List.map_nil, th_int]) (by simp) ?_
                  walk_at "zs"
                  refine rr_catT (by show 1 + r.length ≤ _; omega) ?_
                  walk_at "zs"
                  refine ⟨[.tup (.int (-1) :: r)], by simp only [List.map_cons, List.map_nil, th_tup]; rfl, by simp, ?_⟩
                  refine rr_catL (by simp) ?_
                  walk_at "zs"
                  refine we_lst (α := Th) ?_
                  walk_at "zs"
                  refine rr_ixT (xs := Tp.mk [a, .tup r]) (by decide) rfl ?_
                  walk_at "zs"
                  · intro z hz
                    have wz : z.wid (B + 1) := by
                      simp only [List.cons_append, List.nil_append, List.mem_cons, List.not_mem_nil, or_false] at hz
                      rcases hz with rfl | rfl | rfl | rfl | rfl | rfl | rfl | rfl <;> first | exact wo' | exact fit_tup.mpr p1 | exact fit_tup.mpr p2 | exact fit_tup.mpr p3 | exact fit_tup.mpr p4 | exact fit_tup.mpr p5 | exact wid_lst.mpr fr' | exact fit_four (by omega)
                    walk_at "zs"
                    refine we_lst (α := Th) ?_
                    walk_at "zs"
                    refine ⟨[.int 8, .int (-1), .bl true, od], by simp only [List.map_cons, List.map_nil, th_int, th_bl], by simp, ?_⟩
                    walk_at "zs"
                    · intro y hy
                      have wy : y.wid (B + 1) := by
                        simp only [List.mem_cons, List.not_mem_nil, or_false] at hy
                        rcases hy with rfl | rfl | rfl | rfl <;> first | exact wo' | simp [Th.wid]
                      walk_at "zs"
                      refine tup_tp (α := Th) [.tup []] (by simp only [List.map_cons, List.map_nil, th_tup]; rw [show (Tp.mk ([] : List Th)) = Tp.mk (([] : List Int).map Th.int) from rfl, th_tints]) (by simp) ?_
                      refine rr_catT (xs := Tp.mk [a, .tup r]) (by simp) ?_
                      walk_at "zs"
                      refine rc_lstTF ?_
                      walk_at "zs"
                      refine ⟨[.tup [a, z], .tup [y, .tup r], .tup [a, .tup r, .tup []], .lst [a, .tup r]], by simp only [List.map_cons, List.map_nil, th_lst]; rw [th_pair, th_ptup, th_tup [a, .tup r, .tup []]]; rfl, by simp, ?_⟩
                      walk_at "zs"
                      refine we_slA (α := Th) ?_
                      walk_at "zs"
                      refine wo_none (wo_some ?_)
                      walk_at "zs"
                      · intro u hu
                        have wu : u.wid (B + 1) := by
                          simp only [List.mem_cons, List.not_mem_nil, or_false] at hu
                          rcases hu with rfl | rfl | rfl | rfl
                          · exact fit_two (by omega) wa' wz
                          · exact fit_two (by omega) wy wr'
                          · exact fit_tup.mpr (fit3 (by omega) wa' wr' fit_nil)
                          · exact wid_lst.mpr (fit2 (by omega) wa' wr')
                        rw [cut_ahead l a0]
                        walk_at "zs"
                        refine tup_tp (α := Th) [u] rfl (by simp) ?_
                        refine rr_catT (by show (l.take at_.toNat).length + 1 ≤ _; rw [List.length_take]; omega) ?_
                        walk_at "zs"
                        refine we_slA (α := Th) ?_
                        walk_at "zs"
                        refine wo_some ?_
                        walk_at "zs"
                        refine wo_none ?_
                        rw [cut_behind l (by omega)]
                        refine rr_catT (by show (l.take at_.toNat ++ [u]).length + (l.drop (at_ + 1).toNat).length ≤ _; rw [List.length_append, List.length_take, List.length_drop]; simp only [List.length_cons, List.length_nil]; omega) ?_
                        have p4 := fit_put fl wu at_.toNat (at_ + 1).toNat (by omega)
                        generalize ((l.take at_.toNat ++ [u]) ++ l.drop (at_ + 1).toNat) = l4 at *
                        walk_at "zs"
                        rw [dy_pair (rfl : dy x = dy x) (th_mk l4)]
                        exact hP x (.tup l4) wx' (fit_tup.mpr p4)
                      · simp
                      · simp
                    · simp
                    · simp
                  · simp
                  · simp
                · have e2 : (!tf (way ≠ 2 ∧ ∃ a r, b = .tup [a, .tup r])) = true := by rw [tf_f good]; rfl
                  walk_at "zs"
                  refine we_slA (α := Th) ?_
                  walk_at "zs"
                  refine wo_none (wo_some ?_)
                  walk_at "zs"
                  rw [cut_ahead l a0]
                  walk_at "zs"
                  refine tup_tp (α := Th) [od] rfl (by simp) ?_
                  refine rr_catT (by show (l.take at_.toNat).length + 1 ≤ _; rw [List.length_take]; omega) ?_
                  walk_at "zs"
                  refine we_slA (α := Th) ?_
                  walk_at "zs"
                  refine wo_some ?_
                  walk_at "zs"
                  refine wo_none ?_
                  rw [cut_behind l (by omega)]
                  refine rr_catT (by show (l.take at_.toNat ++ [od]).length + (l.drop (at_ + 1).toNat).length ≤ _; rw [List.length_append, List.length_take, List.length_drop]; simp only [List.length_cons, List.length_nil]; omega) ?_
                  have p4 := fit_put fl wo' at_.toNat (at_ + 1).toNat (by omega)
                  generalize ((l.take at_.toNat ++ [od]) ++ l.drop (at_ + 1).toNat) = l4 at *
                  walk_at "zs"
                  rw [dy_pair (rfl : dy x = dy x) (th_mk l4)]
                  exact hP x (.tup l4) wx' (fit_tup.mpr p4)
        · decide
        · decide
      · show 1 ≤ ((l.length : Nat) : Int); omega
      · show ((l.length : Nat) : Int) ≤ 1000; omega
    | _ =>
      walk_at "zs"
      exact hO

end
end K01
end
section
set_option Elab.async false
set_option linter.all false
set_option maxRecDepth 100000
set_option maxHeartbeats 4000000
namespace K01
open PySem PySem.Spec PyProof.Rows L2 Zq K02
open C8 (Cal Mak pe_c pe_mk pe_gc)
open IsTh (to)
local macro_rules | `(tactic| walk_at "zq") => `(tactic| first
  | with_reducible refine ws_seq ?_
  | with_reducible refine ws_asg ?_
  | (with_reducible apply ws_asgG)
  | with_reducible refine ws_next ?_
  | with_reducible refine ws_ret ?_
  | with_reducible refine ws_if ?_
  | with_reducible refine ws_drop (te := tCall _ _ _ _) ?_
  | with_reducible refine wsx_seq ?_
  | with_reducible refine wsx_asg ?_
  | with_reducible refine wsx_if ?_
  | with_reducible refine wsx_ret ?_
  | with_reducible refine wsx_next ?_
  | with_reducible refine wsx_raise ?_
  | with_reducible refine as_dy ?_
  | ((with_reducible apply we_var); focus rfl)
  | with_reducible refine we_int ?_
  | with_reducible refine we_bl ?_
  | with_reducible refine we_non ?_
  | with_reducible refine we_ty ?_
  | with_reducible refine we_str ?_
  | with_reducible refine we_op2 ?_
  | with_reducible refine we_neg ?_
  | with_reducible refine we_andV ?_
  | with_reducible refine we_orV ?_
  | with_reducible refine we_notV ?_
  | with_reducible refine we_chain ?_
  | with_reducible refine we_cb ?_
  | with_reducible refine tup_pair ?_
  | with_reducible refine tup_three ?_
  | with_reducible refine tup_nil ?_
  | with_reducible refine we_call ?_
  | with_reducible refine we_callD ?_
  | with_reducible refine we_tup ?_
  | refine we_cells (Tx.cl (by assumption)) (Tx.nc (by assumption)) ?_
  | refine we_kinds (Tx.cl (by assumption)) (Tx.nk (by assumption)) ?_
  | with_reducible refine wt_test ?_
  | with_reducible refine wt_B ?_
  | with_reducible refine wt_not ?_
  | with_reducible refine wt_and ?_
  | with_reducible refine wt_or ?_
  | with_reducible refine wt_yes ?_
  | with_reducible refine wa_cons ?_
  | with_reducible refine wa_nil ?_
  | with_reducible refine rr_II ?_
  | with_reducible refine rr_isTrue ?_
  | with_reducible refine rr_notTrue ?_
  | with_reducible refine rr_isN0 ?_
  | with_reducible refine rr_notN0 ?_
  | with_reducible refine rr_isN ?_
  | with_reducible refine rr_notN ?_
  | with_reducible refine rr_neB ?_
  | with_reducible refine rr_isNo ?_
  | with_reducible refine rr_notNo ?_
  | with_reducible refine rr_IB ?_
  | with_reducible refine rr_eqI ?_
  | with_reducible refine rr_neI ?_
  | with_reducible refine rr_eqB ?_
  | with_reducible refine rr_ixP0 ?_
  | with_reducible refine rr_ixP1 ?_
  | with_reducible refine rr_ix30 ?_
  | with_reducible refine rr_ix31 ?_
  | with_reducible refine rr_ix32 ?_
  | with_reducible refine rr_leK ?_
  | with_reducible refine rr_ltK ?_
  | refine rr_eqD ?_
  | refine rr_neD ?_
  | with_reducible refine rr_inT ?_
  | with_reducible refine rr_ninT ?_
  | with_reducible refine rr_inL ?_
  | with_reducible refine rr_ninL ?_
  | with_reducible refine rc_isi kit_ii ?_
  | with_reducible refine rc_isi kit_ib ?_
  | with_reducible refine rc_isi kit_bb ?_
  | with_reducible refine rc_isi kit_tt ?_
  | refine rc_isInt (Tx.isi (by assumption)) ?_
  | refine rc_isBl (Tx.isi (by assumption)) ?_
  | refine rc_isTup (Tx.isi (by assumption)) ?_
  | refine rc_isStr (Tx.isi (by assumption)) ?_
  | with_reducible refine rc_lenL ?_
  | with_reducible refine rc_lenT ?_
  | with_reducible refine rc_lenP ?_
  | with_reducible refine rc_tupL ?_
  | refine rc_lenM rfl ?_
  | refine rc_tupM rfl ?_
  | ((with_reducible apply rr_inM); focus rfl)
  | ((with_reducible apply rr_ninM); focus rfl)
  | with_reducible apply wg_setM
  | refine ex_l rfl ?_
  | refine ex_d rfl ?_
  | with_reducible refine rc_int ?_
  | with_reducible refine rc_abs ?_
  | with_reducible refine rc_min2 ?_
  | with_reducible refine rc_all ?_
  | with_reducible refine rc_any ?_
  | with_reducible refine wg_name ?_
  | (apply wg_tup2)
  | (apply wg_tup3))
local macro_rules | `(tactic| walk_at "zqs") => `(tactic| repeat walk_at "zq")
local macro_rules | `(tactic| walk_at "zok1") => `(tactic| first
  | exact trivial
  | exact dy_ok _ _
  | exact cLst_ok _ _
  | exact cDic_ok _ _
  | exact hand_ok _
  | exact handX_ok
  | exact okM_nil
  | exact okE_nil
  | exact okDs_nil
  | refine okM_cons ?_ ?_
  | refine okDs_cons ?_ ?_
  | refine okE_none ?_
  | refine okE_cons ?_ ?_
  | exact mr_ok (Nat.le_of_ble_eq_true rfl)
  | exact Free.l _ _
  | exact Free.k _ _
  | exact Free.ok _ _
  | exact Frg.refl _
  | exact Frg.nil
  | refine Frg.same ?_
  | refine Frg.drop ?_)
local macro_rules | `(tactic| walk_at "zok") => `(tactic| repeat walk_at "zok1")
local macro_rules | `(tactic| walk_at "zcut") => `(tactic| exact Cut.mk (by walk_at "zok") (by walk_at "zok") (by walk_at "zok") rfl)
local macro_rules | `(tactic| walk_at "zb") => `(tactic| first
  | with_reducible refine bt_tt ?_
  | with_reducible refine bt_ff ?_
  | with_reducible refine bt_nt ?_
  | with_reducible refine bt_nf ?_
  | with_reducible refine bt_ft ?_
  | with_reducible refine bt_tf ?_
  | with_reducible refine bt_nt' ?_
  | with_reducible refine bt_nf' ?_
  | (with_reducible refine bt_t ?_ ?_
     focus (first | rfl | assumption))
  | (with_reducible refine bt_f ?_ ?_
     focus (first | rfl | assumption))
  | (with_reducible refine bt_t' ?_ ?_
     focus (first | rfl | assumption))
  | (with_reducible refine bt_f' ?_ ?_
     focus (first | rfl | assumption))
  | (refine ca5 ?_ ?_ ?_ ?_ ?_
     focus (first | rfl | decide)
     focus (first | exact Nat.zero_le _ | exact Nat.le_of_ble_eq_true rfl)
     focus (walk_at "zok"; done)
     focus (walk_at "zok"; done))
  | (refine ca3 ?_ ?_ ?_
     focus (walk_at "zok"; done)
     focus (walk_at "zok"; done)))

local macro_rules | `(tactic| walk_at "zu") => `(tactic| first
  | refine u_is_integer ?_
  | refine u_is_integer_th ?_
  | refine u_is_number_below ?_ ?_
  | refine u_is_number_below_th ?_
  | refine u_is_lot ?_
  | refine u_is_lot_of_cells ?_
  | refine u_is_kind ?_
  | refine u__law_is_int ?_ ?_ ?_
  | refine u__law_is_int_th ?_
  | refine u__law_flag ?_
  | refine u__law_history ?_ ?_ ?_
  | refine u__law_draw ?_ ?_ ?_
  | refine u__law_any ?_ ?_ ?_
  | refine u__law_any_th ?_ ?_ ?_
  | refine u__law_kinds ?_ ?_ ?_ ?_ ?_
  | refine u_is_journal ?_ ?_
  | refine u_is_journal_ty ?_ ?_ ?_
  | refine u_check_journal ?_ ?_ ?_
  | refine u_is_version ?_ ?_ ?_
  | refine u_is_plates ?_ ?_ ?_
  | refine u__law_is_lot ?_ ?_
  | refine u__law_is_kind ?_ ?_
  | refine u__law_due ?_ ?_
  | refine u_Table_initC ?_ ?_
  | refine u_Table_eq ?_ ?_
  | refine u__law_told ?_ ?_
  | refine u__law_deep ?_ ?_ ?_
  | refine u__law_odd ?_ ?_
  | refine u__law_table ?_ ?_ ?_
  | refine u__law_journal ?_ ?_ ?_ ?_ ?_
  | refine u__law_versions ?_ ?_ ?_ ?_ ?_
  | refine u__law_bent ?_ ?_ ?_ ?_ ?_ ?_
  | refine u__law_great_right ?_
  | refine u__law_journals_right ?_ ?_
  | refine u_law ?_ ?_)
local macro_rules | `(tactic| walk_at "zs1") => `(tactic| first
  | walk_at "zq"
  | walk_at "zu"
  | walk_at "zb")
local macro_rules | `(tactic| walk_at "zs") => `(tactic| repeat walk_at "zs1")
section
variable {P : Program} {w : World} {c : Cc} {mg : Str → Option Value} {base : Heap}
def six (y : Int) : List Zq.Kind := [(y, ⟨[]⟩), (y, ⟨[0]⟩), (y, ⟨[1, 2]⟩), (y, ⟨[2, 5, 7]⟩), (y, ⟨[3]⟩), (y, ⟨[7]⟩)]
def all48 : List Zq.Kind := (upto 8).foldl (fun s y => s ++ six y) []
def kokb (k : Zq.Kind) : Bool := decide (0 ≤ k.1) && decide (k.1 < 8) && decide (k.2.l.Pairwise (· < ·)) && (k.2.l.all fun r => decide (0 ≤ r) && decide (r < 8)) && decide (k.2.l.length ≤ 3)
theorem kokb_ok {k : Zq.Kind} (h : kokb k = true) : KOk 8 k := by
  unfold kokb at h
  rw [Bool.and_eq_true, Bool.and_eq_true, Bool.and_eq_true, Bool.and_eq_true] at h
  obtain ⟨⟨⟨⟨h1, h2⟩, h3⟩, h4⟩, h5⟩ := h
  refine ⟨of_decide_eq_true h1, of_decide_eq_true h2, of_decide_eq_true h3, fun r hr => ?_, of_decide_eq_true h5⟩
  have := List.all_eq_true.mp h4 r hr
  rw [Bool.and_eq_true] at this
  exact ⟨of_decide_eq_true this.1, of_decide_eq_true this.2⟩
theorem all48_ok : ∀ k, k ∈ all48 → KOk 8 k := fun k hk => kokb_ok (List.all_eq_true.mp (show all48.all kokb = true by decide +kernel) k hk)
theorem all48_nd : all48.Nodup := by decide +kernel
theorem all48_len : all48.length = 48 := by decide +kernel
theorem great_ks {zs : List Zq.Kind} (h : KSort zs all48) : KsOk 8 (zs.take 40) ∧ zs.length = 48 := by
  have hl : zs.length = 48 := by rw [h.perm.length_eq, all48_len]
  have asc := ksort_lt h.asc (h.perm.nodup_iff.mpr all48_nd)
  exact ⟨⟨by decide, by decide, fun k hk => all48_ok k (h.perm.mem_iff.mp (List.mem_of_mem_take hk)), by rw [List.length_take]; omega, by rw [List.length_take]; omega, asc.sublist (List.take_sublist _ _)⟩, hl⟩
theorem th_12 (a b : Int) : dy (a, b) = dy (Tp.mk [a, b]) := by rw [← IsTh.eq (a, b), ← IsTh.eq (Tp.mk [a, b])]; rfl
theorem th_257 (a b d : Int) : dy (T3.mk a b d) = dy (Tp.mk [a, b, d]) := by rw [← IsTh.eq (T3.mk a b d), ← IsTh.eq (Tp.mk [a, b, d])]; rfl
theorem jour_long {ks : List Zq.Kind} {js : List Int} (h : 400 < js.length) : ¬ jourP ks (to (Tp.mk js)) := by
  rintro ⟨qs, e, o⟩
  have := tup_inj e
  subst this
  have := o.len
  omega
theorem tupk_inj {ks ls : List Zq.Kind} (h : to (Tp.mk ks) = to (Tp.mk ls)) : ks = ls := ks_inj (n := 0) (m := 0) h
theorem sc__law_great_right : FnScope ["_law_hand_here", "_law_every", "_law_cell", "_law_some", "_law_many", "_law_table_here", "_law_line", "_law_turn"] ["_law_hand_here"] (defScope s__law_great_right) := ⟨rfl, rfl, rfl, by decide +kernel, rfl, by decide +kernel, by decide +kernel⟩
theorem ok__law_great_right {f : Addr} {fd : FuncData} (F : Fun c.K "_law_great_right" "_law_great_right" s__law_great_right f fd) (T : Tb mg) (X : Tx c mg) (g__law_any : Cal P w c.K mg base 2 "_law_any" (spOf c 2 1 sp__law_any) []) (g__law_told : Cal P w c.K mg base 7 "_law_told" (spOf c 2 0 sp__law_told) []) (g__law_draw : Cal P w c.K mg base 1 "_law_draw" (spOf c 2 1 sp__law_draw) []) (g__law_flag : Cal P w c.K mg base 1 "_law_flag" (spOf c 2 0 sp__law_flag) []) (g_is_journal : Cal P w c.K mg base 3 "is_journal" (spOf c 2 0 sp_is_journal) []) (g_Table : Mak P w c.K mg base 5 "Table" (c.cls "Table") (spOf c 3 1 (sp_Table_initC c)) []) :
    FnOk P w c.K mg base CX0 8 f fd ["_law_hand_here"] (spOf c 1 1 sp__law_great_right) := by
  refine F.ok sc__law_great_right (fun vs H Q E h => ?_) (fun cdv A outer s H vs Q E hr h => ?_)
  · obtain ⟨as, F, ds, M, P, _, hn, _, rd, _⟩ := h
    rw [rd.length, hn]; rfl
  · have hu1 : (A.deeper (envOfC "_law_great_right" (defScope s__law_great_right) s.heap.objs.size f cdv)).units + 1 < cLine := hu_of hr
    have hu8 : (A.deeper (envOfC "_law_great_right" (defScope s__law_great_right) s.heap.objs.size f cdv)).units + 8 < cLine := by have := hr.un; omega
    have hu16 : (A.deeper (envOfC "_law_great_right" (defScope s__law_great_right) s.heap.objs.size f cdv)).units + 16 < cLine := by have := hr.un; omega
    have hu64 : (A.deeper (envOfC "_law_great_right" (defScope s__law_great_right) s.heap.objs.size f cdv)).units + 64 < cLine := by have := hr.un; omega
    have hu65 : (A.deeper (envOfC "_law_great_right" (defScope s__law_great_right) s.heap.objs.size f cdv)).units + 65 < cLine := by have := hr.un; omega
    refine ⟨_, (pss_cons (ps_set (i := 1) sc__law_great_right.nd rfl (Or.inl rfl) (pe_lst pa_nil))
        (pss_cons (ps_for PassesOwn.never rfl (pi_range1 rfl T.b_range (pa_cons pe_int pa_nil)) (pg_name (i := 2) sc__law_great_right.nd rfl (Or.inl rfl)) (pss_one (ps_expr (pe_bm PySem.F.plainAttrs_list PySem.F.slot_list_extend PySem.F.type_list_extend mt_extend (pv 1) (pa_cons (pe_lst (pa_cons (pe_tup (pa_cons (pv 2) (pa_cons (pe_tup pa_nil) pa_nil))) (pa_cons (pe_tup (pa_cons (pv 2) (pa_cons (pe_tup (pa_cons pe_int pa_nil)) pa_nil))) (pa_cons (pe_tup (pa_cons (pv 2) (pa_cons (pe_tup (pa_cons pe_int (pa_cons pe_int pa_nil))) pa_nil))) (pa_cons (pe_tup (pa_cons (pv 2) (pa_cons (pe_tup (pa_cons pe_int (pa_cons pe_int (pa_cons pe_int pa_nil)))) pa_nil))) (pa_cons (pe_tup (pa_cons (pv 2) (pa_cons (pe_tup (pa_cons pe_int pa_nil)) pa_nil))) (pa_cons (pe_tup (pa_cons (pv 2) (pa_cons (pe_tup (pa_cons pe_int pa_nil)) pa_nil))) pa_nil))))))) pa_nil)))))
        (pss_cons (ps_set (i := 3) sc__law_great_right.nd rfl (Or.inl rfl) (pe_callTy (r := Zq.rTup c.K) call_tuple_of (by rfl) T.b_tuple (by decide +kernel) (pa_cons (pe_callB (r := Zr.rSortK c.K) (Zr.cr_sortK hu16) (by rfl) T.b_sorted (by decide +kernel) (pa_cons (pv 1) pa_nil)) pa_nil)))
        (pss_cons (ps_set (i := 4) sc__law_great_right.nd rfl (Or.inl rfl) (pe_c g__law_any hr (by decide) rfl (pa_cons (pv 0) (pa_cons (pe_lst (pa_cons pe_int (pa_cons pe_int pa_nil))) pa_nil))))
        (pss_cons (ps_if (pt_cmpR (r := rNeD c.K) (op_neD hu64) (pe_ix (r := rIxT c.K) ix_tup (pe_c g__law_told hr (by decide) rfl (pa_cons pe_int (pa_cons (pe_slice (r := rSlA c.K) sl_tupA (pv 3) po_none (po_some (pv 4))) pa_nil))) pe_int (fun _ _ => rfl)) (pe_ix (r := rIxL c.K) ix_list (pe_lst (pa_cons pe_non (pa_cons (pe_tup (pa_cons pe_str (pa_cons (pe_un un_neg pe_int) pa_nil))) pa_nil))) (pe_op op_sub (pv 4) pe_int) (fun _ _ => rfl)) (nomark _)) (pss_one (ps_ret pe_bl)) pss_nil)
        (pss_cons (ps_set (i := 5) sc__law_great_right.nd rfl (Or.inl rfl) (pe_mk g_Table hr (by decide) rfl (pa_cons pe_int (pa_cons (pe_slice (r := rSlA c.K) sl_tupA (pv 3) po_none (po_some pe_int)) pa_nil))))
        (pss_cons (ps_set (i := 6) sc__law_great_right.nd rfl (Or.inl rfl) (pe_op (r := Zr.rRepA c.K) Zr.op_repA (pe_callTy (r := Zq.rTup c.K) call_tuple_of (by rfl) T.b_tuple (by decide +kernel) (pa_cons (pe_lc (own := [("_law_turn", 7)]) (g := (gName 7)) rfl sc__law_great_right.nd (pi_range1 rfl T.b_range (pa_cons pe_int pa_nil)) (blkOk_by (N := ["_law_hand_here", "_law_every", "_law_cell", "_law_some", "_law_many", "_law_table_here", "_law_line", "_law_turn"]) (sc := defScope s__law_great_right) (by decide +kernel)) (fun _ _ _ _ _ => (pg_name (i := 7) sc__law_great_right.nd rfl (Or.inl rfl))) (fun _ _ _ _ _ => pts_nil) (fun _ _ _ _ _ => (pe_c g__law_draw hr (by decide) rfl (pa_cons (pv 0) (pa_cons pe_int pa_nil))))) pa_nil)) pe_int))
        (pss_cons (ps_if (PW.pt (pw_or (pt_not (pt_val (pe_c g__law_flag hr (by decide) rfl (pa_cons (pe_c g_is_journal hr (by decide) rfl (pa_cons (pv 5) (pa_cons (pv 6) pa_nil))) (pa_cons pe_bl pa_nil))))) (pw_or1 (pt_not (pt_val (pe_c g__law_flag hr (by decide) rfl (pa_cons (pe_c g_is_journal hr (by decide) rfl (pa_cons (pv 5) (pa_cons (pe_op (r := rCatA c.K) op_catA (pv 6) (pe_tup (pa_cons pe_int pa_nil))) pa_nil))) (pa_cons pe_bl pa_nil)))))))) (pss_one (ps_ret pe_bl)) pss_nil)
        (pss_one (ps_ret (pe_c g__law_flag hr (by decide) rfl (pa_cons (pe_c g_is_journal hr (by decide) rfl (pa_cons (pv 5) (pa_cons (pe_op (r := rCatA c.K) op_catA (pe_slice (r := rSlA c.K) sl_tupA (pv 6) po_none (po_some (pe_un un_neg pe_int))) (pe_tup (pa_cons (pe_c g__law_any hr (by decide) rfl (pa_cons (pv 0) (pa_cons (pe_lst (pa_cons pe_int (pa_cons (pe_un un_neg pe_int) (pa_cons pe_bl (pa_cons pe_non pa_nil))))) pa_nil))) pa_nil))) pa_nil))) (pa_cons pe_bl pa_nil))))))))))))), ?_⟩
    refine body_ok h (by decide) fun ds M R hds hM hS => ?_
    obtain ⟨rfl, rfl, hP⟩ := hS
    show WS c 1 _ [some (dy (MR.mk 0)), none, none, none, none, none, none, none] [cHand] _ _
    walk_at "zs"
    refine we_lstC (α := Zq.Kind) ?_
    walk_at "zs"
    refine ⟨[], rfl, Nat.zero_le _, ?_⟩
    walk_at "zs"
    refine ws_fold (S := List Zq.Kind) (β := Int) [2] (fun s y => s ++ six y) [] (fun _ => [some (dy (MR.mk 0)), some (dy (MR.mk 1)), none, none, none, none, none, none]) (fun s => [cHand, cLst s]) (fun pre s => s.length = 6 * pre.length) ?_
    refine wi_range ?_
    walk_at "zs"
    refine ⟨8, rfl, by decide, by decide, upto 8, rfl, rfl, by walk_at "zcut", fun pre y post s e hs hJ => ?_, fun s hs hJ => ?_⟩
    · have pl : pre.length < 8 := by
        have := congrArg List.length e
        rw [upto_len, List.length_append, List.length_cons] at this; omega
      walk_at "zs"
      refine ws_ext (α := Zq.Kind) ?_
      walk_at "zs"
      refine we_lstC (α := Zq.Kind) ?_
      walk_at "zs"
      refine tup_tp (α := Int) [0] rfl (by simp) ?_
      walk_at "zs"
      refine tup_tp (α := Int) [3] rfl (by simp) ?_
      walk_at "zs"
      refine tup_tp (α := Int) [7] rfl (by simp) ?_
      walk_at "zs"
      refine ⟨six y, by unfold six; simp only [List.map_cons, List.map_nil]; rw [dy_pair (rfl : dy y = dy y) (th_12 1 2), dy_pair (rfl : dy y = dy y) (th_257 2 5 7)], by simp, ?_⟩
      walk_at "zs"
      refine ⟨s, six y, rfl, rfl, by rw [hJ]; show 6 * pre.length + 6 ≤ _; omega, ?_, ?_⟩
      · rw [List.length_append, List.length_append, hJ]; show 6 * pre.length + 6 = 6 * (pre.length + 1); omega
      · exact Cut.mk (by walk_at "zok") (by walk_at "zok") (by walk_at "zok") rfl
    · have e48 : s = all48 := hs
      subst e48
      walk_at "zs"
      refine rc_sortKM rfl fun zs hz => ?_
      obtain ⟨hk, zl⟩ := great_ks hz
      walk_at "zs"
      refine we_lst (α := Int) ?_
      walk_at "zs"
      refine ⟨[40, 41], rfl, by decide, ?_⟩
      walk_at "zs"
      · intro many hmany
        have h40 : many = 40 ∨ many = 41 := by simpa using hmany
        refine ws_seq (ws_if (WT.mono (P := fun t m => t = false ∧ m = [cHand, cLst all48]) ?_ ?_))
        · walk_at "zs"
          refine we_slA (α := Zq.Kind) ?_
          walk_at "zs"
          refine wo_none (wo_some ?_)
          walk_at "zs"
          rw [cut_ahead zs (by omega), show dy (8 : Int) = dy (Th.int 8) from (th_int 8).symm, show dy (Tp.mk (zs.take many.toNat)) = dy (to (Tp.mk (zs.take many.toNat))) from (IsTh.eq _).symm]
          rcases h40 with rfl | rfl
          · walk_at "zs"
            · intro n ks e1 e2 hk2
              walk_at "zs"
              refine we_lst (α := Option (Prt × Int)) ?_
              walk_at "zs"
              refine ⟨[none, some (.kinds, -1)], rfl, by simp, ?_⟩
              walk_at "zs"
              refine rr_ixL (xs := [(none : Option (Prt × Int)), some (Prt.kinds, -1)]) (by decide) (y := none) rfl ?_
              rw [dy_none]
              walk_at "zs"
              exact ⟨rfl, rfl⟩
            · intro p hp
              cases Due.uniq hp (.ok rfl rfl hk)
          · walk_at "zs"
            · intro n ks e1 e2 hk2
              have := tupk_inj e2
              have h := hk2.k40
              rw [← this, List.length_take] at h
              have : (41 : Int).toNat = 41 := rfl
              omega
            · intro p hp
              have hp2 : Due (Th.int 8) (to (Tp.mk (zs.take (41 : Int).toNat))) (some (.kinds, -1)) := .kinds rfl (by
                rintro ⟨l, h, _, h3⟩
                rw [to_kinds] at h
                injection h with h
                rw [← h, List.length_map, List.length_take] at h3
                have : (41 : Int).toNat = 41 := rfl
                omega)
              cases Due.uniq hp hp2
              walk_at "zs"
              refine we_lst (α := Option (Prt × Int)) ?_
              walk_at "zs"
              refine ⟨[none, some (.kinds, -1)], rfl, by simp, ?_⟩
              walk_at "zs"
              refine rr_ixL (xs := [(none : Option (Prt × Int)), some (Prt.kinds, -1)]) (by decide) (y := some (.kinds, -1)) rfl ?_
              rw [dy_some]
              walk_at "zs"
              exact ⟨rfl, rfl⟩
        · rintro t m ⟨rfl, rfl⟩
          walk_at "zs"
          refine we_makeT ?_
          walk_at "zs"
          refine we_slA (α := Zq.Kind) ?_
          walk_at "zs"
          refine wo_none (wo_some ?_)
          walk_at "zs"
          rw [cut_ahead zs (by decide)]
          refine ⟨rfl, by walk_at "zok", ?_⟩
          refine u_Table_initC ?_ hk
          refine ⟨Tab.mk 8 ⟨zs.take 40⟩, 2, _, rfl, rfl, rfl, rfl, Free.ok _ _, ?_⟩
          have kl : (zs.take 40).length = 40 := by rw [List.length_take]; omega
          generalize zs.take 40 = ks at *
          walk_at "zs"
          refine we_lcR (β := Int) (γ := Int) [7] (fun _ z => 0 ≤ z ∧ z < 40) (fun t ht => ht) (by walk_at "zok") ?_
          refine wi_range ?_
          walk_at "zs"
          refine ⟨20, rfl, by decide, by decide, rfl, upto 20, rfl, by rw [upto_len]; decide, fun y hy acc => ?_, fun so hso => ?_⟩
          · walk_at "zs"
            refine ⟨rfl, ?_⟩
            walk_at "zs"
            · intro z z0 z1
              exact ⟨z, rfl, rfl, z0, z1⟩
            · decide
            · decide
          have sl := paired_len hso
          rw [upto_len] at sl
          have sb : ∀ v, v ∈ so → 0 ≤ v ∧ v < 40 := fun v hv => paired_r (G := fun z => 0 ≤ z ∧ z < 40) hso hv
          walk_at "zs"
          refine rr_repA (xs := Tp.mk so) (fun h => by rw [show so = [] from h] at sl; simp at sl) (by decide) (by decide) (by show so.length ≤ _; omega) ?_
          have ll : (List.replicate (20 : Int).toNat so).flatten.length = 400 := by
            rw [List.length_flatten, List.map_replicate, List.sum_replicate_nat, ← sl]; rfl
          have lb : ∀ v, v ∈ (List.replicate (20 : Int).toNat so).flatten → 0 ≤ v ∧ v < 40 := fun v hv => by
            obtain ⟨r, hr, hv⟩ := List.mem_flatten.mp hv
            rw [(List.mem_replicate.mp hr).2] at hv
            exact sb v hv
          generalize (List.replicate (20 : Int).toNat so).flatten = line at *
          have jk : JOk ks line := ⟨by omega, fun j hj => by have := lb j hj; omega⟩
          have kl' : (Tab.mk 8 ⟨ks⟩).kinds.l.length ≤ 1000 := by show ks.length ≤ _; omega
          walk_at "zs"
          · refine tup_tp (α := Int) [0] rfl (by simp) ?_
            refine rr_catT (by show line.length + 1 ≤ _; omega) ?_
            have e : dy (Tp.mk ((Tp.mk line).l ++ (Tp.mk [(0 : Int)]).l)) = dy (Th.tup ((line ++ [0]).map Th.int)) := dy_tup _
            rw [e]
            walk_at "zs"
            · have e2 : tf (jourP (Tab.mk 8 ⟨ks⟩).kinds.l (Th.tup ((line ++ [0]).map Th.int))) = false := tf_f (show ¬ jourP ks (Th.tup ((line ++ [0]).map Th.int)) from jour_long (by rw [List.length_append]; show 400 < line.length + 1; omega))
              rw [e2]
              walk_at "zs"
              refine we_slA (α := Int) ?_
              walk_at "zs"
              refine wo_none (wo_some ?_)
              walk_at "zs"
              refine we_lst (α := Th) ?_
              walk_at "zs"
              refine ⟨[.int 40, .int (-1), .bl true, .non], by simp only [List.map_cons, List.map_nil, th_int, th_bl, th_non], by simp, ?_⟩
              rw [cut_last line, ← th_tints (line.take (line.length - 1))]
              walk_at "zs"
              · intro r hr
                walk_at "zs"
                refine tup_tp (α := Th) [r] rfl (by simp) ?_
                refine rr_catT (xs := Tp.mk ((line.take (line.length - 1)).map Th.int)) (by show ((line.take (line.length - 1)).map Th.int).length + 1 ≤ _; rw [List.length_map, List.length_take]; omega) ?_
                have e : dy (Tp.mk ((Tp.mk ((line.take (line.length - 1)).map Th.int)).l ++ (Tp.mk [r]).l)) = dy (Th.tup ((line.take (line.length - 1)).map Th.int ++ [r])) := (th_tup _).symm
                rw [e]
                walk_at "zs"
                · have e3 : tf (jourP (Tab.mk 8 ⟨ks⟩).kinds.l (Th.tup ((line.take (line.length - 1)).map Th.int ++ [r]))) = false := tf_f (show ¬ jourP ks (Th.tup ((line.take (line.length - 1)).map Th.int ++ [r])) from by
                    rintro ⟨js, h, o⟩
                    rw [to_tup] at h
                    injection h with h
                    have hm : r ∈ js.map Th.int := by rw [← h]; simp
                    obtain ⟨j, hj, rfl⟩ := List.mem_map.mp hm
                    have := o.at_ j hj
                    simp only [List.mem_cons, List.not_mem_nil, or_false] at hr
                    rcases hr with z | z | z | z
                    · injection z with z; omega
                    · injection z with z; omega
                    · cases z
                    · cases z)
                  rw [e3]
                  walk_at "zs"
                  exact hP
                · exact kl'
              · simp
              · simp
            · exact kl'
          · exact jk
          · exact kl'
      · simp
      · simp

end
end K01
end
section
set_option Elab.async false
set_option linter.all false
set_option maxRecDepth 100000
set_option maxHeartbeats 4000000
namespace K01
open PySem PySem.Spec PyProof.Rows L2 Zq K02
open C8 (Cal Mak pe_c pe_mk pe_gc)
open IsTh (to)
local macro_rules | `(tactic| walk_at "zq") => `(tactic| first
  | with_reducible refine ws_seq ?_
  | with_reducible refine ws_asg ?_
  | (with_reducible apply ws_asgG)
  | with_reducible refine ws_next ?_
  | with_reducible refine ws_ret ?_
  | with_reducible refine ws_if ?_
  | with_reducible refine ws_drop (te := tCall _ _ _ _) ?_
  | with_reducible refine wsx_seq ?_
  | with_reducible refine wsx_asg ?_
  | with_reducible refine wsx_if ?_
  | with_reducible refine wsx_ret ?_
  | with_reducible refine wsx_next ?_
  | with_reducible refine wsx_raise ?_
  | with_reducible refine as_dy ?_
  | ((with_reducible apply we_var); focus rfl)
  | with_reducible refine we_int ?_
  | with_reducible refine we_bl ?_
  | with_reducible refine we_non ?_
  | with_reducible refine we_ty ?_
  | with_reducible refine we_str ?_
  | with_reducible refine we_op2 ?_
  | with_reducible refine we_neg ?_
  | with_reducible refine we_andV ?_
  | with_reducible refine we_orV ?_
  | with_reducible refine we_notV ?_
  | with_reducible refine we_chain ?_
  | with_reducible refine we_cb ?_
  | with_reducible refine tup_pair ?_
  | with_reducible refine tup_three ?_
  | with_reducible refine tup_nil ?_
  | with_reducible refine we_call ?_
  | with_reducible refine we_callD ?_
  | with_reducible refine we_tup ?_
  | refine we_cells (Tx.cl (by assumption)) (Tx.nc (by assumption)) ?_
  | refine we_kinds (Tx.cl (by assumption)) (Tx.nk (by assumption)) ?_
  | with_reducible refine wt_test ?_
  | with_reducible refine wt_B ?_
  | with_reducible refine wt_not ?_
  | with_reducible refine wt_and ?_
  | with_reducible refine wt_or ?_
  | with_reducible refine wt_yes ?_
  | with_reducible refine wa_cons ?_
  | with_reducible refine wa_nil ?_
  | with_reducible refine rr_II ?_
  | with_reducible refine rr_isTrue ?_
  | with_reducible refine rr_notTrue ?_
  | with_reducible refine rr_isN0 ?_
  | with_reducible refine rr_notN0 ?_
  | with_reducible refine rr_isN ?_
  | with_reducible refine rr_notN ?_
  | with_reducible refine rr_neB ?_
  | with_reducible refine rr_isNo ?_
  | with_reducible refine rr_notNo ?_
  | with_reducible refine rr_IB ?_
  | with_reducible refine rr_eqI ?_
  | with_reducible refine rr_neI ?_
  | with_reducible refine rr_eqB ?_
  | with_reducible refine rr_ixP0 ?_
  | with_reducible refine rr_ixP1 ?_
  | with_reducible refine rr_ix30 ?_
  | with_reducible refine rr_ix31 ?_
  | with_reducible refine rr_ix32 ?_
  | with_reducible refine rr_leK ?_
  | with_reducible refine rr_ltK ?_
  | refine rr_eqD ?_
  | refine rr_neD ?_
  | with_reducible refine rr_inT ?_
  | with_reducible refine rr_ninT ?_
  | with_reducible refine rr_inL ?_
  | with_reducible refine rr_ninL ?_
  | with_reducible refine rc_isi kit_ii ?_
  | with_reducible refine rc_isi kit_ib ?_
  | with_reducible refine rc_isi kit_bb ?_
  | with_reducible refine rc_isi kit_tt ?_
  | refine rc_isInt (Tx.isi (by assumption)) ?_
  | refine rc_isBl (Tx.isi (by assumption)) ?_
  | refine rc_isTup (Tx.isi (by assumption)) ?_
  | refine rc_isStr (Tx.isi (by assumption)) ?_
  | with_reducible refine rc_lenL ?_
  | with_reducible refine rc_lenT ?_
  | with_reducible refine rc_lenP ?_
  | with_reducible refine rc_tupL ?_
  | refine rc_lenM rfl ?_
  | refine rc_tupM rfl ?_
  | ((with_reducible apply rr_inM); focus rfl)
  | ((with_reducible apply rr_ninM); focus rfl)
  | with_reducible apply wg_setM
  | refine ex_l rfl ?_
  | refine ex_d rfl ?_
  | with_reducible refine rc_int ?_
  | with_reducible refine rc_abs ?_
  | with_reducible refine rc_min2 ?_
  | with_reducible refine rc_all ?_
  | with_reducible refine rc_any ?_
  | with_reducible refine wg_name ?_
  | (apply wg_tup2)
  | (apply wg_tup3))
local macro_rules | `(tactic| walk_at "zqs") => `(tactic| repeat walk_at "zq")
local macro_rules | `(tactic| walk_at "zok1") => `(tactic| first
  | exact trivial
  | exact dy_ok _ _
  | exact cLst_ok _ _
  | exact cDic_ok _ _
  | exact hand_ok _
  | exact handX_ok
  | exact okM_nil
  | exact okE_nil
  | exact okDs_nil
  | refine okM_cons ?_ ?_
  | refine okDs_cons ?_ ?_
  | refine okE_none ?_
  | refine okE_cons ?_ ?_
  | exact mr_ok (Nat.le_of_ble_eq_true rfl)
  | exact Free.l _ _
  | exact Free.k _ _
  | exact Free.ok _ _
  | exact Frg.refl _
  | exact Frg.nil
  | refine Frg.same ?_
  | refine Frg.drop ?_)
local macro_rules | `(tactic| walk_at "zok") => `(tactic| repeat walk_at "zok1")
local macro_rules | `(tactic| walk_at "zcut") => `(tactic| exact Cut.mk (by walk_at "zok") (by walk_at "zok") (by walk_at "zok") rfl)
local macro_rules | `(tactic| walk_at "zb") => `(tactic| first
  | with_reducible refine bt_tt ?_
  | with_reducible refine bt_ff ?_
  | with_reducible refine bt_nt ?_
  | with_reducible refine bt_nf ?_
  | with_reducible refine bt_ft ?_
  | with_reducible refine bt_tf ?_
  | with_reducible refine bt_nt' ?_
  | with_reducible refine bt_nf' ?_
  | (with_reducible refine bt_t ?_ ?_
     focus (first | rfl | assumption))
  | (with_reducible refine bt_f ?_ ?_
     focus (first | rfl | assumption))
  | (with_reducible refine bt_t' ?_ ?_
     focus (first | rfl | assumption))
  | (with_reducible refine bt_f' ?_ ?_
     focus (first | rfl | assumption))
  | (refine ca5 ?_ ?_ ?_ ?_ ?_
     focus (first | rfl | decide)
     focus (first | exact Nat.zero_le _ | exact Nat.le_of_ble_eq_true rfl)
     focus (walk_at "zok"; done)
     focus (walk_at "zok"; done))
  | (refine ca3 ?_ ?_ ?_
     focus (walk_at "zok"; done)
     focus (walk_at "zok"; done)))

local macro_rules | `(tactic| walk_at "zu") => `(tactic| first
  | refine u_is_integer ?_
  | refine u_is_integer_th ?_
  | refine u_is_number_below ?_ ?_
  | refine u_is_number_below_th ?_
  | refine u_is_lot ?_
  | refine u_is_lot_of_cells ?_
  | refine u_is_kind ?_
  | refine u__law_is_int ?_ ?_ ?_
  | refine u__law_is_int_th ?_
  | refine u__law_flag ?_
  | refine u__law_history ?_ ?_ ?_
  | refine u__law_draw ?_ ?_ ?_
  | refine u__law_any ?_ ?_ ?_
  | refine u__law_any_th ?_ ?_ ?_
  | refine u__law_kinds ?_ ?_ ?_ ?_ ?_
  | refine u_is_journal ?_ ?_
  | refine u_is_journal_ty ?_ ?_ ?_
  | refine u_check_journal ?_ ?_ ?_
  | refine u_is_version ?_ ?_ ?_
  | refine u_is_plates ?_ ?_ ?_
  | refine u__law_is_lot ?_ ?_
  | refine u__law_is_kind ?_ ?_
  | refine u__law_due ?_ ?_
  | refine u_Table_initC ?_ ?_
  | refine u_Table_eq ?_ ?_
  | refine u__law_told ?_ ?_
  | refine u__law_deep ?_ ?_ ?_
  | refine u__law_odd ?_ ?_
  | refine u__law_table ?_ ?_ ?_
  | refine u__law_journal ?_ ?_ ?_ ?_ ?_
  | refine u__law_versions ?_ ?_ ?_ ?_ ?_
  | refine u__law_bent ?_ ?_ ?_ ?_ ?_ ?_
  | refine u__law_great_right ?_
  | refine u__law_journals_right ?_ ?_
  | refine u_law ?_ ?_)
local macro_rules | `(tactic| walk_at "zs1") => `(tactic| first
  | walk_at "zq"
  | walk_at "zu"
  | walk_at "zb")
local macro_rules | `(tactic| walk_at "zs") => `(tactic| repeat walk_at "zs1")
section
variable {P : Program} {w : World} {c : Cc} {mg : Str → Option Value} {base : Heap}
theorem fit_ints {B : Nat} {xs : List Int} (h : xs.length ≤ B) : fit B (xs.map Th.int) := ⟨by rw [List.length_map]; exact h, fun y hy => by
  obtain ⟨i, _, rfl⟩ := List.mem_map.mp hy
  exact wid_int i⟩
def thI : Th → Int
  | .int i => i
  | _ => 0
theorem rr_catTI {c : Cc} {M : Mem} {P : Dy → Mem → Prop} {xs : List Int} {ys : Tp Th} (hl : xs.length + ys.l.length ≤ 100000) (p : P (dy (Tp.mk (xs.map Th.int ++ ys.l))) M) : RR c (rCatA c.K) (dy (Tp.mk xs)) (dy ys) M P := by
  rw [← th_tints]
  exact rr_catT (xs := Tp.mk (xs.map Th.int)) (by show (xs.map Th.int).length + _ ≤ _; rw [List.length_map]; exact hl) p
theorem rr_catIT {c : Cc} {M : Mem} {P : Dy → Mem → Prop} {ys : List Int} {xs : Tp Th} (hl : xs.l.length + ys.length ≤ 100000) (p : P (dy (Tp.mk (xs.l ++ ys.map Th.int))) M) : RR c (rCatA c.K) (dy xs) (dy (Tp.mk ys)) M P := by
  rw [← th_tints]
  exact rr_catT (ys := Tp.mk (ys.map Th.int)) (by show _ + (ys.map Th.int).length ≤ _; rw [List.length_map]; exact hl) p
theorem dy_lst (js : List Int) : dy js = dy (Th.lst (js.map Th.int)) := (IsTh.eq js).symm
theorem jour_all {ks : List Zq.Kind} {l : List Th} (h : l.length ≤ 400) : tf (jourP ks (.tup l)) = (l.map (isIn 0 ((ks.length : Int) - 1))).all id := by
  refine tf_iff ?_
  rw [all_in]
  constructor
  · rintro ⟨xs, rfl, hb⟩
    exact ⟨xs, rfl, by rw [List.length_map] at h; exact h, fun j hj => by have := hb j hj; omega⟩
  · rintro ⟨js, e, o⟩
    rw [to_tup] at e
    injection e with e
    exact ⟨js, e, fun j hj => by have := o.at_ j hj; omega⟩
def lenIs (n : Int) : Th → Bool
  | .tup l => decide ((l.length : Int) = n)
  | _ => false
/-- the row of one cell: is the thing there one of its versions -/
def oneB (l : List Th) (ls : List (List Int)) (i : Int) : Bool := isIn (-8) 400 (l.getD i.toNat .non) && decide (thI (l.getD i.toNat .non) ∈ ls.getD i.toNat [])
theorem plat_no {n : Int} {wr : List Int} {x : Th} (h : lenIs n x = false) (n0 : 0 ≤ n) : tf (platP n wr x) = false := by
  refine tf_f ?_
  rintro ⟨ps, rfl, o⟩
  have := o.len
  have h : decide ((((ps.map Th.int).length : Nat) : Int) = n) = false := h
  rw [List.length_map, decide_eq_true (by omega)] at h
  cases h
theorem getD_th {l : List Th} {i : Nat} (h : i < l.length) : l[i]? = some (l.getD i .non) := by
  rw [List.getD_eq_getElem?_getD, List.getElem?_eq_getElem h]; rfl
theorem plat_rows {n : Int} {wr : List Int} {l : List Th} {ls : List (List Int)} (n1 : 1 ≤ n) (n8 : n ≤ 8) (hl : (l.length : Int) = n) (hw : wr.length ≤ 400) (v : VAll n wr wr.length ls) : tf (platP n wr (.tup l)) = ((upto n.toNat).map (oneB l ls)).all id := by
  refine tf_iff ?_
  rw [List.all_map, List.all_eq_true]
  have vl := v.ok.len
  constructor
  · intro h
    have key : ∀ i, i < l.length → ∃ z : Int, l[i]? = some (.int z) ∧ (z = -1 - (i : Int) ∨ (0 ≤ z ∧ wr[z.toNat]? = some (i : Int))) := fun i hi => by
      have := h (i : Int) (upto_mem.mpr ⟨by omega, by omega⟩)
      have this : (isIn (-8) 400 (l.getD (i : Int).toNat .non) && decide (thI (l.getD (i : Int).toNat .non) ∈ ls.getD (i : Int).toNat [])) = true := this
      rw [Int.toNat_natCast, Bool.and_eq_true] at this
      obtain ⟨z, hz, _, _⟩ := isIn_ex this.1
      have hm := of_decide_eq_true this.2
      rw [hz] at hm
      have hg : ls[i]? = some (ls.getD i []) := by rw [List.getD_eq_getElem?_getD, List.getElem?_eq_getElem (show i < ls.length by omega)]; rfl
      exact ⟨z, by rw [getD_th hi, hz], (v.ok.at_ i _ hg).2.2 z hm⟩
    have e : l = (l.map thI).map Th.int := by
      rw [List.map_map]
      have : l.map (Th.int ∘ thI) = l.map id := List.map_congr_left fun y hy => by
        obtain ⟨i, hi⟩ := List.mem_iff_getElem?.mp hy
        obtain ⟨z, hz, _⟩ := key i (List.getElem?_eq_some_iff.mp hi).1
        rw [hi] at hz
        injection hz with hz
        rw [hz]; rfl
      rw [this, List.map_id]
    refine ⟨l.map thI, by rw [to_tup, ← e], by rw [List.length_map]; omega, fun c u hu => ?_⟩
    rw [List.getElem?_map] at hu
    have hc : c < l.length := by
      cases q : l[c]? with
      | none => rw [q] at hu; cases hu
      | some _ => exact (List.getElem?_eq_some_iff.mp q).1
    obtain ⟨z, hz, hv⟩ := key c hc
    rw [hz] at hu
    have hu : z = u := by simpa [thI] using hu
    rw [← hu]; exact hv
  · rintro ⟨ps, e, o⟩ i hi
    have hi := upto_mem.mp hi
    rw [to_tup] at e
    injection e with e
    subst e
    rw [List.length_map] at hl
    have hlt : i.toNat < ps.length := by omega
    have hp : ps[i.toNat]? = some ps[i.toNat] := List.getElem?_eq_getElem hlt
    have hv := o.at_ i.toNat _ hp
    have hd : (ps.map Th.int).getD i.toNat .non = Th.int ps[i.toNat] := by rw [List.getD_eq_getElem?_getD, List.getElem?_map, hp]; rfl
    have hg : ls[i.toNat]? = some (ls.getD i.toNat []) := by rw [List.getD_eq_getElem?_getD, List.getElem?_eq_getElem (show i.toNat < ls.length by omega)]; rfl
    have hvl : ps[i.toNat] = -1 - (i.toNat : Int) ∨ (0 ≤ ps[i.toNat] ∧ ps[i.toNat] < (wr.length : Int) ∧ wr[ps[i.toNat].toNat]? = some (i.toNat : Int)) := by
      rcases hv with z | ⟨z, z2⟩
      · exact .inl z
      · have := (List.getElem?_eq_some_iff.mp z2).1
        exact .inr ⟨z, by omega, z2⟩
    show (isIn (-8) 400 ((ps.map Th.int).getD i.toNat .non) && decide (thI ((ps.map Th.int).getD i.toNat .non) ∈ ls.getD i.toNat [])) = true
    rw [hd, Bool.and_eq_true]
    refine ⟨?_, decide_eq_true (v.all _ _ hg _ hvl)⟩
    show (decide (-8 ≤ ps[i.toNat]) && decide (ps[i.toNat] ≤ 400)) = true
    rw [decide_eq_true (by omega), decide_eq_true (by omega)]; rfl
theorem sc__law_journals_right : FnScope ["_law_hand_here", "_law_table_here", "_law_cells", "_law_kinds_here", "_law_line", "_law_history_here", "_law_every", "_law_again", "_law_odd_here", "_law_at", "_law_some", "_law_thing", "_law_due_here", "_law_plates", "_law_cell", "_law_wrong", "_law_rows", "_law_one"] ["_law_hand_here", "_law_table_here", "_law_cells", "_law_kinds_here"] (defScope s__law_journals_right) := ⟨rfl, rfl, rfl, by decide +kernel, rfl, by decide +kernel, by decide +kernel⟩
theorem ok__law_journals_right {f : Addr} {fd : FuncData} (F : Fun c.K "_law_journals_right" "_law_journals_right" s__law_journals_right f fd) (T : Tb mg) (X : Tx c mg) (g__law_journal : Cal P w c.K mg base 2 "_law_journal" (spOf c 3 1 sp__law_journal) []) (g__law_history : Cal P w c.K mg base 1 "_law_history" (spOf c 3 0 sp__law_history) []) (g__law_versions : Cal P w c.K mg base 1 "_law_versions" (spOf c 2 0 sp__law_versions) []) (g__law_odd : Cal P w c.K mg base 3 "_law_odd" (spOf c 2 1 sp__law_odd) []) (g__law_draw : Cal P w c.K mg base 1 "_law_draw" (spOf c 2 1 sp__law_draw) []) (g__law_any : Cal P w c.K mg base 2 "_law_any" (spOf c 2 1 sp__law_any) []) (g__law_is_int : Cal P w c.K mg base 1 "_law_is_int" (spOf c 3 0 sp__law_is_int) []) (g__law_flag : Cal P w c.K mg base 1 "_law_flag" (spOf c 2 0 sp__law_flag) []) (g_is_journal : Cal P w c.K mg base 3 "is_journal" (spOf c 2 0 sp_is_journal) []) (g_is_plates : Cal P w c.K mg base 5 "is_plates" (spOf c 3 0 sp_is_plates) []) :
    FnOk P w c.K mg base CX0 6 f fd ["_law_hand_here", "_law_table_here", "_law_cells", "_law_kinds_here"] (spOf c 4 1 sp__law_journals_right) := by
  refine F.ok sc__law_journals_right (fun vs H Q E h => ?_) (fun cdv A outer s H vs Q E hr h => ?_)
  · obtain ⟨as, F, ds, M, P, _, hn, _, rd, _⟩ := h
    rw [rd.length, hn]; rfl
  · have hu1 : (A.deeper (envOfC "_law_journals_right" (defScope s__law_journals_right) s.heap.objs.size f cdv)).units + 1 < cLine := hu_of hr
    have hu8 : (A.deeper (envOfC "_law_journals_right" (defScope s__law_journals_right) s.heap.objs.size f cdv)).units + 8 < cLine := by have := hr.un; omega
    have hu16 : (A.deeper (envOfC "_law_journals_right" (defScope s__law_journals_right) s.heap.objs.size f cdv)).units + 16 < cLine := by have := hr.un; omega
    have hu64 : (A.deeper (envOfC "_law_journals_right" (defScope s__law_journals_right) s.heap.objs.size f cdv)).units + 64 < cLine := by have := hr.un; omega
    have hu65 : (A.deeper (envOfC "_law_journals_right" (defScope s__law_journals_right) s.heap.objs.size f cdv)).units + 65 < cLine := by have := hr.un; omega
    refine ⟨_, (pss_cons (ps_set (i := 4) sc__law_journals_right.nd rfl (Or.inl rfl) (pe_c g__law_journal hr (by decide) rfl (pa_cons (pv 0) (pa_cons (pv 3) (pa_cons pe_int pa_nil)))))
        (pss_cons (ps_set (i := 5) sc__law_journals_right.nd rfl (Or.inl rfl) (pe_c g__law_history hr (by decide) rfl (pa_cons (pv 2) (pa_cons (pv 3) (pa_cons (pv 4) pa_nil)))))
        (pss_cons (ps_set (i := 6) sc__law_journals_right.nd rfl (Or.inr rfl) (pe_c g__law_versions hr (by decide) rfl (pa_cons (pv 2) (pa_cons (pe_ix (r := rIxT c.K) ix_tup (pv 5) pe_int (fun _ _ => rfl)) pa_nil))))
        (pss_cons (ps_for PassesOwn.never rfl (pi_range1 rfl T.b_range (pa_cons pe_int pa_nil)) (pg_name (i := 7) sc__law_journals_right.nd rfl (Or.inl rfl)) (pss_cons (ps_set (i := 8) sc__law_journals_right.nd rfl (Or.inl rfl) (pe_c g__law_odd hr (by decide) rfl (pa_cons (pv 0) (pa_cons (pv 1) pa_nil))))
        (pss_cons (ps_set (i := 9) sc__law_journals_right.nd rfl (Or.inl rfl) (pe_c g__law_draw hr (by decide) rfl (pa_cons (pv 0) (pa_cons (pe_op op_add (pe_callB (r := Zq.rLen c.K) call_len_seq (by rfl) T.b_len (by decide +kernel) (pa_cons (pv 4) pa_nil)) pe_int) pa_nil))))
        (pss_cons (ps_set (i := 10) sc__law_journals_right.nd rfl (Or.inl rfl) (pe_lst (pa_cons (pv 4) (pa_cons (pe_callTy (r := Zq.rLst c.K) call_list_of (by rfl) T.b_list (by decide +kernel) (pa_cons (pv 4) pa_nil)) (pa_cons (pe_op (r := rCatA c.K) op_catA (pe_op (r := rCatA c.K) op_catA (pe_slice (r := rSlA c.K) sl_tupA (pv 4) po_none (po_some (pv 9))) (pe_tup (pa_cons (pv 8) pa_nil))) (pe_slice (r := rSlA c.K) sl_tupA (pv 4) (po_some (pe_op op_add (pv 9) pe_int)) po_none)) (pa_cons (pe_op (r := rCatA c.K) op_catA (pv 4) (pe_tup (pa_cons (pe_callB (r := Zq.rLen c.K) call_len_seq (by rfl) T.b_len (by decide +kernel) (pa_cons (pv 3) pa_nil)) pa_nil))) (pa_cons (pe_op (r := rCatA c.K) op_catA (pv 4) (pe_tup (pa_cons pe_bl pa_nil))) (pa_cons (pv 8) pa_nil))))))))
        (pss_cons (ps_set (i := 11) sc__law_journals_right.nd rfl (Or.inr rfl) (pe_c g__law_any hr (by decide) rfl (pa_cons (pv 0) (pa_cons (pv 10) pa_nil))))
        (pss_cons (ps_set (i := 12) sc__law_journals_right.nd rfl (Or.inl rfl) (pe_and (pe_callB (r := rIsi c.K) call_isi (by rfl) T.b_isinstance (by decide +kernel) (pa_cons (pv 11) (pa_cons (pe_bltn (v := .ty "tuple") rfl T.b_tuple (by decide +kernel) rfl) pa_nil))) (pe_one (pe_callB (r := rAll c.K) (cr_all rfl) (by rfl) T.b_all (by decide +kernel) (pa_cons (pe_lc (own := [("_law_one", 17)]) (g := (gName 17)) rfl sc__law_journals_right.nd (pi_tup (pv 11)) (blkOk_by (N := ["_law_hand_here", "_law_table_here", "_law_cells", "_law_kinds_here", "_law_line", "_law_history_here", "_law_every", "_law_again", "_law_odd_here", "_law_at", "_law_some", "_law_thing", "_law_due_here", "_law_plates", "_law_cell", "_law_wrong", "_law_rows", "_law_one"]) (sc := defScope s__law_journals_right) (by decide +kernel)) (fun _ _ _ _ _ => (pg_name (i := 17) sc__law_journals_right.nd rfl (Or.inl rfl))) (fun _ _ _ _ _ => pts_nil) (fun _ _ _ _ _ => (pe_c g__law_is_int hr (by decide) rfl (pa_cons (pv 17) (pa_cons pe_int (pa_cons (pe_op op_sub (pe_callB (r := Zq.rLen c.K) call_len_seq (by rfl) T.b_len (by decide +kernel) (pa_cons (pv 3) pa_nil)) pe_int) pa_nil)))))) pa_nil)))))
        (pss_cons (ps_if (pt_not (pt_val (pe_c g__law_flag hr (by decide) rfl (pa_cons (pe_c g_is_journal hr (by decide) rfl (pa_cons (pv 1) (pa_cons (pv 11) pa_nil))) (pa_cons (pv 12) pa_nil))))) (pss_one (ps_ret pe_bl)) pss_nil)
        (pss_cons (ps_set (i := 13) sc__law_journals_right.nd rfl (Or.inl rfl) (pe_callTy (r := Zq.rTup c.K) call_tuple_of (by rfl) T.b_tuple (by decide +kernel) (pa_cons (pe_lc (own := [("_law_one", 17)]) (g := (gName 17)) rfl sc__law_journals_right.nd (pi_list (pv 6)) (blkOk_by (N := ["_law_hand_here", "_law_table_here", "_law_cells", "_law_kinds_here", "_law_line", "_law_history_here", "_law_every", "_law_again", "_law_odd_here", "_law_at", "_law_some", "_law_thing", "_law_due_here", "_law_plates", "_law_cell", "_law_wrong", "_law_rows", "_law_one"]) (sc := defScope s__law_journals_right) (by decide +kernel)) (fun _ _ _ _ _ => (pg_name (i := 17) sc__law_journals_right.nd rfl (Or.inl rfl))) (fun _ _ _ _ _ => pts_nil) (fun _ _ _ _ _ => (pe_c g__law_any hr (by decide) rfl (pa_cons (pv 0) (pa_cons (pv 17) pa_nil))))) pa_nil)))
        (pss_cons (ps_set (i := 14) sc__law_journals_right.nd rfl (Or.inl rfl) (pe_c g__law_draw hr (by decide) rfl (pa_cons (pv 0) (pa_cons (pv 2) pa_nil))))
        (pss_cons (ps_set (i := 15) sc__law_journals_right.nd rfl (Or.inl rfl) (pe_c g__law_any hr (by decide) rfl (pa_cons (pv 0) (pa_cons (pe_lst (pa_cons (pe_op op_sub (pe_un un_neg pe_int) (pv 14)) (pa_cons (pe_op op_sub (pe_un un_neg pe_int) (pv 14)) (pa_cons (pe_un un_neg (pv 14)) (pa_cons (pe_callB (r := Zq.rLen c.K) call_len_seq (by rfl) T.b_len (by decide +kernel) (pa_cons (pv 4) pa_nil)) (pa_cons (pe_c g__law_draw hr (by decide) rfl (pa_cons (pv 0) (pa_cons (pe_op op_add (pe_callB (r := Zq.rLen c.K) call_len_seq (by rfl) T.b_len (by decide +kernel) (pa_cons (pv 4) pa_nil)) pe_int) pa_nil))) (pa_cons pe_bl (pa_cons (pv 8) pa_nil)))))))) pa_nil))))
        (pss_cons (ps_set (i := 10) sc__law_journals_right.nd rfl (Or.inl rfl) (pe_lst (pa_cons (pv 13) (pa_cons (pe_op (r := rCatA c.K) op_catA (pe_op (r := rCatA c.K) op_catA (pe_slice (r := rSlA c.K) sl_tupA (pv 13) po_none (po_some (pv 14))) (pe_tup (pa_cons (pv 15) pa_nil))) (pe_slice (r := rSlA c.K) sl_tupA (pv 13) (po_some (pe_op op_add (pv 14) pe_int)) po_none)) (pa_cons (pe_slice (r := rSlA c.K) sl_tupA (pv 13) po_none (po_some (pe_un un_neg pe_int))) (pa_cons (pe_op (r := rCatA c.K) op_catA (pv 13) (pe_tup (pa_cons (pe_un un_neg pe_int) pa_nil))) (pa_cons (pe_callTy (r := Zq.rLst c.K) call_list_of (by rfl) T.b_list (by decide +kernel) (pa_cons (pv 13) pa_nil)) (pa_cons (pv 8) pa_nil))))))))
        (pss_cons (ps_set (i := 11) sc__law_journals_right.nd rfl (Or.inr rfl) (pe_c g__law_any hr (by decide) rfl (pa_cons (pv 0) (pa_cons (pv 10) pa_nil))))
        (pss_cons (ps_set (i := 12) sc__law_journals_right.nd rfl (Or.inl rfl) (pe_and (pe_callB (r := rIsi c.K) call_isi (by rfl) T.b_isinstance (by decide +kernel) (pa_cons (pv 11) (pa_cons (pe_bltn (v := .ty "tuple") rfl T.b_tuple (by decide +kernel) rfl) pa_nil))) (pe_one (pe_cmpR op_eq (pe_callB (r := Zq.rLen c.K) call_len_seq (by rfl) T.b_len (by decide +kernel) (pa_cons (pv 11) pa_nil)) (pv 2) (nomark _)))))
        (pss_cons (ps_if (pt_val (pv 12)) (pss_cons (ps_setLc (i := 16) (own := [("_law_one", 17)]) (g := (gName 17)) rfl sc__law_journals_right.nd rfl rfl (sw_true rfl rfl rfl (by decide +kernel)) (pi_range1 rfl T.b_range (pa_cons (pv 2) pa_nil)) (blkOk_by (N := ["_law_hand_here", "_law_table_here", "_law_cells", "_law_kinds_here", "_law_line", "_law_history_here", "_law_every", "_law_again", "_law_odd_here", "_law_at", "_law_some", "_law_thing", "_law_due_here", "_law_plates", "_law_cell", "_law_wrong", "_law_rows", "_law_one"]) (sc := defScope s__law_journals_right) (by decide +kernel)) (fun _ _ _ _ _ => (pg_name (i := 17) sc__law_journals_right.nd rfl (Or.inl rfl))) (fun _ _ _ _ _ => pts_nil) (fun _ _ _ _ _ => (pe_and (pe_c g__law_is_int hr (by decide) rfl (pa_cons (pe_ix (r := rIxT c.K) ix_tup (pv 11) (pv 17) (fun _ _ => rfl)) (pa_cons (pe_un un_neg pe_int) (pa_cons pe_int pa_nil)))) (pe_one (pe_cmpR (r := rIn c.K false) op_in_seq (pe_ix (r := rIxT c.K) ix_tup (pv 11) (pv 17) (fun _ _ => rfl)) (pe_ix (r := rIxL c.K) ix_list (pv 6) (pv 17) (fun _ _ => rfl)) (by first | rfl | decide))))))
        (pss_one (ps_set (i := 12) sc__law_journals_right.nd rfl (Or.inl rfl) (pe_callB (r := rAll c.K) (cr_all rfl) (by rfl) T.b_all (by decide +kernel) (pa_cons (pv 16) pa_nil))))) pss_nil)
        (pss_one (ps_if (pt_not (pt_val (pe_c g__law_flag hr (by decide) rfl (pa_cons (pe_c g_is_plates hr (by decide) rfl (pa_cons (pv 1) (pa_cons (pv 4) (pa_cons (pv 11) pa_nil)))) (pa_cons (pv 12) pa_nil))))) (pss_one (ps_ret pe_bl)) pss_nil))))))))))))))))
        (pss_one (ps_ret pe_bl)))))), ?_⟩
    refine body_ok h (by decide) fun ds M R hds hM hS => ?_
    obtain ⟨n, ks, rfl, rfl, hk, hP⟩ := hS
    have n1 := hk.n1
    have n8 := hk.n8
    have k1 := hk.k1
    have k40 := hk.k40
    show WS c 1 _ [some (dy (MR.mk 0)), some (dy (Tab.mk n ⟨ks⟩)), some (dy n), some (dy (Tp.mk ks)), none, none, none, none, none, none, none, none, none, none, none, none, none, none] [cHand] _ _
    walk_at "zs"
    · intro js hj jl
      have o := hok hk js hj.at_
      have wb := wr_b hk hj
      have wl := o.wl
      walk_at "zs"
      · intro ls hv
        have vl := hv.ok.len
        walk_at "zs"
        refine ws_for (S := Unit) (β := Int) (ts := [7]) (fun _ _ => True) (fun _ => [some (dy (MR.mk 0)), some (dy (Tab.mk n ⟨ks⟩)), some (dy n), some (dy (Tp.mk ks)), some (dy (Tp.mk js)), none, some (dy ls), none, none, none, none, none, none, none, none, none, none, none]) (fun _ => [cHand]) ?_
        refine wi_range ?_
        walk_at "zs"
        refine ⟨3, rfl, by decide, by decide, upto 3, rfl, (), trivial, by walk_at "zcut", fun pre y post s e hJ => ?_, fun s hJ => ?_⟩
        · walk_at "zs"
          · intro x hx
            walk_at "zs"
            · intro at_ a0 a1
              have a1 : at_ < ((js.length : Nat) : Int) + 1 := a1
              walk_at "zs"
              refine we_lst (α := Th) ?_
              walk_at "zs"
              refine rc_lstTF ?_
              walk_at "zs"
              refine we_slA (α := Int) ?_
              walk_at "zs"
              refine wo_none (wo_some ?_)
              walk_at "zs"
              rw [cut_ahead js a0]
              refine tup_tp (α := Th) [x] rfl (by simp) ?_
              refine rr_catTI (by show (js.take at_.toNat).length + 1 ≤ _; rw [List.length_take]; omega) ?_
              walk_at "zs"
              refine we_slA (α := Int) ?_
              walk_at "zs"
              refine wo_some ?_
              walk_at "zs"
              refine wo_none ?_
              rw [cut_behind js (by omega)]
              refine rr_catIT (by show ((js.take at_.toNat).map Th.int ++ [x]).length + (js.drop (at_ + 1).toNat).length ≤ _; rw [List.length_append, List.length_map, List.length_take, List.length_drop]; simp only [List.length_cons, List.length_nil]; omega) ?_
              walk_at "zs"
              refine tup_tp (α := Int) [(ks.length : Int)] rfl (by simp) ?_
              refine rr_catT (xs := Tp.mk js) (by show js.length + 1 ≤ _; omega) ?_
              walk_at "zs"
              refine tup_tp (α := Th) [.bl true] (by simp only [List.map_cons, List.map_nil, th_bl]) (by simp) ?_
              refine rr_catTI (by show js.length + 1 ≤ _; omega) ?_
              have fj : fit 100 (js.map Th.int) := fit_ints (by omega)
              have fj' := fit_mono (show 100 ≤ 101 by decide) fj
              have wx : x.wid 101 := Th.wid_mono (by decide) x hx
              have p1 : fit 101 ((js.take at_.toNat).map Th.int ++ [x] ++ (js.drop (at_ + 1).toNat).map Th.int) := by
                have := fit_put fj wx at_.toNat (at_ + 1).toNat (by omega)
                rwa [← List.map_take, ← List.map_drop] at this
              have p2 : fit 101 ((js ++ [(ks.length : Int)]).map Th.int) := by rw [List.map_append]; exact fit_more fj (wid_int _)
              have p3 : fit 101 (js.map Th.int ++ [.bl true]) := fit_more fj (by simp [Th.wid])
              walk_at "zs"
              refine ⟨[.tup (js.map Th.int), .lst (js.map Th.int), .tup ((js.take at_.toNat).map Th.int ++ [x] ++ (js.drop (at_ + 1).toNat).map Th.int), .tup ((js ++ [(ks.length : Int)]).map Th.int), .tup (js.map Th.int ++ [.bl true]), x], by simp only [List.map_cons, List.map_nil, th_tup, th_lst, th_tints, th_ints], by simp, ?_⟩
              walk_at "zs"
              · intro thing hthing
                have wt : thing.wid 101 := by
                  simp only [List.mem_cons, List.not_mem_nil, or_false] at hthing
                  rcases hthing with rfl | rfl | rfl | rfl | rfl | rfl <;> first | exact wx | exact fit_tup.mpr p1 | exact fit_tup.mpr p2 | exact fit_tup.mpr p3 | exact fit_tup.mpr fj' | exact wid_lst.mpr fj'
                clear hthing p1 p2 p3
                refine ws_seqJ (fun e m => m = [cHand] ∧ Frg e [some (dy (MR.mk 0)), some (dy (Tab.mk n ⟨ks⟩)), some (dy n), some (dy (Tp.mk ks)), some (dy (Tp.mk js)), none, some (dy ls), none, some (dy x), none, none, some (dy thing), some (dy (tf (jourP ks thing))), none, none, none, none, none]) ?_ fun e m hJ => ?_
                · cases thing with
                  | tup l =>
                    have lw := (wid_tup.mp wt).1
                    rw [jour_all (show l.length ≤ 400 by omega), th_tup]
                    walk_at "zs"
                    refine we_lcM (β := Th) (γ := Bool) [17] (isIn 0 ((ks.length : Int) - 1)) (fun t ht => ht) (by walk_at "zok") ?_
                    refine wi_tup (α := Th) ?_
                    walk_at "zs"
                    refine ⟨⟨l⟩, rfl, rfl, l, rfl, by omega, fun y hy acc => ?_, ?_⟩
                    · walk_at "zs"
                      refine ⟨rfl, ?_⟩
                      walk_at "zs"
                      exact ⟨rfl, rfl⟩
                    · walk_at "zs"
                      exact ⟨rfl, by walk_at "zok"⟩
                  | _ =>
                    rw [tf_f (fun ⟨qs, e, _⟩ => by cases e)]
                    walk_at "zs"
                    exact ⟨rfl, by walk_at "zok"⟩
                · obtain ⟨rfl, hf⟩ := hJ
                  refine ws_frg hf ?_
                  have e1 : (!decide (tf (jourP (Tab.mk n ⟨ks⟩).kinds.l thing) = tf (jourP ks thing))) = false := by rw [decide_eq_true rfl]; rfl
                  walk_at "zs"
                  · refine we_lcR (β := List Int) (γ := Int) [17] (fun l z => z ∈ l) (fun t ht => ht) (by walk_at "zok") ?_
                    refine wi_list (α := List Int) ?_
                    walk_at "zs"
                    refine ⟨ls, rfl, rfl, ls, rfl, by omega, fun l hl acc => ?_, fun ps hps => ?_⟩
                    · obtain ⟨i, hi⟩ := List.mem_iff_getElem?.mp hl
                      obtain ⟨a1, a2, a3⟩ := hv.ok.at_ i l hi
                      have a4 : l.length ≤ (hist n ks js).wr.length + 1 := a2
                      walk_at "zs"
                      refine ⟨rfl, ?_⟩
                      walk_at "zs"
                      · intro z hz
                        exact ⟨z, rfl, rfl, hz⟩
                      · exact a1
                      · omega
                    have pok := vok_plates hv.ok hps
                    have pl := pok.len
                    clear hps
                    walk_at "zs"
                    · intro cell c0 c1
                      walk_at "zs"
                      refine we_lst (α := Th) ?_
                      walk_at "zs"
                      · intro q q0 q1
                        walk_at "zs"
                        refine ⟨[.int (-1 - cell), .int (-2 - cell), .int (-cell), .int (js.length : Int), .int q, .bl true, x], by simp only [List.map_cons, List.map_nil, th_int, th_bl], by simp, ?_⟩
                        walk_at "zs"
                        · intro wrong hwrong
                          have ww : wrong.wid 101 := by
                            simp only [List.mem_cons, List.not_mem_nil, or_false] at hwrong
                            rcases hwrong with rfl | rfl | rfl | rfl | rfl | rfl | rfl <;> first | exact wx | simp [Th.wid]
                          clear hwrong
                          walk_at "zs"
                          refine we_lst (α := Th) ?_
                          walk_at "zs"
                          refine we_slA (α := Int) ?_
                          walk_at "zs"
                          refine wo_none (wo_some ?_)
                          walk_at "zs"
                          rw [cut_ahead ps c0]
                          refine tup_tp (α := Th) [wrong] rfl (by simp) ?_
                          refine rr_catTI (by show (ps.take cell.toNat).length + 1 ≤ _; rw [List.length_take]; omega) ?_
                          walk_at "zs"
                          refine we_slA (α := Int) ?_
                          walk_at "zs"
                          refine wo_some ?_
                          walk_at "zs"
                          refine wo_none ?_
                          rw [cut_behind ps (by omega)]
                          refine rr_catIT (by show ((ps.take cell.toNat).map Th.int ++ [wrong]).length + (ps.drop (cell + 1).toNat).length ≤ _; rw [List.length_append, List.length_map, List.length_take, List.length_drop]; simp only [List.length_cons, List.length_nil]; omega) ?_
                          walk_at "zs"
                          refine we_slA (α := Int) ?_
                          walk_at "zs"
                          refine wo_none (wo_some ?_)
                          walk_at "zs"
                          rw [cut_last ps]
                          refine tup_tp (α := Int) [-1] rfl (by simp) ?_
                          refine rr_catT (xs := Tp.mk ps) (by show ps.length + 1 ≤ _; omega) ?_
                          walk_at "zs"
                          refine rc_lstTF ?_
                          have fp : fit 100 (ps.map Th.int) := fit_ints (by omega)
                          have fp' := fit_mono (show 100 ≤ 101 by decide) fp
                          have p1 : fit 101 ((ps.take cell.toNat).map Th.int ++ [wrong] ++ (ps.drop (cell + 1).toNat).map Th.int) := by
                            have := fit_put fp ww cell.toNat (cell + 1).toNat (by omega)
                            rwa [← List.map_take, ← List.map_drop] at this
                          have p2 : fit 101 ((ps.take (ps.length - 1)).map Th.int) := by rw [List.map_take]; exact fit_less fp _
                          have p3 : fit 101 ((ps ++ [-1]).map Th.int) := by rw [List.map_append]; exact fit_more fp (wid_int _)
                          walk_at "zs"
                          refine ⟨[.tup (ps.map Th.int), .tup ((ps.take cell.toNat).map Th.int ++ [wrong] ++ (ps.drop (cell + 1).toNat).map Th.int), .tup ((ps.take (ps.length - 1)).map Th.int), .tup ((ps ++ [-1]).map Th.int), .lst (ps.map Th.int), x], by simp only [List.map_cons, List.map_nil, th_tup, th_lst, th_tints, th_ints], by simp, ?_⟩
                          walk_at "zs"
                          · intro thing2 hthing
                            have wt2 : thing2.wid 101 := by
                              simp only [List.mem_cons, List.not_mem_nil, or_false] at hthing
                              rcases hthing with rfl | rfl | rfl | rfl | rfl | rfl <;> first | exact wx | exact fit_tup.mpr p1 | exact fit_tup.mpr p2 | exact fit_tup.mpr p3 | exact fit_tup.mpr fp' | exact wid_lst.mpr fp'
                            clear hthing p1 p2 p3
                            refine ws_seqJ (fun e m => m = [cHand] ∧ Frg e [some (dy (MR.mk 0)), some (dy (Tab.mk n ⟨ks⟩)), some (dy n), some (dy (Tp.mk ks)), some (dy (Tp.mk js)), none, some (dy ls), none, none, none, none, some (dy thing2), some (dy (lenIs n thing2)), none, none, none, none, none]) ?_ fun e m hJ => ?_
                            · cases thing2 with
                              | tup l =>
                                rw [th_tup, show lenIs n (.tup l) = decide ((l.length : Int) = n) from rfl]
                                walk_at "zs"
                                exact ⟨rfl, by walk_at "zok"⟩
                              | _ =>
                                rw [show lenIs n _ = false from rfl]
                                walk_at "zs"
                                exact ⟨rfl, by walk_at "zok"⟩
                            obtain ⟨rfl, hf⟩ := hJ
                            refine ws_frg hf ?_
                            refine ws_seqJ (fun e m => m = [cHand] ∧ Frg e [some (dy (MR.mk 0)), some (dy (Tab.mk n ⟨ks⟩)), some (dy n), some (dy (Tp.mk ks)), some (dy (Tp.mk js)), none, some (dy ls), none, none, none, none, some (dy thing2), some (dy (tf (platP n (hist n ks js).wr thing2))), none, none, none, none, none]) ?_ fun e m hJ => ?_
                            · cases hlen : lenIs n thing2 with
                              | false =>
                                rw [plat_no hlen (by omega)]
                                walk_at "zs"
                                exact ⟨rfl, by walk_at "zok"⟩
                              | true =>
                                cases thing2 with
                                | tup l =>
                                  have hll : (l.length : Int) = n := of_decide_eq_true hlen
                                  rw [plat_rows n1 n8 hll wb.1 hv, th_tup]
                                  walk_at "zs"
                                  refine we_lcM (β := Int) (γ := Bool) [17] (oneB l ls) (fun t ht => ht) (by walk_at "zok") ?_
                                  refine wi_range ?_
                                  walk_at "zs"
                                  refine ⟨n, rfl, by omega, by omega, rfl, upto n.toNat, rfl, by rw [upto_len]; omega, fun y hy acc => ?_, ?_⟩
                                  · have hy := upto_mem.mp hy
                                    walk_at "zs"
                                    refine ⟨rfl, ?_⟩
                                    walk_at "zs"
                                    obtain ⟨y0, y1⟩ := hy
                                    have ylt : y.toNat < l.length := (Int.toNat_lt y0).mpr (Int.lt_of_lt_of_le y1 (by omega))
                                    have yl2 : y.toNat < ls.length := by omega
                                    have hg : ls[y.toNat]? = some (ls.getD y.toNat []) := by rw [List.getD_eq_getElem?_getD, List.getElem?_eq_getElem yl2]; rfl
                                    have ht := getD_th ylt
                                    have eo : oneB l ls y = (isIn (-8) 400 (l.getD y.toNat .non) && decide (thI (l.getD y.toNat .non) ∈ ls.getD y.toNat [])) := rfl
                                    rw [eo]
                                    generalize l.getD y.toNat .non = z at ht
                                    refine rr_ixT (xs := Tp.mk l) y0 ht ?_
                                    walk_at "zs"
                                    cases hb : isIn (-8) 400 z with
                                    | false =>
                                      walk_at "zs"
                                      exact ⟨rfl, rfl⟩
                                    | true =>
                                      obtain ⟨v, rfl, _, _⟩ := isIn_ex hb
                                      walk_at "zs"
                                      refine rr_ixT (xs := Tp.mk l) y0 ht ?_
                                      rw [th_int]
                                      walk_at "zs"
                                      refine rr_ixL (xs := ls) y0 hg ?_
                                      walk_at "zs"
                                      exact ⟨rfl, rfl⟩
                                  · walk_at "zs"
                                    exact ⟨rfl, by walk_at "zok"⟩
                                | _ => cases hlen
                            obtain ⟨rfl, hf⟩ := hJ
                            refine ws_frg hf ?_
                            have e1 : (!decide (tf (platP (Tab.mk n ⟨ks⟩).cells (hist (Tab.mk n ⟨ks⟩).cells (Tab.mk n ⟨ks⟩).kinds.l js).wr thing2) = tf (platP n (hist n ks js).wr thing2))) = false := by show (!decide (tf (platP n (hist n ks js).wr thing2) = tf (platP n (hist n ks js).wr thing2))) = false; simp
                            walk_at "zs"
                            · exact ⟨(), trivial, by walk_at "zcut"⟩
                            · exact hk
                            · exact hj
                          · simp
                          · simp
                        · simp
                        · simp
                      · show 1 ≤ ((js.length : Nat) : Int) + 1; omega
                      · show ((js.length : Nat) : Int) + 1 ≤ 1000; omega
                    · omega
                    · omega
                  · show ks.length ≤ 1000; omega
              · simp
              · simp
            · show 1 ≤ ((js.length : Nat) : Int) + 1; omega
            · show ((js.length : Nat) : Int) + 1 ≤ 1000; omega
          · simp [IsTh.to, Th.wid]
        · walk_at "zs"
          exact hP
      all_goals first | assumption | exact wb.1 | exact wb.2 | omega
    all_goals first | assumption | omega

end
end K01
end
section
set_option Elab.async false
set_option linter.all false
set_option maxRecDepth 100000
set_option maxHeartbeats 4000000
namespace K01
open PySem PySem.Spec PyProof.Rows L2 Zq K02
open C8 (Cal Mak pe_c pe_mk pe_gc)
open IsTh (to)
local macro_rules | `(tactic| walk_at "zq") => `(tactic| first
  | with_reducible refine ws_seq ?_
  | with_reducible refine ws_asg ?_
  | (with_reducible apply ws_asgG)
  | with_reducible refine ws_next ?_
  | with_reducible refine ws_ret ?_
  | with_reducible refine ws_if ?_
  | with_reducible refine ws_drop (te := tCall _ _ _ _) ?_
  | with_reducible refine wsx_seq ?_
  | with_reducible refine wsx_asg ?_
  | with_reducible refine wsx_if ?_
  | with_reducible refine wsx_ret ?_
  | with_reducible refine wsx_next ?_
  | with_reducible refine wsx_raise ?_
  | with_reducible refine as_dy ?_
  | ((with_reducible apply we_var); focus rfl)
  | with_reducible refine we_int ?_
  | with_reducible refine we_bl ?_
  | with_reducible refine we_non ?_
  | with_reducible refine we_ty ?_
  | with_reducible refine we_str ?_
  | with_reducible refine we_op2 ?_
  | with_reducible refine we_neg ?_
  | with_reducible refine we_andV ?_
  | with_reducible refine we_orV ?_
  | with_reducible refine we_notV ?_
  | with_reducible refine we_chain ?_
  | with_reducible refine we_cb ?_
  | with_reducible refine tup_pair ?_
  | with_reducible refine tup_three ?_
  | with_reducible refine tup_nil ?_
  | with_reducible refine we_call ?_
  | with_reducible refine we_callD ?_
  | with_reducible refine we_tup ?_
  | refine we_cells (Tx.cl (by assumption)) (Tx.nc (by assumption)) ?_
  | refine we_kinds (Tx.cl (by assumption)) (Tx.nk (by assumption)) ?_
  | with_reducible refine wt_test ?_
  | with_reducible refine wt_B ?_
  | with_reducible refine wt_not ?_
  | with_reducible refine wt_and ?_
  | with_reducible refine wt_or ?_
  | with_reducible refine wt_yes ?_
  | with_reducible refine wa_cons ?_
  | with_reducible refine wa_nil ?_
  | with_reducible refine rr_II ?_
  | with_reducible refine rr_isTrue ?_
  | with_reducible refine rr_notTrue ?_
  | with_reducible refine rr_isN0 ?_
  | with_reducible refine rr_notN0 ?_
  | with_reducible refine rr_isN ?_
  | with_reducible refine rr_notN ?_
  | with_reducible refine rr_neB ?_
  | with_reducible refine rr_isNo ?_
  | with_reducible refine rr_notNo ?_
  | with_reducible refine rr_IB ?_
  | with_reducible refine rr_eqI ?_
  | with_reducible refine rr_neI ?_
  | with_reducible refine rr_eqB ?_
  | with_reducible refine rr_ixP0 ?_
  | with_reducible refine rr_ixP1 ?_
  | with_reducible refine rr_ix30 ?_
  | with_reducible refine rr_ix31 ?_
  | with_reducible refine rr_ix32 ?_
  | with_reducible refine rr_leK ?_
  | with_reducible refine rr_ltK ?_
  | refine rr_eqD ?_
  | refine rr_neD ?_
  | with_reducible refine rr_inT ?_
  | with_reducible refine rr_ninT ?_
  | with_reducible refine rr_inL ?_
  | with_reducible refine rr_ninL ?_
  | with_reducible refine rc_isi kit_ii ?_
  | with_reducible refine rc_isi kit_ib ?_
  | with_reducible refine rc_isi kit_bb ?_
  | with_reducible refine rc_isi kit_tt ?_
  | refine rc_isInt (Tx.isi (by assumption)) ?_
  | refine rc_isBl (Tx.isi (by assumption)) ?_
  | refine rc_isTup (Tx.isi (by assumption)) ?_
  | refine rc_isStr (Tx.isi (by assumption)) ?_
  | with_reducible refine rc_lenL ?_
  | with_reducible refine rc_lenT ?_
  | with_reducible refine rc_lenP ?_
  | with_reducible refine rc_tupL ?_
  | refine rc_lenM rfl ?_
  | refine rc_tupM rfl ?_
  | ((with_reducible apply rr_inM); focus rfl)
  | ((with_reducible apply rr_ninM); focus rfl)
  | with_reducible apply wg_setM
  | refine ex_l rfl ?_
  | refine ex_d rfl ?_
  | with_reducible refine rc_int ?_
  | with_reducible refine rc_abs ?_
  | with_reducible refine rc_min2 ?_
  | with_reducible refine rc_all ?_
  | with_reducible refine rc_any ?_
  | with_reducible refine wg_name ?_
  | (apply wg_tup2)
  | (apply wg_tup3))
local macro_rules | `(tactic| walk_at "zqs") => `(tactic| repeat walk_at "zq")
local macro_rules | `(tactic| walk_at "zok1") => `(tactic| first
  | exact trivial
  | exact dy_ok _ _
  | exact cLst_ok _ _
  | exact cDic_ok _ _
  | exact hand_ok _
  | exact handX_ok
  | exact okM_nil
  | exact okE_nil
  | exact okDs_nil
  | refine okM_cons ?_ ?_
  | refine okDs_cons ?_ ?_
  | refine okE_none ?_
  | refine okE_cons ?_ ?_
  | exact mr_ok (Nat.le_of_ble_eq_true rfl)
  | exact Free.l _ _
  | exact Free.k _ _
  | exact Free.ok _ _
  | exact Frg.refl _
  | exact Frg.nil
  | refine Frg.same ?_
  | refine Frg.drop ?_)
local macro_rules | `(tactic| walk_at "zok") => `(tactic| repeat walk_at "zok1")
local macro_rules | `(tactic| walk_at "zcut") => `(tactic| exact Cut.mk (by walk_at "zok") (by walk_at "zok") (by walk_at "zok") rfl)
local macro_rules | `(tactic| walk_at "zb") => `(tactic| first
  | with_reducible refine bt_tt ?_
  | with_reducible refine bt_ff ?_
  | with_reducible refine bt_nt ?_
  | with_reducible refine bt_nf ?_
  | with_reducible refine bt_ft ?_
  | with_reducible refine bt_tf ?_
  | with_reducible refine bt_nt' ?_
  | with_reducible refine bt_nf' ?_
  | (with_reducible refine bt_t ?_ ?_
     focus (first | rfl | assumption))
  | (with_reducible refine bt_f ?_ ?_
     focus (first | rfl | assumption))
  | (with_reducible refine bt_t' ?_ ?_
     focus (first | rfl | assumption))
  | (with_reducible refine bt_f' ?_ ?_
     focus (first | rfl | assumption))
  | (refine ca5 ?_ ?_ ?_ ?_ ?_
     focus (first | rfl | decide)
     focus (first | exact Nat.zero_le _ | exact Nat.le_of_ble_eq_true rfl)
     focus (walk_at "zok"; done)
     focus (walk_at "zok"; done))
  | (refine ca3 ?_ ?_ ?_
     focus (walk_at "zok"; done)
     focus (walk_at "zok"; done)))

local macro_rules | `(tactic| walk_at "zu") => `(tactic| first
  | refine u_is_integer ?_
  | refine u_is_integer_th ?_
  | refine u_is_number_below ?_ ?_
  | refine u_is_number_below_th ?_
  | refine u_is_lot ?_
  | refine u_is_lot_of_cells ?_
  | refine u_is_kind ?_
  | refine u__law_is_int ?_ ?_ ?_
  | refine u__law_is_int_th ?_
  | refine u__law_flag ?_
  | refine u__law_history ?_ ?_ ?_
  | refine u__law_draw ?_ ?_ ?_
  | refine u__law_any ?_ ?_ ?_
  | refine u__law_any_th ?_ ?_ ?_
  | refine u__law_kinds ?_ ?_ ?_ ?_ ?_
  | refine u_is_journal ?_ ?_
  | refine u_is_journal_ty ?_ ?_ ?_
  | refine u_check_journal ?_ ?_ ?_
  | refine u_is_version ?_ ?_ ?_
  | refine u_is_plates ?_ ?_ ?_
  | refine u__law_is_lot ?_ ?_
  | refine u__law_is_kind ?_ ?_
  | refine u__law_due ?_ ?_
  | refine u_Table_initC ?_ ?_
  | refine u_Table_eq ?_ ?_
  | refine u__law_told ?_ ?_
  | refine u__law_deep ?_ ?_ ?_
  | refine u__law_odd ?_ ?_
  | refine u__law_table ?_ ?_ ?_
  | refine u__law_journal ?_ ?_ ?_ ?_ ?_
  | refine u__law_versions ?_ ?_ ?_ ?_ ?_
  | refine u__law_bent ?_ ?_ ?_ ?_ ?_ ?_
  | refine u__law_great_right ?_
  | refine u__law_journals_right ?_ ?_
  | refine u_law ?_ ?_)
local macro_rules | `(tactic| walk_at "zs1") => `(tactic| first
  | walk_at "zq"
  | walk_at "zu"
  | walk_at "zb")
local macro_rules | `(tactic| walk_at "zs") => `(tactic| repeat walk_at "zs1")
section
variable {P : Program} {w : World} {c : Cc} {mg : Str → Option Value} {base : Heap}
theorem sc__law_hand : FnScope ["_law_script", "_law_cells", "_law_cell"] ["_law_script"] (defScope s__law_hand) := ⟨rfl, rfl, rfl, by decide +kernel, rfl, by decide +kernel, by decide +kernel⟩
theorem ok__law_hand {f : Addr} {fd : FuncData} (F : Fun c.K "_law_hand" "_law_hand" s__law_hand f fd) (T : Tb mg) (X : Tx c mg) :
    FnOk P w c.K mg base CX0 1 f fd ["_law_script"] (spHand c) := by
  refine F.ok sc__law_hand (fun vs H Q E h => ?_) (fun cdv A outer s H vs Q E hr h => ?_)
  · obtain ⟨F, ns, mm, rd, _⟩ := h
    exact rd.length
  · have hu1 : (A.deeper (envOfC "_law_hand" (defScope s__law_hand) s.heap.objs.size f cdv)).units + 1 < cLine := hu_of hr
    refine ⟨_, (pss_cons (ps_setLc (i := 1) (own := [("_law_cell", 2)]) (g := (gName 2)) rfl sc__law_hand.nd rfl rfl (sw_true rfl rfl rfl (by decide +kernel)) (pi_list (pe_slice (r := rSlL c.K) sl_list (pv 0) po_none (po_some pe_int))) (blkOk_by (N := ["_law_script", "_law_cells", "_law_cell"]) (sc := defScope s__law_hand) (by decide +kernel)) (fun _ _ _ _ _ => (pg_name (i := 2) sc__law_hand.nd rfl (Or.inl rfl))) (fun _ _ _ _ _ => pts_nil) (fun _ _ _ _ _ => (pe_callB (r := Zq.rAbs) call_abs (by rfl) T.b_abs (by decide +kernel) (pa_cons (pe_callTy (r := Zq.rInt1) call_int1 (by rfl) T.b_int (by decide +kernel) (pa_cons (pv 2) pa_nil)) pa_nil))))
        (pss_one (ps_ret (pe_lst (pa_cons (pv 1) (pa_cons pe_int (pa_cons pe_int (pa_cons (pe_op op_add pe_int (pe_callB (r := Zq.rLen c.K) call_len_seq (by rfl) T.b_len (by decide +kernel) (pa_cons (pv 1) pa_nil))) (pa_cons pe_int pa_nil))))))))), ?_⟩
    refine body_hand h (by decide) fun ns hl => ?_
    show WS c 0 _ [some (dy ns), none, none] [] _ _
    walk_at "zs"
    refine we_lcM (β := Int) (γ := Int) [2] (fun x => if x < 0 then -x else x) (fun t ht => ht) trivial ?_
    refine wi_list (α := Int) ?_
    refine we_slTo (n := 63) (α := Int) ?_
    walk_at "zs"
    have tl := List.length_take_le 63 ns
    refine ⟨_, rfl, rfl, ns.take 63, rfl, by omega, fun y hy acc => ?_, ?_⟩
    · walk_at "zs"
      refine ⟨rfl, ?_⟩
      walk_at "zs"
      exact ⟨rfl, rfl⟩
    refine we_lstH ?_
    walk_at "zs"
    exact ⟨_, _, _, _, _, rfl, by decide, rfl, rfl⟩

abbrev Ent := Tab × (Int × Tp Zq.Kind)
structure EntOk (e : Ent) : Prop where
  n : e.1.cells = e.2.1
  k : e.1.kinds = e.2.2
theorem ent_eq {d e : Ent} (h : EntOk d) (h' : EntOk e) : tf ((Sum.inl (Th.tab e.1) : Tz) = .inl (.tab d.1)) = decide (d.2 = e.2) := by
  refine tf_iff ?_
  obtain ⟨⟨a, b⟩, a', b'⟩ := d
  obtain ⟨⟨x, y⟩, x', y'⟩ := e
  obtain ⟨h1, h2⟩ := h
  obtain ⟨h3, h4⟩ := h'
  simp only at h1 h2 h3 h4
  subst h1 h2 h3 h4
  rw [decide_eq_true_eq]
  constructor
  · intro h; injection h with h1 h2; rw [h1, h2]
  · intro h
    injection h with h
    injection h with h
    injection h with h1 h2
    rw [h1, h2]
theorem rr_own {c : Cc} {mg : Str → Option Value} {M : Mem} {P : Dy → Mem → Prop} {t : Tab} {x : Tz} (X : Tx c mg) (hb : ∀ y, x = .inr y → y.cls = c.cls "BadTable") (p : P (dy (tf (x = .inl (.tab t)))) M) : RR c (Zx.rOwnE c.K (c.cls "Table") (spOf c 2 0 (sp_Table_eq c)) false) (dy t) (dy x) M P := rr_eqT X.ist hb (u_Table_eq ⟨_, rfl, p⟩ hb)
theorem rr_ownTT {c : Cc} {mg : Str → Option Value} {M : Mem} {P : Dy → Mem → Prop} {t u : Tab} (X : Tx c mg) (p : P (dy (tf ((Sum.inl (Th.tab u) : Tz) = .inl (.tab t)))) M) : RR c (Zx.rOwnE c.K (c.cls "Table") (spOf c 2 0 (sp_Table_eq c)) false) (dy t) (dy u) M P := by
  rw [← th_tab u, ← dy_inl (β := Exi) (Th.tab u)]
  exact rr_own X (fun y h => by cases h) p
theorem rr_nownTT {c : Cc} {mg : Str → Option Value} {M : Mem} {P : Dy → Mem → Prop} {t u : Tab} (X : Tx c mg) (p : P (dy (!tf ((Sum.inl (Th.tab u) : Tz) = .inl (.tab t)))) M) : RR c (Zx.rOwn c.K (c.cls "Table") (spOf c 2 0 (sp_Table_eq c)) true) (dy t) (dy u) M P := by
  rw [← th_tab u]
  refine rr_neT X.isi (notFirst_of X.ist (x := .inl (.tab u)) (fun y h => by cases h)) ?_
  rw [← dy_inl (β := Exi) (Th.tab u)]
  exact u_Table_eq ⟨_, rfl, p⟩ (fun y h => by cases h)
theorem wid_kinds {B : Nat} {n : Int} {ks : List Zq.Kind} (h : KsOk n ks) (h40 : 40 ≤ B) : (to (Tp.mk ks)).wid B := by
  refine wid_tup.mpr ⟨by rw [List.length_map]; have := h.k40; show ks.length ≤ B; omega, fun x hx => ?_⟩
  obtain ⟨k, hk, rfl⟩ := List.mem_map.mp hx
  have ok := h.at_ k hk
  rw [to_kind]
  refine wid_tup.mpr ⟨by show 2 ≤ B; omega, fun y hy => ?_⟩
  simp only [List.mem_cons, List.not_mem_nil, or_false] at hy
  rcases hy with rfl | rfl
  · exact wid_int _
  · refine wid_tup.mpr ⟨by rw [List.length_map]; have := ok.len; show k.2.l.length ≤ B; omega, fun z hz => ?_⟩
    obtain ⟨i, _, rfl⟩ := List.mem_map.mp hz
    exact wid_int _
theorem sc_law : FnScope ["_law_script", "_law_hand_here", "_law_made", "_law_turn", "_law_again", "_law_one", "_law_parts_of", "_law_cells", "_law_kinds_here", "_law_change", "_law_due_here", "_law_two", "_law_others", "_law_told_here", "_law_table_here", "_law_thing"] ["_law_script"] (defScope s_law) := ⟨rfl, rfl, rfl, by decide +kernel, rfl, by decide +kernel, by decide +kernel⟩
theorem ok_law {f : Addr} {fd : FuncData} (F : Fun c.K "law" "law" s_law f fd) (T : Tb mg) (X : Tx c mg) (g__law_hand : Cal P w c.K mg base 1 "_law_hand" (spHand c) []) (g__law_great_right : Cal P w c.K mg base 8 "_law_great_right" (spOf c 1 1 sp__law_great_right) []) (g__law_draw : Cal P w c.K mg base 1 "_law_draw" (spOf c 2 1 sp__law_draw) []) (g__law_table : Cal P w c.K mg base 3 "_law_table" (spOf c 2 1 sp__law_table) []) (g__law_bent : Cal P w c.K mg base 3 "_law_bent" (spOf c 4 1 sp__law_bent) []) (g__law_odd : Cal P w c.K mg base 3 "_law_odd" (spOf c 2 1 sp__law_odd) []) (g__law_told : Cal P w c.K mg base 7 "_law_told" (spOf c 2 0 sp__law_told) []) (g__law_due : Cal P w c.K mg base 4 "_law_due" (spOf c 2 0 sp__law_due) []) (g__law_journals_right : Cal P w c.K mg base 6 "_law_journals_right" (spOf c 4 1 sp__law_journals_right) []) (g_Table : Mak P w c.K mg base 5 "Table" (c.cls "Table") (spOf c 3 1 (sp_Table_initC c)) []) (x_BadTable : ExF P w c.K mg base 1 "BadTable" (c.cls "BadTable") ["part", "at"]) (eqT : Zx.EqF P w c.K mg base 1 (c.cls "Table") (spOf c 2 0 (sp_Table_eq c))) :
    FnOk P w c.K mg base CX0 9 f fd ["_law_script"] (spOf c 1 0 sp_law) := by
  refine F.ok sc_law (fun vs H Q E h => ?_) (fun cdv A outer s H vs Q E hr h => ?_)
  · obtain ⟨as, F, ds, M, P, _, hn, _, rd, _⟩ := h
    rw [rd.length, hn]; rfl
  · have hu1 : (A.deeper (envOfC "law" (defScope s_law) s.heap.objs.size f cdv)).units + 1 < cLine := hu_of hr
    have hu8 : (A.deeper (envOfC "law" (defScope s_law) s.heap.objs.size f cdv)).units + 8 < cLine := by have := hr.un; omega
    have hu16 : (A.deeper (envOfC "law" (defScope s_law) s.heap.objs.size f cdv)).units + 16 < cLine := by have := hr.un; omega
    have hu64 : (A.deeper (envOfC "law" (defScope s_law) s.heap.objs.size f cdv)).units + 64 < cLine := by have := hr.un; omega
    have hu65 : (A.deeper (envOfC "law" (defScope s_law) s.heap.objs.size f cdv)).units + 65 < cLine := by have := hr.un; omega
    refine ⟨_, (pss_cons (ps_set (i := 1) sc_law.nd rfl (Or.inl rfl) (pe_c g__law_hand hr (by decide) rfl (pa_cons (pv 0) pa_nil)))
        (pss_cons (ps_if (PW.pt (pw_and (pt_cmpR op_eq (pe_c g__law_draw hr (by decide) rfl (pa_cons (pv 1) (pa_cons pe_int pa_nil))) pe_int (nomark _)) (pw_and1 (pt_not (pt_val (pe_c g__law_great_right hr (by decide) rfl (pa_cons (pv 1) pa_nil))))))) (pss_one (ps_ret pe_bl)) pss_nil)
        (pss_cons (ps_set (i := 2) sc_law.nd rfl (Or.inl rfl) (pe_lst pa_nil))
        (pss_cons (ps_for PassesOwn.never rfl (pi_range1 rfl T.b_range (pa_cons pe_int pa_nil)) (pg_name (i := 3) sc_law.nd rfl (Or.inl rfl)) (pss_cons (ps_asg (pe_c g__law_table hr (by decide) rfl (pa_cons (pv 1) (pa_cons pe_int pa_nil))) (pg_tup rfl (pgs_cons (pg_name (i := 7) sc_law.nd rfl (Or.inl rfl)) (pgs_cons (pg_name (i := 8) sc_law.nd rfl (Or.inl rfl)) pgs_nil))))
        (pss_cons (ps_for PassesOwn.never rfl (pi_range1 rfl T.b_range (pa_cons pe_int pa_nil)) (pg_name (i := 4) sc_law.nd rfl (Or.inl rfl)) (pss_cons (ps_asg (pe_tup (pa_cons (pv 7) (pa_cons (pv 8) pa_nil))) (pg_tup rfl (pgs_cons (pg_name (i := 5) sc_law.nd rfl (Or.inr rfl)) (pgs_cons (pg_name (i := 11) sc_law.nd rfl (Or.inl rfl)) pgs_nil))))
        (pss_cons (ps_for PassesOwn.never rfl (pi_range1 rfl T.b_range (pa_cons (pe_c g__law_draw hr (by decide) rfl (pa_cons (pv 1) (pa_cons pe_int pa_nil))) pa_nil)) (pg_name (i := 9) sc_law.nd rfl (Or.inl rfl)) (pss_one (ps_asg (pe_c g__law_bent hr (by decide) rfl (pa_cons (pv 1) (pa_cons (pv 5) (pa_cons (pv 11) (pa_cons (pe_c g__law_odd hr (by decide) rfl (pa_cons (pv 1) (pa_cons pe_int pa_nil))) pa_nil))))) (pg_tup rfl (pgs_cons (pg_name (i := 5) sc_law.nd rfl (Or.inr rfl)) (pgs_cons (pg_name (i := 11) sc_law.nd rfl (Or.inl rfl)) pgs_nil))))))
        (pss_cons (ps_asg (pe_c g__law_told hr (by decide) rfl (pa_cons (pv 5) (pa_cons (pv 11) pa_nil))) (pg_tup rfl (pgs_cons (pg_name (i := 13) sc_law.nd rfl (Or.inl rfl)) (pgs_cons (pg_name (i := 14) sc_law.nd rfl (Or.inl rfl)) pgs_nil))))
        (pss_cons (ps_set (i := 10) sc_law.nd rfl (Or.inl rfl) (pe_c g__law_due hr (by decide) rfl (pa_cons (pv 5) (pa_cons (pv 11) pa_nil))))
        (pss_cons (ps_if (PW.pt (pw_or (pt_cmpR (r := rNeD c.K) (op_neD hu64) (pv 13) (pv 10) (nomark _)) (pw_or1 (pt_val (pe_callB (r := rIsi c.K) call_isi (by rfl) T.b_isinstance (by decide +kernel) (pa_cons (pv 13) (pa_cons (pe_bltn (v := .ty "str") rfl T.b_str (by decide +kernel) rfl) pa_nil))))))) (pss_one (ps_ret pe_bl)) pss_nil)
        (pss_one (ps_if (pt_cmpR (r := Zq.rNotN) op_notN (pv 14) pe_non (nomark _)) (pss_cons (ps_if (PW.pt (pw_or (pt_cmpR op_ne (pe_fld (pv 14) rfl) (pv 5) (nomark _)) (pw_or (pt_cmpR (r := rNeD c.K) (op_neD hu64) (pe_fld (pv 14) rfl) (pv 11) (nomark _)) (pw_or1 (pt_cmpR (r := Zx.rOwn c.K (c.cls "Table") (spOf c 2 0 (sp_Table_eq c)) true) (Zx.op_ownNe eqT hr (by decide)) (pv 14) (pe_mk g_Table hr (by decide) rfl (pa_cons (pv 5) (pa_cons (pv 11) pa_nil))) (nomark _)))))) (pss_one (ps_ret pe_bl)) pss_nil)
        (pss_one (ps_expr (pe_bm PySem.F.plainAttrs_list PySem.F.slot_list_append PySem.F.type_list_append mt_append (pv 2) (pa_cons (pe_tup (pa_cons (pv 14) (pa_cons (pe_tup (pa_cons (pv 5) (pa_cons (pv 11) pa_nil))) pa_nil))) pa_nil))))) pss_nil))))))))
        (pss_one (ps_if (pt_not (pt_val (pe_c g__law_journals_right hr (by decide) rfl (pa_cons (pv 1) (pa_cons (pe_mk g_Table hr (by decide) rfl (pa_cons (pv 7) (pa_cons (pv 8) pa_nil))) (pa_cons (pv 7) (pa_cons (pv 8) pa_nil))))))) (pss_one (ps_ret pe_bl)) pss_nil)))))
        (pss_cons (ps_for PassesOwn.never rfl (pi_list (pv 2)) (pg_tup rfl (pgs_cons (pg_name (i := 5) sc_law.nd rfl (Or.inr rfl)) (pgs_cons (pg_name (i := 6) sc_law.nd rfl (Or.inl rfl)) pgs_nil))) (pss_cons (ps_for PassesOwn.never rfl (pi_list (pv 2)) (pg_tup rfl (pgs_cons (pg_name (i := 11) sc_law.nd rfl (Or.inl rfl)) (pgs_cons (pg_name (i := 12) sc_law.nd rfl (Or.inl rfl)) pgs_nil))) (pss_one (ps_if (PW.pt (pw_or (pt_cmpR op_ne (pe_cmpR (r := Zx.rOwnE c.K (c.cls "Table") (spOf c 2 0 (sp_Table_eq c)) false) (Zx.op_eqE eqT hr (by decide)) (pv 5) (pv 11) (nomark _)) (pe_cmpR (r := rEqD c.K) (op_eqD hu64) (pv 6) (pv 12) (nomark _)) (nomark _)) (pw_or1 (pt_cmpR op_eq (pe_cmpR (r := Zx.rOwn c.K (c.cls "Table") (spOf c 2 0 (sp_Table_eq c)) true) (Zx.op_ownNe eqT hr (by decide)) (pv 5) (pv 11) (nomark _)) (pe_cmpR (r := rEqD c.K) (op_eqD hu64) (pv 6) (pv 12) (nomark _)) (nomark _))))) (pss_one (ps_ret pe_bl)) pss_nil)))
        (pss_one (ps_if (pt_val (pe_callB (r := rAny c.K) (cr_any rfl) (by rfl) T.b_any (by decide +kernel) (pa_cons (pe_lc (own := [("_law_thing", 15)]) (g := (gName 15)) rfl sc_law.nd (pi_list (pe_lst (pa_cons (pv 6) (pa_cons pe_non (pa_cons pe_int (pa_cons (pe_lst (pa_cons (pv 5) pa_nil)) (pa_cons pe_dnewK (pa_cons (Zx.pe_exV (Zq.pmk_f x_BadTable hr (by decide) rfl (pa_cons pe_str (pa_cons (pe_un un_neg pe_int) pa_nil)))) pa_nil)))))))) (blkOk_by (N := ["_law_script", "_law_hand_here", "_law_made", "_law_turn", "_law_again", "_law_one", "_law_parts_of", "_law_cells", "_law_kinds_here", "_law_change", "_law_due_here", "_law_two", "_law_others", "_law_told_here", "_law_table_here", "_law_thing"]) (sc := defScope s_law) (by decide +kernel)) (fun _ _ _ _ _ => (pg_name (i := 15) sc_law.nd rfl (Or.inl rfl))) (fun _ _ _ _ _ => pts_nil) (fun _ _ _ _ _ => (pe_cmpR (r := Zx.rOwnE c.K (c.cls "Table") (spOf c 2 0 (sp_Table_eq c)) false) (Zx.op_eqE eqT hr (by decide)) (pv 5) (pv 15) (nomark _)))) pa_nil))) (pss_one (ps_ret pe_bl)) pss_nil))))
        (pss_one (ps_ret pe_bl))))))), ?_⟩
    refine body_ok h (by decide) fun ds M R hds hM hS => ?_
    obtain ⟨ns, rfl, hl, hP⟩ := hS
    obtain rfl := List.length_eq_zero_iff.mp hM
    show WS c 0 _ [some (dy ns), none, none, none, none, none, none, none, none, none, none, none, none, none, none, none] [] _ _
    walk_at "zs"
    refine we_callH ?_
    walk_at "zs"
    refine ⟨ns, rfl, hl, ?_⟩
    refine ws_seq (ws_if (WT.mono (P := fun t m => t = false ∧ m = [cHand]) ?_ ?_))
    · walk_at "zs"
      · intro r r0 r1
        walk_at "zs"
        refine ⟨fun q => ?_, fun q => ?_⟩
        · walk_at "zs"
          exact ⟨rfl, rfl⟩
        · walk_at "zs"
          exact ⟨rfl, rfl⟩
      · decide
      · decide
    rintro t m ⟨rfl, rfl⟩
    walk_at "zs"
    refine we_lstC (α := Ent) ?_
    walk_at "zs"
    refine ⟨[], rfl, Nat.zero_le _, ?_⟩
    walk_at "zs"
    refine ws_for (S := List Ent) (β := Int) (ts := [3]) (fun pre made => made.length ≤ 5 * pre.length ∧ ∀ e, e ∈ made → EntOk e) (fun _ => [some (dy ns), some (dy (MR.mk 0)), some (dy (MR.mk 1)), none, none, none, none, none, none, none, none, none, none, none, none, none]) (fun made => [cHand, cLst made]) ?_
    refine wi_range ?_
    walk_at "zs"
    refine ⟨3, rfl, by decide, by decide, upto 3, rfl, [], ⟨Nat.zero_le _, by simp⟩, by walk_at "zcut", fun pre y post made e hJ => ?_, fun made hJ => ?_⟩
    · walk_at "zs"
      · intro n ks hk
        have pl : pre.length < 3 := by
          have := congrArg List.length e
          rw [upto_len, List.length_append, List.length_cons] at this; omega
        obtain ⟨ml, mok⟩ := hJ
        walk_at "zs"
        refine ws_for (S := List Ent) (β := Int) (ts := [4]) (fun pre2 made => made.length ≤ 5 * pre.length + pre2.length ∧ ∀ e, e ∈ made → EntOk e) (fun _ => [some (dy ns), some (dy (MR.mk 0)), some (dy (MR.mk 1)), none, none, none, none, some (dy n), some (dy (Tp.mk ks)), none, none, none, none, none, none, none]) (fun made => [cHand, cLst made]) ?_
        refine wi_range ?_
        walk_at "zs"
        refine ⟨5, rfl, by decide, by decide, upto 5, rfl, made, ⟨by simpa using ml, mok⟩, by walk_at "zcut", fun pre2 y2 post2 made e2 hJ => ?_, fun made hJ => ?_⟩
        · obtain ⟨ml, mok⟩ := hJ
          have pl2 : pre2.length < 5 := by
            have := congrArg List.length e2
            rw [upto_len, List.length_append, List.length_cons] at this; omega
          walk_at "zs"
          refine ws_for (S := Th × Th) (β := Int) (ts := [9]) (fun pre3 s => s.1.wid (40 + pre3.length) ∧ s.2.wid (40 + pre3.length)) (fun s => [some (dy ns), some (dy (MR.mk 0)), some (dy (MR.mk 1)), none, none, some (dy s.1), none, some (dy n), some (dy (Tp.mk ks)), none, none, some (dy s.2), none, none, none, none]) (fun _ => [cHand, cLst made]) ?_
          refine wi_range ?_
          walk_at "zs"
          · intro q q0 q1
            walk_at "zs"
            refine ⟨q, rfl, q0, by omega, upto q.toNat, rfl, (Th.int n, to (Tp.mk ks)), ⟨wid_int _, wid_kinds hk (by omega)⟩, ?_, fun pre3 y3 post3 s e3 hJ => ?_, fun s hJ => ?_⟩
            · rw [th_int, IsTh.eq]
              walk_at "zcut"
            · have pl3 : pre3.length < 2 := by
                have := congrArg List.length e3
                rw [upto_len, List.length_append, List.length_cons] at this; omega
              have l3 : 40 + (pre3 ++ [y3]).length = 40 + pre3.length + 1 := by rw [List.length_append]; rfl
              walk_at "zs"
              · intro x hx
                walk_at "zs"
                refine u__law_bent (B := 40 + pre3.length) ?_ (by omega) (by omega) hJ.1 hJ.2 (Th.wid_mono (by omega) x hx)
                intro x' k' w1 w2
                walk_at "zs"
                exact ⟨(x', k'), ⟨by rw [l3]; exact w1, by rw [l3]; exact w2⟩, by walk_at "zcut"⟩
              · simp [IsTh.to, Th.wid]
            · obtain ⟨x, k⟩ := s
              obtain ⟨ml, mok⟩ := id (show made.length ≤ 5 * pre.length + pre2.length ∧ ∀ e, e ∈ made → EntOk e from ⟨ml, mok⟩)
              rw [upto_len] at hJ
              have wk : k.wid 1000 := Th.wid_mono (by omega) k hJ.2
              have len5 : 5 * pre.length + (pre2 ++ [y2]).length = 5 * pre.length + pre2.length + 1 := by rw [List.length_append]; rfl
              walk_at "zs"
              · intro n' ks' e1 e2 hk'
                subst e1 e2
                walk_at "zs"
                · intro d hd
                  cases Due.uniq hd (.ok rfl rfl hk')
                  rw [dy_none]
                  walk_at "zs"
                  rw [show dy (Th.int n', to (Tp.mk ks')).fst = dy n' from th_int n', show dy (Th.int n', to (Tp.mk ks')).snd = dy (Tp.mk ks') from IsTh.eq (Tp.mk ks')]
                  have en : (!decide (n' = n')) = false := by simp
                  have ek : (!decide ((Tp.mk ks') = (Tp.mk ks'))) = false := by simp
                  walk_at "zs"
                  refine we_makeT ?_
                  walk_at "zs"
                  refine ⟨rfl, by walk_at "zok", ?_⟩
                  refine u_Table_initC ?_ hk'
                  refine ⟨Tab.mk n' ⟨ks'⟩, 2, _, rfl, rfl, rfl, rfl, Free.ok _ _, ?_⟩
                  refine rr_nownTT X ?_
                  rw [tf_t rfl]
                  walk_at "zs"
                  refine ws_app (α := Ent) ?_
                  walk_at "zs"
                  refine ⟨by omega, made ++ [(Tab.mk n' ⟨ks'⟩, (n', Tp.mk ks'))], ⟨by rw [len5, List.length_append]; show made.length + 1 ≤ _; omega, fun e he => ?_⟩, by walk_at "zcut"⟩
                  rcases List.mem_append.mp he with z | z
                  · exact mok e z
                  · obtain rfl : e = (Tab.mk n' ⟨ks'⟩, (n', Tp.mk ks')) := by simpa using z
                    exact ⟨rfl, rfl⟩
                · exact wk
              · intro p hp
                walk_at "zs"
                · intro d hd
                  cases Due.uniq hd hp
                  rw [dy_some]
                  have ep : (!decide (p = p)) = false := by simp
                  walk_at "zs"
                  exact ⟨made, ⟨by rw [len5]; omega, mok⟩, by walk_at "zcut"⟩
                · exact wk
          · decide
          · decide
        · obtain ⟨ml, mok⟩ := hJ
          rw [upto_len] at ml
          have len5 : 5 * (pre ++ [y]).length = 5 * pre.length + 5 := by rw [List.length_append]; show 5 * (pre.length + 1) = _; omega
          walk_at "zs"
          refine we_makeT ?_
          walk_at "zs"
          refine ⟨rfl, by walk_at "zok", ?_⟩
          refine u_Table_initC ?_ hk
          refine ⟨Tab.mk n ⟨ks⟩, 2, _, rfl, rfl, rfl, rfl, Free.ok _ _, ?_⟩
          walk_at "zs"
          · exact ⟨made, ⟨by rw [len5]; exact ml, mok⟩, by walk_at "zcut"⟩
          · exact hk
      · decide
      · decide
    · obtain ⟨ml, mok⟩ := hJ
      rw [upto_len] at ml
      refine ws_frz (M := [cHand]) (i := 2) (xs := made) (Nat.zero_le _) (by walk_at "zok") rfl (fun j d hj hd => ?_) ?_
      · match j, hj, hd with
        | 0, _, hd => cases hd; exact dy_ok _ _
        | 1, _, hd => cases hd; exact mr_ok (Nat.le_of_ble_eq_true rfl)
        | 2, hj, _ => exact absurd rfl hj
        | n + 3, _, hd =>
          have : n < 13 ∨ 13 ≤ n := by omega
          rcases this with h | h
          · match n, h, hd with
            | 0, _, hd => cases hd
            | 1, _, hd => cases hd
            | 2, _, hd => cases hd
            | 3, _, hd => cases hd
            | 4, _, hd => cases hd
            | 5, _, hd => cases hd
            | 6, _, hd => cases hd
            | 7, _, hd => cases hd
            | 8, _, hd => cases hd
            | 9, _, hd => cases hd
            | 10, _, hd => cases hd
            | 11, _, hd => cases hd
            | 12, _, hd => cases hd
          · rw [List.getElem?_eq_none (by simp; omega)] at hd; cases hd
      walk_at "zs"
      refine ws_for (S := Unit) (β := Ent) (ts := [5] ++ [6]) (fun _ _ => True) (fun _ => [some (dy ns), some (dy (MR.mk 0)), some (dy made), none, none, none, none, none, none, none, none, none, none, none, none, none]) (fun _ => [cHand]) ?_
      refine wi_list (α := Ent) ?_
      walk_at "zs"
      refine ⟨made, rfl, made, rfl, (), trivial, by walk_at "zcut", fun pre d post s e hJ => ?_, fun s hJ => ?_⟩
      · have dok := mok d (by rw [e]; simp)
        walk_at "zs"
        refine ws_for (S := Unit) (β := Ent) (ts := [11] ++ [12]) (fun _ _ => True) (fun _ => [some (dy ns), some (dy (MR.mk 0)), some (dy made), none, none, some (dy d.1), some (dy d.2), none, none, none, none, none, none, none, none, none]) (fun _ => [cHand]) ?_
        refine wi_list (α := Ent) ?_
        walk_at "zs"
        refine ⟨made, rfl, made, rfl, (), trivial, by walk_at "zcut", fun pre2 u post2 s2 e2 hJ2 => ?_, fun s2 hJ2 => ?_⟩
        · have uok := mok u (by rw [e2]; simp)
          have same := ent_eq dok uok
          walk_at "zs"
          refine rr_ownTT X ?_
          have n1 : (!decide (tf ((Sum.inl (Th.tab u.1) : Tz) = .inl (.tab d.1)) = decide (d.2 = u.2))) = false := by rw [same]; simp
          have n2 : decide ((!tf ((Sum.inl (Th.tab u.1) : Tz) = .inl (.tab d.1))) = decide (d.2 = u.2)) = false := by rw [same]; cases decide (d.2 = u.2) <;> rfl
          walk_at "zs"
          refine rr_nownTT X ?_
          walk_at "zs"
          exact ⟨(), trivial, by walk_at "zcut"⟩
        · walk_at "zs"
          refine we_lcM (β := Tz) (γ := Bool) [15] (fun y => tf (y = .inl (.tab d.1))) (fun t ht => ht) (by walk_at "zok") ?_
          refine wi_list (α := Tz) ?_
          refine we_lst (α := Tz) ?_
          walk_at "zs"
          refine we_lst (α := Tab) ?_
          walk_at "zs"
          refine ⟨[d.1], rfl, by simp, ?_⟩
          walk_at "zs"
          refine we_dic0 ?_
          walk_at "zs"
          refine we_exV (C := c.cls "BadTable") ?_
          refine wmk_bad .cells X.oex_BadTable X.no_BadTable_part X.no_BadTable_at ?_
          walk_at "zs"
          refine ⟨_, rfl, rfl, ?_⟩
          walk_at "zs"
          have lists : ([dy d.2, dy (), dy (0 : Int), dy [d.1], dy Th.dic, dy (Exi.mk (c.cls "BadTable"))] : List Dy) = ([.inl (to d.2), .inl .non, .inl (.int 0), .inl (to [d.1]), .inl .dic, .inr ⟨c.cls "BadTable"⟩] : List Tz).map dy := by
            simp only [List.map_cons, List.map_nil, dy_inl, dy_inr, th_non, th_int, IsTh.eq]
          refine ⟨_, lists, by simp, _, rfl, rfl, _, rfl, by simp, fun y hy acc => ?_, ?_⟩
          · have hb : ∀ z, y = .inr z → z.cls = c.cls "BadTable" := by
              intro z hz
              subst hz
              simp only [List.mem_cons, List.not_mem_nil, or_false] at hy
              rcases hy with h | h | h | h | h | h
              · cases h
              · cases h
              · cases h
              · cases h
              · cases h
              · cases h; rfl
            walk_at "zs"
            refine ⟨rfl, ?_⟩
            walk_at "zs"
            refine rr_own X hb ?_
            exact ⟨rfl, rfl⟩
          · walk_at "zs"
            have en : ((([.inl (to d.2), .inl .non, .inl (.int 0), .inl (to [d.1]), .inl .dic, .inr ⟨c.cls "BadTable"⟩] : List Tz).map fun y => tf (y = .inl (.tab d.1))).any id) = false := by
              rw [List.any_map, List.any_eq_false]
              intro y hy
              have : ¬ y = .inl (.tab d.1) := by
                intro h
                subst h
                simp only [List.mem_cons, List.not_mem_nil, or_false] at hy
                rcases hy with h | h | h | h | h | h
                · injection h with h; cases h
                · cases h
                · cases h
                · injection h with h; cases h
                · cases h
                · cases h
              show ¬ (tf (y = .inl (.tab d.1)) = true)
              rw [tf_f this]; simp
            walk_at "zs"
            exact ⟨(), trivial, by walk_at "zcut"⟩
      · walk_at "zs"
        exact hP

end
end K01
end
section
set_option Elab.async false
set_option linter.all false
set_option maxRecDepth 100000
set_option maxHeartbeats 0
namespace K01
open PySem PySem.Spec PyProof.Rows L2 Zq K02
open C8 (Cal Mak)
structure Got (K : PySem.W.Frag) (mg : Str → Option Value) (x : Str) (st : Stmt) : Prop where
  ex : ∃ (f : Addr) (fd : FuncData), Fun K x x st f fd ∧ mg x = some (.ref f) ∧ PySem.W.keepIn K (.ref f) = true
theorem got {K : PySem.W.Frag} {h : Heap} {mg : Str → Option Value} {x : Str} {st : Stmt} {f : Addr} {oc : Value} {od an : Option Addr} {sl : Array (Option Value)} {kV dc pm cd ct : Value} (X : K.In h) (G : h.Ns mainGlobals mg)
    (a : PySem.W.nsIn K mainGlobals x = some (some (.ref f))) (l : K.lookup f = some ⟨oc, od, .func (PySem.W.fnOf x x (defArgs st) (defBody st) (defScope st) .none kV dc pm an cd ct), sl⟩) (c : PySem.W.codeIn K cd x = true) (k : PySem.W.keepIn K (.ref f) = true) : Got K mg x st :=
  ⟨f, _, fun_mk l c k, PySem.W.mg_of X G a, k⟩
abbrev kOf {K : PySem.W.Frag} {h : Heap} (_ : K.In h) : PySem.W.Frag := K
def spTop (K : PySem.W.Frag) : Sp := fun vs H Q _ => ∃ (a : Addr) (ns : List Int), vs = [.ref a] ∧ SqL K H a (ns.map V.int) ∧ ns.length ≤ 63 ∧ ∀ H', Q (.bl true) H'
theorem top_sp {K : PySem.W.Frag} {cls : Str → Addr} (vs : List V) (H : Hp) (Q : VK) (E : XK) (h : spTop K vs H Q E) : spOf ⟨K, cls⟩ 1 0 sp_law vs H Q E := by
  obtain ⟨a, ns, rfl, hS, hl, q⟩ := h
  refine ⟨[], H, [dy ns], [], fun x _ => x = dy true, rfl, rfl, ⟨List.nodup_nil, rfl, Evl.Ex.refl _, (fun a h => by cases h), fun k d h => by simp at h⟩, .cons ⟨a, _, rfl, hS, Irep ns⟩ .nil, ⟨ns, rfl, hl, rfl⟩, fun v w' x M' _ _ hr hx => ?_⟩
  subst hx
  obtain rfl : v = .bl true := hr
  exact q _
theorem exm_of {K : PySem.W.Frag} {B E : Addr} (h1 : PySem.W.subIn K (.ref E) (.type "BaseException") = some true) (h2 : PySem.W.isClsIn K E = true) (h3 : PySem.W.typeIn K (.ref E) = some (.type "type")) (h4 : PySem.W.subIn K (.ref B) (.ref E) = some true) :
    PySem.W.exmOne K (.ref B) (.ref E) = some true := by
  have e1 : (PySem.W.subIn K (.ref E) (.type "BaseException") == some true) = true := by rw [h1] <;> rfl
  have e2 : ((PySem.W.clsIn K E).isSome && PySem.W.typeIn K (.ref E) == some (.type "type")) = true := by
    have h2' : (PySem.W.clsIn K E).isSome = true := h2
    rw [h2', h3] <;> rfl
  show (if (PySem.W.subIn K (.ref E) (.type "BaseException") == some true) = true then (if ((PySem.W.clsIn K E).isSome && PySem.W.typeIn K (.ref E) == some (.type "type")) = true then PySem.W.subIn K (.ref B) (.ref E) else none) else none) = some true
  rw [if_pos e1, if_pos e2]
  exact h4
theorem sc_BadTable_init : FnScope ["self", "part", "at"] ["self", "part", "at"] (defScope s_BadTable_init) := ⟨rfl, rfl, rfl, by decide +kernel, rfl, by decide +kernel, by decide +kernel⟩
theorem ok_BadTable_init {P : Program} {w : World} {K : PySem.W.Frag} {mg : Str → Option Value} {base : Heap} {f : Addr} {fd : FuncData} (F : Fun K "__init__" "BadTable.__init__" s_BadTable_init f fd) :
    FnOk P w K mg base CX0 1 f fd ["self", "part", "at"] (spFl K ["part", "at"]) := by
  refine F.ok sc_BadTable_init (fun vs H Q E h => ?_) (fun cdv A outer s H vs Q E hr h => ?_)
  · obtain ⟨a, C, xs, rfl, hl, _⟩ := h
    rw [List.length_cons, hl]; rfl
  · exact ⟨_, pss_cons (ps_ost (pv 0) (pv 1)) (pss_one (ps_ost (pv 0) (pv 2))), rd_fl2 h⟩
theorem whole {P : Program} {w : World} {K : PySem.W.Frag} {mg : Str → Option Value} {base : Heap} {C B E fI fB fE f : Addr} {fdI fdB fdE fd : FuncData} (G_is_integer : Got K mg "is_integer" s_is_integer) (G_is_number_below : Got K mg "is_number_below" s_is_number_below) (G_is_lot : Got K mg "is_lot" s_is_lot) (G_is_lot_of_cells : Got K mg "is_lot_of_cells" s_is_lot_of_cells) (G_is_kind : Got K mg "is_kind" s_is_kind) (G_is_journal : Got K mg "is_journal" s_is_journal) (G_check_journal : Got K mg "check_journal" s_check_journal) (G_is_plates : Got K mg "is_plates" s_is_plates) (G_is_version : Got K mg "is_version" s_is_version) (G__law_hand : Got K mg "_law_hand" s__law_hand) (G__law_draw : Got K mg "_law_draw" s__law_draw) (G__law_any : Got K mg "_law_any" s__law_any) (G__law_is_int : Got K mg "_law_is_int" s__law_is_int) (G__law_flag : Got K mg "_law_flag" s__law_flag) (G__law_kinds : Got K mg "_law_kinds" s__law_kinds) (G__law_history : Got K mg "_law_history" s__law_history) (G__law_table : Got K mg "_law_table" s__law_table) (G__law_journal : Got K mg "_law_journal" s__law_journal) (G__law_versions : Got K mg "_law_versions" s__law_versions) (G__law_deep : Got K mg "_law_deep" s__law_deep) (G__law_odd : Got K mg "_law_odd" s__law_odd) (G__law_is_lot : Got K mg "_law_is_lot" s__law_is_lot) (G__law_is_kind : Got K mg "_law_is_kind" s__law_is_kind) (G__law_due : Got K mg "_law_due" s__law_due) (G__law_told : Got K mg "_law_told" s__law_told) (G__law_bent : Got K mg "_law_bent" s__law_bent) (G__law_great_right : Got K mg "_law_great_right" s__law_great_right) (G__law_journals_right : Got K mg "_law_journals_right" s__law_journals_right) (T : Tb mg) (cl : Cls K C) (nc : PySem.W.findIn K (.ref C) "cells" = some none) (nk : PySem.W.findIn K (.ref C) "kinds" = some none) (ha : PySem.W.findIn K (.ref C) "__class__" = some (some (.builtin "object.__class__"))) (hn : PySem.W.specialIn K (.builtin "object.__class__") "__get__" = some (some (.builtin "getset_descriptor.__get__"))) (htk : PySem.W.takesIn K (.builtin "object.__class__") = some true) (hm : PySem.W.mroIn K C (.type "object") = some true) (ki : PySem.W.kitOne K (.ref C) (.type "int") = some false) (kb : PySem.W.kitOne K (.ref C) (.type "bool") = some false) (kt : PySem.W.kitOne K (.ref C) (.type "tuple") = some false) (ks : PySem.W.kitOne K (.ref C) (.type "str") = some false) (jn : PySem.W.kitOne K (.type "NoneType") (.ref C) = some false) (jb : PySem.W.kitOne K (.type "bool") (.ref C) = some false) (ji : PySem.W.kitOne K (.type "int") (.ref C) = some false) (js : PySem.W.kitOne K (.type "str") (.ref C) = some false) (jt : PySem.W.kitOne K (.type "tuple") (.ref C) = some false) (jl : PySem.W.kitOne K (.type "list") (.ref C) = some false) (jd : PySem.W.kitOne K (.type "dict") (.ref C) = some false) (je : PySem.W.kitOne K (.ref B) (.ref C) = some false) (jne : PySem.W.subIn K (.ref B) (.ref C) = some false) (oex : OexC K B) (exc : ExcC K B) (xf : XfC K B) (kv : PySem.W.kitOne K (.ref B) (.type "ValueError") = some true) (np : PySem.W.findIn K (.ref B) "part" = some none) (na : PySem.W.findIn K (.ref B) "at" = some none)
    (eE : PySem.W.subIn K (.ref E) (.type "BaseException") = some true) (iE : PySem.W.isClsIn K E = true) (tE : PySem.W.typeIn K (.ref E) = some (.type "type")) (sE : PySem.W.subIn K (.ref B) (.ref E) = some true)
    (MK : Mk K C fI) (FI : Fun K "__init__" "Table.__init__" s_Table_init fI fdI) (mC : mg "Table" = some (.ref C)) (mB : mg "BadTable" = some (.ref B)) (mE : mg "PlateError" = some (.ref E))
    (iB : PySem.W.findIn K (.ref B) "__init__" = some (some (.ref fB))) (tB : PySem.W.typeIn K (.ref fB) = some (.type "function")) (FB : Fun K "__init__" "BadTable.__init__" s_BadTable_init fB fdB)
    (eqI : PySem.W.findIn K (.ref C) "__eq__" = some (some (.ref fE))) (eqF : PySem.W.isFn K (.ref fE) = true) (FE : Fun K "__eq__" "Table.__eq__" s_Table_eq fE fdE) (neI : PySem.W.findIn K (.ref C) "__ne__" = some (some (.builtin "object.__ne__"))) (F : Fun K "law" "law" s_law f fd) :
    FnOk P w K mg base CX0 9 f fd ["_law_script"] (spTop K) := by
  obtain ⟨cls, rfl, rfl, rfl⟩ : ∃ cls : Str → Addr, cls "Table" = C ∧ cls "BadTable" = B ∧ cls "PlateError" = E := ⟨fun x => if x = "Table" then C else if x = "BadTable" then B else E, if_pos rfl, (if_neg (by decide +kernel)).trans (if_pos rfl), (if_neg (by decide +kernel)).trans (if_neg (by decide +kernel))⟩
  have kx : PySem.W.kitOne K (.ref (cls "BadTable")) (.ref (cls "BadTable")) = some true := by unfold PySem.W.kitOne; rw [if_pos (beq_self_eq_true _)]
  have X : Tx ⟨K, cls⟩ mg := ⟨cl, nc, nk, ⟨⟨cl, ha, hn, htk, hm, ki, kb, kt, ks⟩, exc, jn, jb, ji, js, jt, jl, jd, je, jne⟩, mC, mB, mE, oex, xf, exm_of eE iE tE sE, kx, kv, np, na⟩
  have x_BadTable : ExF P w K mg base 1 "BadTable" (cls "BadTable") ["part", "at"] := ⟨fB, fdB, ["self", "part", "at"], oex, iB, tB, ok_BadTable_init FB, FB.binds (ps := ["self", "part", "at"]) (fun _ _ _ _ _ _ us hl => match us, hl with | [_, _, _], _ => rfl), mB⟩
  obtain ⟨f_is_integer, fd_is_integer, F_is_integer, m_is_integer, k_is_integer⟩ := G_is_integer
  have O_is_integer : FnOk P w K mg base CX0 1 f_is_integer fd_is_integer ["thing"] (spOf ⟨K, cls⟩ 1 0 sp_is_integer) := ok_is_integer (c := ⟨K, cls⟩) F_is_integer T X 
  have g_is_integer : Cal P w K mg base 1 "is_integer" (spOf ⟨K, cls⟩ 1 0 sp_is_integer) [] := ⟨f_is_integer, fd_is_integer, ["thing"], [], O_is_integer, m_is_integer, k_is_integer, F_is_integer.binds (ps := ["thing"]) (fun _ _ _ _ _ _ us hl => match us, hl with | [_], _ => rfl), .nil⟩
  obtain ⟨f__law_hand, fd__law_hand, F__law_hand, m__law_hand, k__law_hand⟩ := G__law_hand
  have O__law_hand : FnOk P w K mg base CX0 1 f__law_hand fd__law_hand ["_law_script"] (spHand ⟨K, cls⟩) := ok__law_hand (c := ⟨K, cls⟩) F__law_hand T X 
  have g__law_hand : Cal P w K mg base 1 "_law_hand" (spHand ⟨K, cls⟩) [] := ⟨f__law_hand, fd__law_hand, ["_law_script"], [], O__law_hand, m__law_hand, k__law_hand, F__law_hand.binds (ps := ["_law_script"]) (fun _ _ _ _ _ _ us hl => match us, hl with | [_], _ => rfl), .nil⟩
  obtain ⟨f__law_draw, fd__law_draw, F__law_draw, m__law_draw, k__law_draw⟩ := G__law_draw
  have O__law_draw : FnOk P w K mg base CX0 1 f__law_draw fd__law_draw ["_law_hand_here", "_law_many"] (spOf ⟨K, cls⟩ 2 1 sp__law_draw) := ok__law_draw (c := ⟨K, cls⟩) F__law_draw T X 
  have g__law_draw : Cal P w K mg base 1 "_law_draw" (spOf ⟨K, cls⟩ 2 1 sp__law_draw) [] := ⟨f__law_draw, fd__law_draw, ["_law_hand_here", "_law_many"], [], O__law_draw, m__law_draw, k__law_draw, F__law_draw.binds (ps := ["_law_hand_here", "_law_many"]) (fun _ _ _ _ _ _ us hl => match us, hl with | [_, _], _ => rfl), .nil⟩
  obtain ⟨f__law_is_int, fd__law_is_int, F__law_is_int, m__law_is_int, k__law_is_int⟩ := G__law_is_int
  have O__law_is_int : FnOk P w K mg base CX0 1 f__law_is_int fd__law_is_int ["_law_thing", "_law_least", "_law_most"] (spOf ⟨K, cls⟩ 3 0 sp__law_is_int) := ok__law_is_int (c := ⟨K, cls⟩) F__law_is_int T X 
  have g__law_is_int : Cal P w K mg base 1 "_law_is_int" (spOf ⟨K, cls⟩ 3 0 sp__law_is_int) [] := ⟨f__law_is_int, fd__law_is_int, ["_law_thing", "_law_least", "_law_most"], [], O__law_is_int, m__law_is_int, k__law_is_int, F__law_is_int.binds (ps := ["_law_thing", "_law_least", "_law_most"]) (fun _ _ _ _ _ _ us hl => match us, hl with | [_, _, _], _ => rfl), .nil⟩
  obtain ⟨f__law_flag, fd__law_flag, F__law_flag, m__law_flag, k__law_flag⟩ := G__law_flag
  have O__law_flag : FnOk P w K mg base CX0 1 f__law_flag fd__law_flag ["_law_told_here", "_law_due_here"] (spOf ⟨K, cls⟩ 2 0 sp__law_flag) := ok__law_flag (c := ⟨K, cls⟩) F__law_flag T X 
  have g__law_flag : Cal P w K mg base 1 "_law_flag" (spOf ⟨K, cls⟩ 2 0 sp__law_flag) [] := ⟨f__law_flag, fd__law_flag, ["_law_told_here", "_law_due_here"], [], O__law_flag, m__law_flag, k__law_flag, F__law_flag.binds (ps := ["_law_told_here", "_law_due_here"]) (fun _ _ _ _ _ _ us hl => match us, hl with | [_, _], _ => rfl), .nil⟩
  obtain ⟨f__law_history, fd__law_history, F__law_history, m__law_history, k__law_history⟩ := G__law_history
  have O__law_history : FnOk P w K mg base CX0 1 f__law_history fd__law_history ["_law_cells", "_law_kinds_here", "_law_journal_here"] (spOf ⟨K, cls⟩ 3 0 sp__law_history) := ok__law_history (c := ⟨K, cls⟩) F__law_history T X 
  have g__law_history : Cal P w K mg base 1 "_law_history" (spOf ⟨K, cls⟩ 3 0 sp__law_history) [] := ⟨f__law_history, fd__law_history, ["_law_cells", "_law_kinds_here", "_law_journal_here"], [], O__law_history, m__law_history, k__law_history, F__law_history.binds (ps := ["_law_cells", "_law_kinds_here", "_law_journal_here"]) (fun _ _ _ _ _ _ us hl => match us, hl with | [_, _, _], _ => rfl), .nil⟩
  obtain ⟨f__law_versions, fd__law_versions, F__law_versions, m__law_versions, k__law_versions⟩ := G__law_versions
  have O__law_versions : FnOk P w K mg base CX0 1 f__law_versions fd__law_versions ["_law_cells", "_law_written"] (spOf ⟨K, cls⟩ 2 0 sp__law_versions) := ok__law_versions (c := ⟨K, cls⟩) F__law_versions T X 
  have g__law_versions : Cal P w K mg base 1 "_law_versions" (spOf ⟨K, cls⟩ 2 0 sp__law_versions) [] := ⟨f__law_versions, fd__law_versions, ["_law_cells", "_law_written"], [], O__law_versions, m__law_versions, k__law_versions, F__law_versions.binds (ps := ["_law_cells", "_law_written"]) (fun _ _ _ _ _ _ us hl => match us, hl with | [_, _], _ => rfl), .nil⟩
  obtain ⟨f__law_deep, fd__law_deep, F__law_deep, m__law_deep, k__law_deep⟩ := G__law_deep
  have O__law_deep : FnOk P w K mg base CX0 1 f__law_deep fd__law_deep ["_law_many"] (spOf ⟨K, cls⟩ 1 0 sp__law_deep) := ok__law_deep (c := ⟨K, cls⟩) F__law_deep T X 
  have g__law_deep : Cal P w K mg base 1 "_law_deep" (spOf ⟨K, cls⟩ 1 0 sp__law_deep) [] := ⟨f__law_deep, fd__law_deep, ["_law_many"], [], O__law_deep, m__law_deep, k__law_deep, F__law_deep.binds (ps := ["_law_many"]) (fun _ _ _ _ _ _ us hl => match us, hl with | [_], _ => rfl), .nil⟩
  have eqT : Zx.EqF P w K mg base 1 (cls "Table") (spOf ⟨K, cls⟩ 2 0 (sp_Table_eq ⟨K, cls⟩)) := ⟨fE, fdE, ["self", "other"], ok_Table_eq (c := ⟨K, cls⟩) FE T X , eqI, eqF, FE.binds (ps := ["self", "other"]) (fun _ _ _ _ _ _ us hl => match us, hl with | [_, _], _ => rfl), neI, hm⟩
  obtain ⟨f_is_number_below, fd_is_number_below, F_is_number_below, m_is_number_below, k_is_number_below⟩ := G_is_number_below
  have O_is_number_below : FnOk P w K mg base CX0 2 f_is_number_below fd_is_number_below ["end", "thing"] (spOf ⟨K, cls⟩ 2 0 sp_is_number_below) := ok_is_number_below (c := ⟨K, cls⟩) F_is_number_below T X g_is_integer
  have g_is_number_below : Cal P w K mg base 2 "is_number_below" (spOf ⟨K, cls⟩ 2 0 sp_is_number_below) [] := ⟨f_is_number_below, fd_is_number_below, ["end", "thing"], [], O_is_number_below, m_is_number_below, k_is_number_below, F_is_number_below.binds (ps := ["end", "thing"]) (fun _ _ _ _ _ _ us hl => match us, hl with | [_, _], _ => rfl), .nil⟩
  obtain ⟨f_is_lot, fd_is_lot, F_is_lot, m_is_lot, k_is_lot⟩ := G_is_lot
  have O_is_lot : FnOk P w K mg base CX0 2 f_is_lot fd_is_lot ["thing"] (spOf ⟨K, cls⟩ 1 0 sp_is_lot) := ok_is_lot (c := ⟨K, cls⟩) F_is_lot T X g_is_integer
  have g_is_lot : Cal P w K mg base 2 "is_lot" (spOf ⟨K, cls⟩ 1 0 sp_is_lot) [] := ⟨f_is_lot, fd_is_lot, ["thing"], [], O_is_lot, m_is_lot, k_is_lot, F_is_lot.binds (ps := ["thing"]) (fun _ _ _ _ _ _ us hl => match us, hl with | [_], _ => rfl), .nil⟩
  obtain ⟨f__law_any, fd__law_any, F__law_any, m__law_any, k__law_any⟩ := G__law_any
  have O__law_any : FnOk P w K mg base CX0 2 f__law_any fd__law_any ["_law_hand_here", "_law_some"] (spOf ⟨K, cls⟩ 2 1 sp__law_any) := ok__law_any (c := ⟨K, cls⟩) F__law_any T X g__law_draw
  have g__law_any : Cal P w K mg base 2 "_law_any" (spOf ⟨K, cls⟩ 2 1 sp__law_any) [] := ⟨f__law_any, fd__law_any, ["_law_hand_here", "_law_some"], [], O__law_any, m__law_any, k__law_any, F__law_any.binds (ps := ["_law_hand_here", "_law_some"]) (fun _ _ _ _ _ _ us hl => match us, hl with | [_, _], _ => rfl), .nil⟩
  obtain ⟨f__law_kinds, fd__law_kinds, F__law_kinds, m__law_kinds, k__law_kinds⟩ := G__law_kinds
  have O__law_kinds : FnOk P w K mg base CX0 2 f__law_kinds fd__law_kinds ["_law_hand_here", "_law_cells", "_law_most", "_law_reads"] (spOf ⟨K, cls⟩ 4 1 sp__law_kinds) := ok__law_kinds (c := ⟨K, cls⟩) F__law_kinds T X g__law_draw
  have g__law_kinds : Cal P w K mg base 2 "_law_kinds" (spOf ⟨K, cls⟩ 4 1 sp__law_kinds) [] := ⟨f__law_kinds, fd__law_kinds, ["_law_hand_here", "_law_cells", "_law_most", "_law_reads"], [], O__law_kinds, m__law_kinds, k__law_kinds, F__law_kinds.binds (ps := ["_law_hand_here", "_law_cells", "_law_most", "_law_reads"]) (fun _ _ _ _ _ _ us hl => match us, hl with | [_, _, _, _], _ => rfl), .nil⟩
  obtain ⟨f__law_journal, fd__law_journal, F__law_journal, m__law_journal, k__law_journal⟩ := G__law_journal
  have O__law_journal : FnOk P w K mg base CX0 2 f__law_journal fd__law_journal ["_law_hand_here", "_law_kinds_here", "_law_most"] (spOf ⟨K, cls⟩ 3 1 sp__law_journal) := ok__law_journal (c := ⟨K, cls⟩) F__law_journal T X g__law_draw
  have g__law_journal : Cal P w K mg base 2 "_law_journal" (spOf ⟨K, cls⟩ 3 1 sp__law_journal) [] := ⟨f__law_journal, fd__law_journal, ["_law_hand_here", "_law_kinds_here", "_law_most"], [], O__law_journal, m__law_journal, k__law_journal, F__law_journal.binds (ps := ["_law_hand_here", "_law_kinds_here", "_law_most"]) (fun _ _ _ _ _ _ us hl => match us, hl with | [_, _, _], _ => rfl), .nil⟩
  obtain ⟨f__law_is_lot, fd__law_is_lot, F__law_is_lot, m__law_is_lot, k__law_is_lot⟩ := G__law_is_lot
  have O__law_is_lot : FnOk P w K mg base CX0 2 f__law_is_lot fd__law_is_lot ["_law_thing", "_law_least", "_law_most"] (spOf ⟨K, cls⟩ 3 0 sp__law_is_lot) := ok__law_is_lot (c := ⟨K, cls⟩) F__law_is_lot T X g__law_is_int
  have g__law_is_lot : Cal P w K mg base 2 "_law_is_lot" (spOf ⟨K, cls⟩ 3 0 sp__law_is_lot) [] := ⟨f__law_is_lot, fd__law_is_lot, ["_law_thing", "_law_least", "_law_most"], [], O__law_is_lot, m__law_is_lot, k__law_is_lot, F__law_is_lot.binds (ps := ["_law_thing", "_law_least", "_law_most"]) (fun _ _ _ _ _ _ us hl => match us, hl with | [_, _, _], _ => rfl), .nil⟩
  obtain ⟨f_is_lot_of_cells, fd_is_lot_of_cells, F_is_lot_of_cells, m_is_lot_of_cells, k_is_lot_of_cells⟩ := G_is_lot_of_cells
  have O_is_lot_of_cells : FnOk P w K mg base CX0 3 f_is_lot_of_cells fd_is_lot_of_cells ["cells", "thing"] (spOf ⟨K, cls⟩ 2 0 sp_is_lot_of_cells) := ok_is_lot_of_cells (c := ⟨K, cls⟩) F_is_lot_of_cells T X g_is_lot
  have g_is_lot_of_cells : Cal P w K mg base 3 "is_lot_of_cells" (spOf ⟨K, cls⟩ 2 0 sp_is_lot_of_cells) [] := ⟨f_is_lot_of_cells, fd_is_lot_of_cells, ["cells", "thing"], [], O_is_lot_of_cells, m_is_lot_of_cells, k_is_lot_of_cells, F_is_lot_of_cells.binds (ps := ["cells", "thing"]) (fun _ _ _ _ _ _ us hl => match us, hl with | [_, _], _ => rfl), .nil⟩
  obtain ⟨f_is_journal, fd_is_journal, F_is_journal, m_is_journal, k_is_journal⟩ := G_is_journal
  have O_is_journal : FnOk P w K mg base CX0 3 f_is_journal fd_is_journal ["table", "thing"] (spOf ⟨K, cls⟩ 2 0 sp_is_journal) := ok_is_journal (c := ⟨K, cls⟩) F_is_journal T X g_is_number_below
  have g_is_journal : Cal P w K mg base 3 "is_journal" (spOf ⟨K, cls⟩ 2 0 sp_is_journal) [] := ⟨f_is_journal, fd_is_journal, ["table", "thing"], [], O_is_journal, m_is_journal, k_is_journal, F_is_journal.binds (ps := ["table", "thing"]) (fun _ _ _ _ _ _ us hl => match us, hl with | [_, _], _ => rfl), .nil⟩
  obtain ⟨f_is_version, fd_is_version, F_is_version, m_is_version, k_is_version⟩ := G_is_version
  have O_is_version : FnOk P w K mg base CX0 3 f_is_version fd_is_version ["table", "journal", "cell", "thing"] (spOf ⟨K, cls⟩ 4 0 sp_is_version) := ok_is_version (c := ⟨K, cls⟩) F_is_version T X g_is_number_below g_is_integer
  have g_is_version : Cal P w K mg base 3 "is_version" (spOf ⟨K, cls⟩ 4 0 sp_is_version) [] := ⟨f_is_version, fd_is_version, ["table", "journal", "cell", "thing"], [], O_is_version, m_is_version, k_is_version, F_is_version.binds (ps := ["table", "journal", "cell", "thing"]) (fun _ _ _ _ _ _ us hl => match us, hl with | [_, _, _, _], _ => rfl), .nil⟩
  obtain ⟨f__law_table, fd__law_table, F__law_table, m__law_table, k__law_table⟩ := G__law_table
  have O__law_table : FnOk P w K mg base CX0 3 f__law_table fd__law_table ["_law_hand_here", "_law_cells"] (spOf ⟨K, cls⟩ 2 1 sp__law_table) := ok__law_table (c := ⟨K, cls⟩) F__law_table T X g__law_draw g__law_kinds g__law_any
  have g__law_table : Cal P w K mg base 3 "_law_table" (spOf ⟨K, cls⟩ 2 1 sp__law_table) [] := ⟨f__law_table, fd__law_table, ["_law_hand_here", "_law_cells"], [], O__law_table, m__law_table, k__law_table, F__law_table.binds (ps := ["_law_hand_here", "_law_cells"]) (fun _ _ _ _ _ _ us hl => match us, hl with | [_, _], _ => rfl), .nil⟩
  obtain ⟨f__law_odd, fd__law_odd, F__law_odd, m__law_odd, k__law_odd⟩ := G__law_odd
  have O__law_odd : FnOk P w K mg base CX0 3 f__law_odd fd__law_odd ["_law_hand_here", "_law_other"] (spOf ⟨K, cls⟩ 2 1 sp__law_odd) := ok__law_odd (c := ⟨K, cls⟩) F__law_odd T X g__law_any g__law_deep g__law_draw
  have g__law_odd : Cal P w K mg base 3 "_law_odd" (spOf ⟨K, cls⟩ 2 1 sp__law_odd) [] := ⟨f__law_odd, fd__law_odd, ["_law_hand_here", "_law_other"], [], O__law_odd, m__law_odd, k__law_odd, F__law_odd.binds (ps := ["_law_hand_here", "_law_other"]) (fun _ _ _ _ _ _ us hl => match us, hl with | [_, _], _ => rfl), .nil⟩
  obtain ⟨f__law_is_kind, fd__law_is_kind, F__law_is_kind, m__law_is_kind, k__law_is_kind⟩ := G__law_is_kind
  have O__law_is_kind : FnOk P w K mg base CX0 3 f__law_is_kind fd__law_is_kind ["_law_cells", "_law_thing"] (spOf ⟨K, cls⟩ 2 0 sp__law_is_kind) := ok__law_is_kind (c := ⟨K, cls⟩) F__law_is_kind T X g__law_is_int g__law_is_lot
  have g__law_is_kind : Cal P w K mg base 3 "_law_is_kind" (spOf ⟨K, cls⟩ 2 0 sp__law_is_kind) [] := ⟨f__law_is_kind, fd__law_is_kind, ["_law_cells", "_law_thing"], [], O__law_is_kind, m__law_is_kind, k__law_is_kind, F__law_is_kind.binds (ps := ["_law_cells", "_law_thing"]) (fun _ _ _ _ _ _ us hl => match us, hl with | [_, _], _ => rfl), .nil⟩
  obtain ⟨f__law_bent, fd__law_bent, F__law_bent, m__law_bent, k__law_bent⟩ := G__law_bent
  have O__law_bent : FnOk P w K mg base CX0 3 f__law_bent fd__law_bent ["_law_hand_here", "_law_cells", "_law_kinds_here", "_law_odd_here"] (spOf ⟨K, cls⟩ 4 1 sp__law_bent) := ok__law_bent (c := ⟨K, cls⟩) F__law_bent T X g__law_draw g__law_any
  have g__law_bent : Cal P w K mg base 3 "_law_bent" (spOf ⟨K, cls⟩ 4 1 sp__law_bent) [] := ⟨f__law_bent, fd__law_bent, ["_law_hand_here", "_law_cells", "_law_kinds_here", "_law_odd_here"], [], O__law_bent, m__law_bent, k__law_bent, F__law_bent.binds (ps := ["_law_hand_here", "_law_cells", "_law_kinds_here", "_law_odd_here"]) (fun _ _ _ _ _ _ us hl => match us, hl with | [_, _, _, _], _ => rfl), .nil⟩
  obtain ⟨f_is_kind, fd_is_kind, F_is_kind, m_is_kind, k_is_kind⟩ := G_is_kind
  have O_is_kind : FnOk P w K mg base CX0 4 f_is_kind fd_is_kind ["cells", "thing"] (spOf ⟨K, cls⟩ 2 0 sp_is_kind) := ok_is_kind (c := ⟨K, cls⟩) F_is_kind T X g_is_lot_of_cells g_is_number_below
  have g_is_kind : Cal P w K mg base 4 "is_kind" (spOf ⟨K, cls⟩ 2 0 sp_is_kind) [] := ⟨f_is_kind, fd_is_kind, ["cells", "thing"], [], O_is_kind, m_is_kind, k_is_kind, F_is_kind.binds (ps := ["cells", "thing"]) (fun _ _ _ _ _ _ us hl => match us, hl with | [_, _], _ => rfl), .nil⟩
  obtain ⟨f_check_journal, fd_check_journal, F_check_journal, m_check_journal, k_check_journal⟩ := G_check_journal
  have O_check_journal : FnOk P w K mg base CX0 4 f_check_journal fd_check_journal ["table", "journal"] (spOf ⟨K, cls⟩ 2 0 sp_check_journal) := ok_check_journal (c := ⟨K, cls⟩) F_check_journal T X g_is_journal
  have g_check_journal : Cal P w K mg base 4 "check_journal" (spOf ⟨K, cls⟩ 2 0 sp_check_journal) [] := ⟨f_check_journal, fd_check_journal, ["table", "journal"], [], O_check_journal, m_check_journal, k_check_journal, F_check_journal.binds (ps := ["table", "journal"]) (fun _ _ _ _ _ _ us hl => match us, hl with | [_, _], _ => rfl), .nil⟩
  obtain ⟨f__law_due, fd__law_due, F__law_due, m__law_due, k__law_due⟩ := G__law_due
  have O__law_due : FnOk P w K mg base CX0 4 f__law_due fd__law_due ["_law_cells", "_law_kinds_here"] (spOf ⟨K, cls⟩ 2 0 sp__law_due) := ok__law_due (c := ⟨K, cls⟩) F__law_due T X g__law_is_int g__law_is_kind
  have g__law_due : Cal P w K mg base 4 "_law_due" (spOf ⟨K, cls⟩ 2 0 sp__law_due) [] := ⟨f__law_due, fd__law_due, ["_law_cells", "_law_kinds_here"], [], O__law_due, m__law_due, k__law_due, F__law_due.binds (ps := ["_law_cells", "_law_kinds_here"]) (fun _ _ _ _ _ _ us hl => match us, hl with | [_, _], _ => rfl), .nil⟩
  obtain ⟨f_is_plates, fd_is_plates, F_is_plates, m_is_plates, k_is_plates⟩ := G_is_plates
  have O_is_plates : FnOk P w K mg base CX0 5 f_is_plates fd_is_plates ["table", "journal", "thing"] (spOf ⟨K, cls⟩ 3 0 sp_is_plates) := ok_is_plates (c := ⟨K, cls⟩) F_is_plates T X g_check_journal g_is_version
  have g_is_plates : Cal P w K mg base 5 "is_plates" (spOf ⟨K, cls⟩ 3 0 sp_is_plates) [] := ⟨f_is_plates, fd_is_plates, ["table", "journal", "thing"], [], O_is_plates, m_is_plates, k_is_plates, F_is_plates.binds (ps := ["table", "journal", "thing"]) (fun _ _ _ _ _ _ us hl => match us, hl with | [_, _, _], _ => rfl), .nil⟩
  have O_Table_init : FnOk P w K mg base (L2.CX P w) 5 fI fdI ["self", "cells", "kinds"] (spOfX ⟨K, cls⟩ 3 1 (sp_Table_init ⟨K, cls⟩)) := ok_Table_init (c := ⟨K, cls⟩) FI T X g_is_integer g_is_kind x_BadTable
  have bT : Binds K fdI ["self", "cells", "kinds"] [] := FI.binds (ps := ["self", "cells", "kinds"]) (fun _ _ _ _ _ _ us hl => match us, hl with | [_, _, _], _ => rfl)
  have gX_Table : MakX P w K mg base 5 "Table" (cls "Table") (spOfX ⟨K, cls⟩ 3 1 (sp_Table_init ⟨K, cls⟩)) := ⟨fI, fdI, ["self", "cells", "kinds"], MK, O_Table_init, mC, bT⟩
  have g_Table : Mak P w K mg base 5 "Table" (cls "Table") (spOf ⟨K, cls⟩ 3 1 (sp_Table_initC ⟨K, cls⟩)) [] := ⟨fI, fdI, ["self", "cells", "kinds"], [], MK, calmX (c := ⟨K, cls⟩) (S := sp_Table_init ⟨K, cls⟩) O_Table_init, mC, bT, .nil⟩
  obtain ⟨f__law_journals_right, fd__law_journals_right, F__law_journals_right, m__law_journals_right, k__law_journals_right⟩ := G__law_journals_right
  have O__law_journals_right : FnOk P w K mg base CX0 6 f__law_journals_right fd__law_journals_right ["_law_hand_here", "_law_table_here", "_law_cells", "_law_kinds_here"] (spOf ⟨K, cls⟩ 4 1 sp__law_journals_right) := ok__law_journals_right (c := ⟨K, cls⟩) F__law_journals_right T X g__law_journal g__law_history g__law_versions g__law_odd g__law_draw g__law_any g__law_is_int g__law_flag g_is_journal g_is_plates
  have g__law_journals_right : Cal P w K mg base 6 "_law_journals_right" (spOf ⟨K, cls⟩ 4 1 sp__law_journals_right) [] := ⟨f__law_journals_right, fd__law_journals_right, ["_law_hand_here", "_law_table_here", "_law_cells", "_law_kinds_here"], [], O__law_journals_right, m__law_journals_right, k__law_journals_right, F__law_journals_right.binds (ps := ["_law_hand_here", "_law_table_here", "_law_cells", "_law_kinds_here"]) (fun _ _ _ _ _ _ us hl => match us, hl with | [_, _, _, _], _ => rfl), .nil⟩
  obtain ⟨f__law_told, fd__law_told, F__law_told, m__law_told, k__law_told⟩ := G__law_told
  have O__law_told : FnOk P w K mg base CX0 7 f__law_told fd__law_told ["_law_cells", "_law_kinds_here"] (spOf ⟨K, cls⟩ 2 0 sp__law_told) := ok__law_told (c := ⟨K, cls⟩) F__law_told T X gX_Table
  have g__law_told : Cal P w K mg base 7 "_law_told" (spOf ⟨K, cls⟩ 2 0 sp__law_told) [] := ⟨f__law_told, fd__law_told, ["_law_cells", "_law_kinds_here"], [], O__law_told, m__law_told, k__law_told, F__law_told.binds (ps := ["_law_cells", "_law_kinds_here"]) (fun _ _ _ _ _ _ us hl => match us, hl with | [_, _], _ => rfl), .nil⟩
  obtain ⟨f__law_great_right, fd__law_great_right, F__law_great_right, m__law_great_right, k__law_great_right⟩ := G__law_great_right
  have O__law_great_right : FnOk P w K mg base CX0 8 f__law_great_right fd__law_great_right ["_law_hand_here"] (spOf ⟨K, cls⟩ 1 1 sp__law_great_right) := ok__law_great_right (c := ⟨K, cls⟩) F__law_great_right T X g__law_any g__law_told g__law_draw g__law_flag g_is_journal g_Table
  have g__law_great_right : Cal P w K mg base 8 "_law_great_right" (spOf ⟨K, cls⟩ 1 1 sp__law_great_right) [] := ⟨f__law_great_right, fd__law_great_right, ["_law_hand_here"], [], O__law_great_right, m__law_great_right, k__law_great_right, F__law_great_right.binds (ps := ["_law_hand_here"]) (fun _ _ _ _ _ _ us hl => match us, hl with | [_], _ => rfl), .nil⟩
  exact FnOk.imp (ok_law (c := ⟨K, cls⟩) F T X g__law_hand g__law_great_right g__law_draw g__law_table g__law_bent g__law_odd g__law_told g__law_due g__law_journals_right g_Table x_BadTable eqT) (fun vs H Q E h => top_sp vs H Q E h)
theorem walk {l : PySem.W.OpenLaw} {q : Program} {loose : List Str} {XP : (Str → Option Value) → Heap → Prop} {YP : World → Heap → Prop} {d : DefRec} {K : Params → PySem.W.Frag} (hn : l.most = some 63) (hdf : d.params.defaults = [])
    (hY : ∀ (w : World) (h : Heap), YP w h → (K w.params).In h)
    (F : ∀ (w : World) (mg : Str → Option Value) (fa : Addr) (h : Heap), (K w.params).In h → h.Ns mainGlobals mg → mg d.name = some (.ref fa) →
      ∃ fd : FuncData, (∀ (s : Shared) (u : Value), BindsTo s fd ⟨[u], []⟩ [("_law_script", u)]) ∧ ∀ base : Heap, (K w.params).In base → base.Ns mainGlobals mg → FnOk l.prog w (K w.params) mg base CX0 9 fa fd ["_law_script"] (spTop (K w.params))) :
    PySem.W.WalkO q loose XP YP l.row.toRowW d [] (fun f vs => PySem.call f vs) :=
  L2.walk_of (n := 63) (k := 9) (x := "_law_script") (CX := fun _ => CX0) (sp := fun w => spTop (K w.params)) hn (by decide) hdf ⟨rfl, by decide, by decide⟩ hY F (fun _ _ a ns hl _ hS => ⟨a, ns, rfl, hS, hl, fun _ => rfl⟩) fun _ _ _ _ _ z => z
theorem fin_law {P : Program} {w : World} {K : PySem.W.Frag} {h : Heap} {mg : Str → Option Value} {fa f : Addr} {oc : Value} {od an : Option Addr} {sl : Array (Option Value)} {kV dc pm cd ct : Value} {sp : Sp} {k0 : Nat} (X : K.In h) (G : h.Ns mainGlobals mg) (hfa : mg "law" = some (.ref fa))
    (a : PySem.W.nsIn K mainGlobals "law" = some (some (.ref f))) (l : K.lookup f = some ⟨oc, od, .func (PySem.W.fnOf "law" "law" (defArgs s_law) (defBody s_law) (defScope s_law) .none kV dc pm an cd ct), sl⟩) (c : PySem.W.codeIn K cd "law" = true) (k : PySem.W.keepIn K (.ref f) = true)
    (hF : ∀ (base : Heap) (fd : FuncData), Fun K "law" "law" s_law f fd → FnOk P w K mg base CX0 k0 f fd ["_law_script"] sp) :
    ∃ fd : FuncData, (∀ (s : Shared) (v : Value), BindsTo s fd ⟨[v], []⟩ [("_law_script", v)]) ∧ ∀ base : Heap, K.In base → base.Ns mainGlobals mg → FnOk P w K mg base CX0 k0 fa fd ["_law_script"] sp := by
  have e := hfa.symm.trans (PySem.W.mg_of X G a)
  cases e
  exact ⟨PySem.W.fnOf "law" "law" (defArgs s_law) (defBody s_law) (defScope s_law) .none kV dc pm an cd ct, fun s v => .of_eq rfl, fun base _ _ => hF base _ (fun_mk l c k)⟩
theorem cst {K : PySem.W.Frag} {h : Heap} {mg : Str → Option Value} {x : Str} {i : Int} {t : Tok} (X : K.In h) (G : h.Ns mainGlobals mg) (a : PySem.W.nsIn K mainGlobals x = some (some (.int i t))) : ∃ u, mg x = some u ∧ RelV (.int i) u := ⟨_, PySem.W.mg_of X G a, ⟨_, rfl⟩⟩
end K01
end
set_option Elab.async false
set_option linter.all false
open PySem PySem.W PyProof.Rows K01
set_option maxRecDepth 100000 in
set_option maxHeartbeats 0 in
theorem PySem.Challenge.cw_laidplates_k01_tables_journals_plates_ju_holds : PySem.Challenge.rw_laidplates_k01_tables_journals_plates_ju.Holds := by
  w_on; o_law; k_head; (case hw => w_witness2)
  k_fill
  refine K01.walk (l := PySem.Challenge.rw_laidplates_k01_tables_journals_plates_ju) rfl rfl (fun w h Y => PySem.W.kIn_of Y) ?F
  case F =>
    intro w mg fa h KX G hmg
    have D_is_integer : Got (kOf KX) mg "is_integer" s_is_integer := by
      unfold kOf
      refine' got KX G ?a ?l ?c ?k
      (case a => k_is); (case l => k_is); (case c => k_is); (case k => k_is)
    have D_is_number_below : Got (kOf KX) mg "is_number_below" s_is_number_below := by
      unfold kOf
      refine' got KX G ?a ?l ?c ?k
      (case a => k_is); (case l => k_is); (case c => k_is); (case k => k_is)
    have D_is_lot : Got (kOf KX) mg "is_lot" s_is_lot := by
      unfold kOf
      refine' got KX G ?a ?l ?c ?k
      (case a => k_is); (case l => k_is); (case c => k_is); (case k => k_is)
    have D_is_lot_of_cells : Got (kOf KX) mg "is_lot_of_cells" s_is_lot_of_cells := by
      unfold kOf
      refine' got KX G ?a ?l ?c ?k
      (case a => k_is); (case l => k_is); (case c => k_is); (case k => k_is)
    have D_is_kind : Got (kOf KX) mg "is_kind" s_is_kind := by
      unfold kOf
      refine' got KX G ?a ?l ?c ?k
      (case a => k_is); (case l => k_is); (case c => k_is); (case k => k_is)
    have D_is_journal : Got (kOf KX) mg "is_journal" s_is_journal := by
      unfold kOf
      refine' got KX G ?a ?l ?c ?k
      (case a => k_is); (case l => k_is); (case c => k_is); (case k => k_is)
    have D_check_journal : Got (kOf KX) mg "check_journal" s_check_journal := by
      unfold kOf
      refine' got KX G ?a ?l ?c ?k
      (case a => k_is); (case l => k_is); (case c => k_is); (case k => k_is)
    have D_is_plates : Got (kOf KX) mg "is_plates" s_is_plates := by
      unfold kOf
      refine' got KX G ?a ?l ?c ?k
      (case a => k_is); (case l => k_is); (case c => k_is); (case k => k_is)
    have D_is_version : Got (kOf KX) mg "is_version" s_is_version := by
      unfold kOf
      refine' got KX G ?a ?l ?c ?k
      (case a => k_is); (case l => k_is); (case c => k_is); (case k => k_is)
    have D__law_hand : Got (kOf KX) mg "_law_hand" s__law_hand := by
      unfold kOf
      refine' got KX G ?a ?l ?c ?k
      (case a => k_is); (case l => k_is); (case c => k_is); (case k => k_is)
    have D__law_draw : Got (kOf KX) mg "_law_draw" s__law_draw := by
      unfold kOf
      refine' got KX G ?a ?l ?c ?k
      (case a => k_is); (case l => k_is); (case c => k_is); (case k => k_is)
    have D__law_any : Got (kOf KX) mg "_law_any" s__law_any := by
      unfold kOf
      refine' got KX G ?a ?l ?c ?k
      (case a => k_is); (case l => k_is); (case c => k_is); (case k => k_is)
    have D__law_is_int : Got (kOf KX) mg "_law_is_int" s__law_is_int := by
      unfold kOf
      refine' got KX G ?a ?l ?c ?k
      (case a => k_is); (case l => k_is); (case c => k_is); (case k => k_is)
    have D__law_flag : Got (kOf KX) mg "_law_flag" s__law_flag := by
      unfold kOf
      refine' got KX G ?a ?l ?c ?k
      (case a => k_is); (case l => k_is); (case c => k_is); (case k => k_is)
    have D__law_kinds : Got (kOf KX) mg "_law_kinds" s__law_kinds := by
      unfold kOf
      refine' got KX G ?a ?l ?c ?k
      (case a => k_is); (case l => k_is); (case c => k_is); (case k => k_is)
    have D__law_history : Got (kOf KX) mg "_law_history" s__law_history := by
      unfold kOf
      refine' got KX G ?a ?l ?c ?k
      (case a => k_is); (case l => k_is); (case c => k_is); (case k => k_is)
    have D__law_table : Got (kOf KX) mg "_law_table" s__law_table := by
      unfold kOf
      refine' got KX G ?a ?l ?c ?k
      (case a => k_is); (case l => k_is); (case c => k_is); (case k => k_is)
    have D__law_journal : Got (kOf KX) mg "_law_journal" s__law_journal := by
      unfold kOf
      refine' got KX G ?a ?l ?c ?k
      (case a => k_is); (case l => k_is); (case c => k_is); (case k => k_is)
    have D__law_versions : Got (kOf KX) mg "_law_versions" s__law_versions := by
      unfold kOf
      refine' got KX G ?a ?l ?c ?k
      (case a => k_is); (case l => k_is); (case c => k_is); (case k => k_is)
    have D__law_deep : Got (kOf KX) mg "_law_deep" s__law_deep := by
      unfold kOf
      refine' got KX G ?a ?l ?c ?k
      (case a => k_is); (case l => k_is); (case c => k_is); (case k => k_is)
    have D__law_odd : Got (kOf KX) mg "_law_odd" s__law_odd := by
      unfold kOf
      refine' got KX G ?a ?l ?c ?k
      (case a => k_is); (case l => k_is); (case c => k_is); (case k => k_is)
    have D__law_is_lot : Got (kOf KX) mg "_law_is_lot" s__law_is_lot := by
      unfold kOf
      refine' got KX G ?a ?l ?c ?k
      (case a => k_is); (case l => k_is); (case c => k_is); (case k => k_is)
    have D__law_is_kind : Got (kOf KX) mg "_law_is_kind" s__law_is_kind := by
      unfold kOf
      refine' got KX G ?a ?l ?c ?k
      (case a => k_is); (case l => k_is); (case c => k_is); (case k => k_is)
    have D__law_due : Got (kOf KX) mg "_law_due" s__law_due := by
      unfold kOf
      refine' got KX G ?a ?l ?c ?k
      (case a => k_is); (case l => k_is); (case c => k_is); (case k => k_is)
    have D__law_told : Got (kOf KX) mg "_law_told" s__law_told := by
      unfold kOf
      refine' got KX G ?a ?l ?c ?k
      (case a => k_is); (case l => k_is); (case c => k_is); (case k => k_is)
    have D__law_bent : Got (kOf KX) mg "_law_bent" s__law_bent := by
      unfold kOf
      refine' got KX G ?a ?l ?c ?k
      (case a => k_is); (case l => k_is); (case c => k_is); (case k => k_is)
    have D__law_great_right : Got (kOf KX) mg "_law_great_right" s__law_great_right := by
      unfold kOf
      refine' got KX G ?a ?l ?c ?k
      (case a => k_is); (case l => k_is); (case c => k_is); (case k => k_is)
    have D__law_journals_right : Got (kOf KX) mg "_law_journals_right" s__law_journals_right := by
      unfold kOf
      refine' got KX G ?a ?l ?c ?k
      (case a => k_is); (case l => k_is); (case c => k_is); (case k => k_is)
    refine' fin_law KX G hmg ?a ?l ?c ?k ?hF
    (case a => k_is); (case l => k_is); (case c => k_is); (case k => k_is)
    case hF =>
      intro base fd F
      have T : Tb mg := by
        refine' ⟨PySem.W.mg_none_of KX G ?b_ValueError, PySem.W.mg_none_of KX G ?b_abs, PySem.W.mg_none_of KX G ?b_all, PySem.W.mg_none_of KX G ?b_any, PySem.W.mg_none_of KX G ?b_bool, PySem.W.mg_none_of KX G ?b_enumerate, PySem.W.mg_none_of KX G ?b_int, PySem.W.mg_none_of KX G ?b_isinstance, PySem.W.mg_none_of KX G ?b_len, PySem.W.mg_none_of KX G ?b_list, PySem.W.mg_none_of KX G ?b_range, PySem.W.mg_none_of KX G ?b_set, PySem.W.mg_none_of KX G ?b_sorted, PySem.W.mg_none_of KX G ?b_str, PySem.W.mg_none_of KX G ?b_tuple, cst KX G ?c_MOST_CELLS, cst KX G ?c_MOST_KINDS, cst KX G ?c_MOST_READS, cst KX G ?c_MOST_DEEDS⟩
        (case b_ValueError => k_is)
        (case b_abs => k_is)
        (case b_all => k_is)
        (case b_any => k_is)
        (case b_bool => k_is)
        (case b_enumerate => k_is)
        (case b_int => k_is)
        (case b_isinstance => k_is)
        (case b_len => k_is)
        (case b_list => k_is)
        (case b_range => k_is)
        (case b_set => k_is)
        (case b_sorted => k_is)
        (case b_str => k_is)
        (case b_tuple => k_is)
        (case c_MOST_CELLS => k_is)
        (case c_MOST_KINDS => k_is)
        (case c_MOST_READS => k_is)
        (case c_MOST_DEEDS => k_is)
      refine' whole D_is_integer D_is_number_below D_is_lot D_is_lot_of_cells D_is_kind D_is_journal D_check_journal D_is_plates D_is_version D__law_hand D__law_draw D__law_any D__law_is_int D__law_flag D__law_kinds D__law_history D__law_table D__law_journal D__law_versions D__law_deep D__law_odd D__law_is_lot D__law_is_kind D__law_due D__law_told D__law_bent D__law_great_right D__law_journals_right T (C := ?C) (B := ?B) (E := ?E) (fI := ?fI) (fdI := ?fdI) (fB := ?fB) (fdB := ?fdB) (fE := ?fE) (fdE := ?fdE) ⟨?pg, ?hd, ?po, ?sa⟩ ?nc ?nk ?ha ?hn ?htk ?hm ?tki ?tkb ?tkt ?tks ?jn ?jb ?ji ?js ?jt ?jl ?jd ?je ?jne ⟨⟨_, _, _, _, _, _, _, _, _, _, _, _, _, _, _, ?oxl, ?oxv⟩, ?osa, ?oec, ?oty, ?okc⟩ ⟨?xga, ?xgg, ?xsub, ?xhd, ?xcl, ?xsp, ?xtk, ?xmr⟩ ⟨?yga, ?ygg, ?ysub, ?yhd⟩ ?kv ?np ?na ?eE ?iE ?tE ?sE ⟨?mk, ?ini, ?ifn, ?kc⟩ (L2.fun_mk ?li ?ci ?ki) (PySem.W.mg_of KX G ?aC) (PySem.W.mg_of KX G ?aB) (PySem.W.mg_of KX G ?aE) ?iB ?tB (L2.fun_mk ?lB ?cB ?kB) ?eqI ?eqF (L2.fun_mk ?lE ?cE ?kE) ?neI F
      (case aC => k_is); (case aB => k_is); (case aE => first | k_is | rfl)
      (case ini => k_is); (case ifn => k_is); (case li => k_is); (case ci => k_is); (case ki => k_is)
      (case iB => k_is); (case tB => k_is); (case lB => k_is); (case cB => k_is); (case kB => k_is)
      (case eqI => k_is); (case eqF => k_is); (case lE => k_is); (case cE => k_is); (case kE => k_is); (case neI => k_is)
      (case pg => k_is); (case hd => k_is); (case po => k_is); (case sa => k_is); (case mk => k_is); (case kc => k_is)
      (case nc => k_is); (case nk => k_is)
      (case ha => k_is)
      (case hn => k_is)
      (case htk => k_is)
      (case hm => k_is)
      (case jne => k_is)
      (case oxl => first | k_is | rfl)
      (case osa => k_is)
      (case oec => k_is)
      (case oty => k_is)
      (case okc => k_is)
      (case xga => k_is)
      (case xgg => k_is)
      (case xsub => k_is)
      (case xhd => k_is)
      (case xcl => k_is)
      (case xsp => k_is)
      (case xtk => k_is)
      (case xmr => k_is)
      (case yga => k_is)
      (case ygg => k_is)
      (case ysub => k_is)
      (case yhd => k_is)
      (case np => k_is)
      (case na => k_is)
      (case eE => k_is)
      (case iE => k_is)
      (case tE => k_is)
      (case sE => k_is)
      (case oxv => decide +kernel)
      (case tki => kit_is)
      (case tkb => kit_is)
      (case tkt => kit_is)
      (case tks => kit_is)
      (case jn => kit_is)
      (case jb => kit_is)
      (case ji => kit_is)
      (case js => kit_is)
      (case jt => kit_is)
      (case jl => kit_is)
      (case jd => kit_is)
      (case je => kit_is)
      (case kv => kit_is)
