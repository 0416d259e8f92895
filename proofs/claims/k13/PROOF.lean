import PyProof.Rows.All
import Wide.All
import OpenK.AllK
import Wide.FinOn
import HandS.ForMost
import HandS.Exc
import HandS.ExcOwn
import HandS.WordsExc
import HandS.CallSlots
import HandS.Wide
import HandS.Defaults
import HandS.HeadHook2
import HandS.Deep
import HandS.TupAny
import HandS.Property
import HandS.IsInst
import HandS.ExcValue
import HandS.ExcIs
import KE.SortData
import HandS.TupLe
import KE.KOpsOwn
import HandS.Flow
import HandS.Conv
import HandS.SortInts
import HandS.RaiseMore
import PyProof.ReprRoads
import HandS.SortRule
import KE.DatumOrd
import HandS.Codes
import HandS.Flt
import HandS.HeadHook1
import HandS.TryMany
import HandS.HeadHook3
import HandS.More
import HandS.Gcd
import HandS.TupSets
import HandS.SetFor
import HandS.DictComp
import HandS.Style
import HandS.Words
import HandS.Ends
import HandS.Head0
import HandS.Head1
import HandS.Head2
import HandS.HeadEnd
import HandS.Head3
import PyProof.FitsInt
import PySem.Challenge.RW_planetlocks_k13_boxes_side_by_side
set_option Elab.async false
set_option linter.all false
set_option maxRecDepth 100000
namespace Zk
open PySem PySem.Spec PyProof.Rows L2

/-- a value of the small language: lists, tuples and dicts that stay as they are stand in it whole; what changes is a number in the store -/
inductive W where
  | non | bl (b : Bool) | int (i : Int) | str (x : Str)
  | tup (l : List W) | lst (l : List W) | dct (l : List (Key × W)) | ref (n : Nat) | scr (l : List Int) | obj (C : Addr) (fs : List (Str × W))
  | exc (C : Addr) | dtt (l : List (List Int × W)) | rng (lo : Int) (n : Nat)

/-- what the numbers of the store and the still things stand for -/
structure Wd where
  ρ : List Addr
  D : Hp
def Wd.le (a b : Wd) : Prop := (∃ t, b.ρ = a.ρ ++ t) ∧ ∀ p u, a.D p = some u → b.D p = some u
theorem Wd.le.refl (a : Wd) : a.le a := ⟨⟨[], by simp⟩, fun _ _ h => h⟩
theorem Wd.le.trans {a b c : Wd} (h : a.le b) (g : b.le c) : a.le c := by
  obtain ⟨⟨t, e⟩, h2⟩ := h
  obtain ⟨⟨u, f⟩, g2⟩ := g
  exact ⟨⟨t ++ u, by rw [f, e, List.append_assoc]⟩, fun p o q => g2 p o (h2 p o q)⟩
theorem Wd.le.at {a b : Wd} (h : a.le b) {n : Nat} {p : Addr} (e : a.ρ[n]? = some p) : b.ρ[n]? = some p := by
  obtain ⟨⟨t, f⟩, _⟩ := h
  rw [f, List.getElem?_append_left (List.getElem?_eq_some_iff.mp e).1]
  exact e

/-- an error's object: of this class, with no dict -/
def ExH (C a : Addr) (h : Heap) : Prop := ∃ (oe : Obj) (vs : Array Value), h.get? a = some oe ∧ Zc (.ref C) none oe ∧ oe.data = .fields vs
mutual
inductive Rel (K : PySem.W.Frag) (ω : Wd) : W → V → Prop
  | non : Rel K ω .non .non
  | bl (b : Bool) : Rel K ω (.bl b) (.bl b)
  | int (i : Int) : Rel K ω (.int i) (.int i)
  | str (x : Str) : Rel K ω (.str x) (.str x)
  | tup {a : Addr} {vs : List V} {ws : List W} : SqT K ω.D a vs → RelL K ω ws vs → Rel K ω (.tup ws) (.ref a)
  | lst {a : Addr} {vs : List V} {ws : List W} : Rd ω.D a (.lst vs) → RelL K ω ws vs → Rel K ω (.lst ws) (.ref a)
  | dct {a : Addr} {o : Obj} {vs : List (Key × V)} {ws : List (Key × W)} : ω.D a = some (.frz o (.dK vs)) → (ws.map (·.1)).Nodup → RelK K ω ws vs → Rel K ω (.dct ws) (.ref a)
  | dtt {a : Addr} {o : Obj} {vs : List (List Key × V)} {ws : List (List Int × W)} : ω.D a = some (.frz o (.dT vs)) → (ws.map (·.1)).Nodup → RelT K ω ws vs → Rel K ω (.dtt ws) (.ref a)
  | rng {a : Addr} {lo : Int} {n : Nat} : Rd ω.D a (.rng lo (lo + (n : Nat))) → Rel K ω (.rng lo n) (.ref a)
  | exc {a C : Addr} {φ : Heap → Prop} : Rd ω.D a (.ext φ) → (∀ h, φ h → ExH C a h) → Rel K ω (.exc C) (.ref a)
  | ref {n : Nat} {a : Addr} : ω.ρ[n]? = some a → Rel K ω (.ref n) (.ref a)
  | scr {a : Addr} {ns : List Int} : SqL K ω.D a (ns.map V.int) → Rel K ω (.scr ns) (.ref a)
  | obj {a C dx : Addr} {vs : List (Str × V)} {ws : List (Str × W)} : ω.D a = some (.ins C dx vs) → RelF K ω ws vs → Rel K ω (.obj C ws) (.ref a)
inductive RelL (K : PySem.W.Frag) (ω : Wd) : List W → List V → Prop
  | nil : RelL K ω [] []
  | cons {w : W} {v : V} {ws : List W} {vs : List V} : Rel K ω w v → RelL K ω ws vs → RelL K ω (w :: ws) (v :: vs)
inductive RelK (K : PySem.W.Frag) (ω : Wd) : List (Key × W) → List (Key × V) → Prop
  | nil : RelK K ω [] []
  | cons {k : Key} {w : W} {v : V} {ws : List (Key × W)} {vs : List (Key × V)} : Rel K ω w v → RelK K ω ws vs → RelK K ω ((k, w) :: ws) ((k, v) :: vs)
inductive RelT (K : PySem.W.Frag) (ω : Wd) : List (List Int × W) → List (List Key × V) → Prop
  | nil : RelT K ω [] []
  | cons {k : List Int} {w : W} {v : V} {ws : List (List Int × W)} {vs : List (List Key × V)} : Rel K ω w v → RelT K ω ws vs → RelT K ω ((k, w) :: ws) ((k.map Sum.inl, v) :: vs)
inductive RelF (K : PySem.W.Frag) (ω : Wd) : List (Str × W) → List (Str × V) → Prop
  | nil : RelF K ω [] []
  | cons {k : Str} {w : W} {v : V} {ws : List (Str × W)} {vs : List (Str × V)} : Rel K ω w v → RelF K ω ws vs → RelF K ω ((k, w) :: ws) ((k, v) :: vs)
end

theorem Rd.up {D D' : Hp} {a : Addr} {u : HO} (h : ∀ p u, D p = some u → D' p = some u) (r : Rd D a u) : Rd D' a u := by
  rcases r with r | ⟨o, r⟩
  · exact .inl (h _ _ r)
  · exact .inr ⟨o, h _ _ r⟩
theorem SqT.up {K : PySem.W.Frag} {D D' : Hp} {a : Addr} {xs : List V} (h : ∀ p u, D p = some u → D' p = some u) (r : SqT K D a xs) : SqT K D' a xs := by
  rcases r with r | r
  · exact .inl (Rd.up h r)
  · exact .inr r
theorem SqL.up {K : PySem.W.Frag} {D D' : Hp} {a : Addr} {xs : List V} (h : ∀ p u, D p = some u → D' p = some u) (r : SqL K D a xs) : SqL K D' a xs := by
  rcases r with r | r
  · exact .inl (Rd.up h r)
  · exact .inr r
section
variable {K : PySem.W.Frag} {ω ω' : Wd}
mutual
theorem Rel.up (h : ω.le ω') : ∀ {w : W} {v : V}, Rel K ω w v → Rel K ω' w v
  | _, _, .non => .non
  | _, _, .bl b => .bl b
  | _, _, .int i => .int i
  | _, _, .str x => .str x
  | _, _, .tup s r => .tup (SqT.up h.2 s) (RelL.up h r)
  | _, _, .lst s r => .lst (Rd.up h.2 s) (RelL.up h r)
  | _, _, .dct s n r => .dct (h.2 _ _ s) n (RelK.up h r)
  | _, _, .dtt s n r => .dtt (h.2 _ _ s) n (RelT.up h r)
  | _, _, .rng s => .rng (Rd.up h.2 s)
  | _, _, .exc s x => .exc (Rd.up h.2 s) x
  | _, _, .ref e => .ref (h.at e)
  | _, _, .scr s => .scr (SqL.up h.2 s)
  | _, _, .obj s r => .obj (h.2 _ _ s) (RelF.up h r)
theorem RelL.up (h : ω.le ω') : ∀ {ws : List W} {vs : List V}, RelL K ω ws vs → RelL K ω' ws vs
  | _, _, .nil => .nil
  | _, _, .cons r s => .cons (Rel.up h r) (RelL.up h s)
theorem RelK.up (h : ω.le ω') : ∀ {ws : List (Key × W)} {vs : List (Key × V)}, RelK K ω ws vs → RelK K ω' ws vs
  | _, _, .nil => .nil
  | _, _, .cons r s => .cons (Rel.up h r) (RelK.up h s)
theorem RelT.up (h : ω.le ω') : ∀ {ws : List (List Int × W)} {vs : List (List Key × V)}, RelT K ω ws vs → RelT K ω' ws vs
  | _, _, .nil => .nil
  | _, _, .cons r s => .cons (Rel.up h r) (RelT.up h s)
theorem RelF.up (h : ω.le ω') : ∀ {ws : List (Str × W)} {vs : List (Str × V)}, RelF K ω ws vs → RelF K ω' ws vs
  | _, _, .nil => .nil
  | _, _, .cons r s => .cons (Rel.up h r) (RelF.up h s)
end
theorem RelL.length : ∀ {ws : List W} {vs : List V}, RelL K ω ws vs → ws.length = vs.length
  | _, _, .nil => rfl
  | _, _, .cons _ s => congrArg Nat.succ (RelL.length s)
theorem RelL.get : ∀ {ws : List W} {vs : List V}, RelL K ω ws vs → ∀ {i : Nat} {w : W}, ws[i]? = some w → ∃ v, vs[i]? = some v ∧ Rel K ω w v
  | _, _, .nil, _, _, e => by simp at e
  | _, _, .cons r _, 0, _, e => by simp at e; subst e; exact ⟨_, rfl, r⟩
  | _, _, .cons _ s, i + 1, _, e => by
    obtain ⟨v, a, b⟩ := RelL.get s (i := i) (by simpa using e)
    exact ⟨v, by simpa using a, b⟩
theorem RelL.get' : ∀ {ws : List W} {vs : List V}, RelL K ω ws vs → ∀ {i : Nat} {v : V}, vs[i]? = some v → ∃ w, ws[i]? = some w ∧ Rel K ω w v
  | _, _, .nil, _, _, e => by simp at e
  | _, _, .cons r _, 0, _, e => by simp at e; subst e; exact ⟨_, rfl, r⟩
  | _, _, .cons _ s, i + 1, _, e => by
    obtain ⟨v, a, b⟩ := RelL.get' s (i := i) (by simpa using e)
    exact ⟨v, by simpa using a, b⟩
theorem RelL.append : ∀ {ws us : List W} {vs xs : List V}, RelL K ω ws vs → RelL K ω us xs → RelL K ω (ws ++ us) (vs ++ xs)
  | _, _, _, _, .nil, s => s
  | _, _, _, _, .cons r t, s => .cons r (RelL.append t s)
theorem RelL.take : ∀ {ws : List W} {vs : List V} (n : Nat), RelL K ω ws vs → RelL K ω (ws.take n) (vs.take n)
  | _, _, 0, _ => .nil
  | _, _, _ + 1, .nil => .nil
  | _, _, n + 1, .cons r t => .cons r (RelL.take n t)
theorem RelL.drop : ∀ {ws : List W} {vs : List V} (n : Nat), RelL K ω ws vs → RelL K ω (ws.drop n) (vs.drop n)
  | _, _, 0, r => r
  | _, _, _ + 1, .nil => .nil
  | _, _, n + 1, .cons _ t => RelL.drop n t
theorem RelL.set {w : W} {v : V} (r : Rel K ω w v) : ∀ {ws : List W} {vs : List V} (i : Nat), RelL K ω ws vs → RelL K ω (ws.set i w) (vs.set i v)
  | _, _, _, .nil => .nil
  | _, _, 0, .cons _ t => .cons r t
  | _, _, i + 1, .cons q t => .cons q (RelL.set r i t)
theorem RelL.reverse : ∀ {ws : List W} {vs : List V}, RelL K ω ws vs → RelL K ω ws.reverse vs.reverse
  | _, _, .nil => .nil
  | _, _, .cons r t => by
    rw [List.reverse_cons, List.reverse_cons]
    exact RelL.append (RelL.reverse t) (.cons r .nil)
theorem RelL.ints : ∀ (ns : List Int), RelL K ω (ns.map W.int) (ns.map V.int)
  | [] => .nil
  | n :: ns => .cons (.int n) (RelL.ints ns)
theorem Rel.int_inv {i : Int} {v : V} (r : Rel K ω (.int i) v) : v = .int i := by cases r; rfl
theorem Rel.bl_inv {b : Bool} {v : V} (r : Rel K ω (.bl b) v) : v = .bl b := by cases r; rfl
theorem Rel.str_inv {x : Str} {v : V} (r : Rel K ω (.str x) v) : v = .str x := by cases r; rfl
theorem Rel.non_inv {v : V} (r : Rel K ω .non v) : v = .non := by cases r; rfl
theorem RelL.ints_inv : ∀ {ns : List Int} {vs : List V}, RelL K ω (ns.map W.int) vs → vs = ns.map V.int
  | [], _, .nil => rfl
  | n :: ns, _, .cons r t => by rw [Rel.int_inv r, RelL.ints_inv t]; rfl
theorem RelL.bls_inv : ∀ {ns : List Bool} {vs : List V}, RelL K ω (ns.map W.bl) vs → vs = ns.map V.bl
  | [], _, .nil => rfl
  | n :: ns, _, .cons r t => by rw [Rel.bl_inv r, RelL.bls_inv t]; rfl
theorem RelL.strs_inv : ∀ {ns : List Str} {vs : List V}, RelL K ω (ns.map W.str) vs → vs = ns.map V.str
  | [], _, .nil => rfl
  | n :: ns, _, .cons r t => by rw [Rel.str_inv r, RelL.strs_inv t]; rfl
theorem RelL.strs : ∀ (ns : List Str), RelL K ω (ns.map W.str) (ns.map V.str)
  | [] => .nil
  | n :: ns => .cons (.str n) (RelL.strs ns)
end

/-- what stands at a number of the store: whether it may still change, and what it holds -/
inductive Cell where
  | lst (l : List W) | dct (l : List (Key × W)) | ins (C : Addr) (fs : List (Str × W)) | dtt (l : List (List Int × W))
abbrev Sto := List (Bool × Cell)

def CRel (K : PySem.W.Frag) (ω : Wd) (H : Hp) (a : Addr) : Cell → Prop
  | .lst ws => ∃ vs, H a = some (.lst vs) ∧ RelL K ω ws vs
  | .dct ws => ∃ vs, H a = some (.dK vs) ∧ (ws.map (·.1)).Nodup ∧ RelK K ω ws vs
  | .ins C ws => ∃ dx vs, H a = some (.ins C dx vs) ∧ RelF K ω ws vs
  | .dtt ws => ∃ vs, H a = some (.dT vs) ∧ (ws.map (·.1)).Nodup ∧ RelT K ω ws vs
/-- a thing that is still -/
def SRel (K : PySem.W.Frag) (ω : Wd) (a : Addr) : Cell → Prop
  | .lst ws => ∃ vs, ω.D a = some (.lst vs) ∧ RelL K ω ws vs
  | .dct ws => ∃ o vs, ω.D a = some (.frz o (.dK vs)) ∧ (ws.map (·.1)).Nodup ∧ RelK K ω ws vs
  | .ins C ws => ∃ dx vs, ω.D a = some (.ins C dx vs) ∧ RelF K ω ws vs
  | .dtt ws => ∃ o vs, ω.D a = some (.frz o (.dT vs)) ∧ (ws.map (·.1)).Nodup ∧ RelT K ω ws vs
theorem SRel.up {K : PySem.W.Frag} {ω ω' : Wd} (h : ω.le ω') {a : Addr} {c : Cell} (r : SRel K ω a c) : SRel K ω' a c := by
  cases c with
  | lst ws => obtain ⟨vs, q, s⟩ := r; exact ⟨vs, h.2 _ _ q, s.up h⟩
  | dct ws => obtain ⟨o, vs, q, n, s⟩ := r; exact ⟨o, vs, h.2 _ _ q, n, s.up h⟩
  | ins C ws => obtain ⟨dx, vs, q, s⟩ := r; exact ⟨dx, vs, h.2 _ _ q, s.up h⟩
  | dtt ws => obtain ⟨o, vs, q, n, s⟩ := r; exact ⟨o, vs, h.2 _ _ q, n, s.up h⟩
theorem SRel.some {K : PySem.W.Frag} {ω : Wd} {a : Addr} {c : Cell} (r : SRel K ω a c) : ∃ o, ω.D a = some o := by
  cases c with
  | lst ws => obtain ⟨vs, e, _⟩ := r; exact ⟨_, e⟩
  | dct ws => obtain ⟨o, vs, e, _⟩ := r; exact ⟨_, e⟩
  | ins C ws => obtain ⟨dx, vs, e, _⟩ := r; exact ⟨_, e⟩
  | dtt ws => obtain ⟨o, vs, e, _⟩ := r; exact ⟨_, e⟩
structure StR (K : PySem.W.Frag) (ω : Wd) (st : Sto) (H : Hp) : Prop where
  sub : ∀ a u, Rd ω.D a u → Rd H a u
  len : ω.ρ.length = st.length
  off : ∀ (n : Nat) (a : Addr) (c : Cell), ω.ρ[n]? = some a → st[n]? = some (true, c) → ω.D a = none
  inj : ∀ (n m : Nat) (a : Addr) (c d : Cell), ω.ρ[n]? = some a → ω.ρ[m]? = some a → st[n]? = some (true, c) → st[m]? = some (true, d) → n = m
  cel : ∀ (n : Nat) (a : Addr) (c : Cell), ω.ρ[n]? = some a → st[n]? = some (true, c) → CRel K ω H a c
  stl : ∀ (n : Nat) (a : Addr) (c : Cell), ω.ρ[n]? = some a → st[n]? = some (false, c) → SRel K ω a c
  ob : ∀ (a C dx : Addr) (vs : List (Str × V)), ω.D a = some (.ins C dx vs) → H a = some (.ins C dx vs)
  fz : ∀ (a : Addr) (o : Obj) (u : HO), ω.D a = some (.frz o u) → H a = some (.frz o u)
/-- a place that may change -/
def Alive (ω : Wd) (st : Sto) (a : Addr) : Prop := ∃ (n : Nat) (c : Cell), ω.ρ[n]? = some a ∧ st[n]? = some (true, c)
/-- from one state to a later one -/
structure Stp (ω : Wd) (st : Sto) (H : Hp) (ω' : Wd) (st' : Sto) (H' : Hp) : Prop where
  le : ω.le ω'
  keep : ∀ a o, H a = some o → ¬ Alive ω st a → H' a = some o ∧ ¬ Alive ω' st' a
  kd : ∀ a o, H a = some o → ¬ Alive ω st a → ω.D a = none → ω'.D a = none
theorem Stp.refl {ω : Wd} {st : Sto} {H : Hp} : Stp ω st H ω st H := ⟨.refl _, fun _ _ h n => ⟨h, n⟩, fun _ _ _ _ h => h⟩
theorem Stp.trans {ω ω1 ω2 : Wd} {st st1 st2 : Sto} {H H1 H2 : Hp} (a : Stp ω st H ω1 st1 H1) (b : Stp ω1 st1 H1 ω2 st2 H2) : Stp ω st H ω2 st2 H2 :=
  ⟨a.le.trans b.le, fun p o h n => let ⟨h1, n1⟩ := a.keep p o h n; b.keep p o h1 n1, fun p o h n d => let ⟨h1, n1⟩ := a.keep p o h n; b.kd p o h1 n1 (a.kd p o h n d)⟩

section
variable {K : PySem.W.Frag} {ω ω' : Wd} {st st' : Sto} {H H' : Hp}
theorem Rd.some {a : Addr} {u : HO} (r : Rd H a u) : ∃ o, H a = some o := by
  rcases r with r | ⟨o, r⟩
  · exact ⟨_, r⟩
  · exact ⟨_, r⟩
theorem Rd.off {D : Hp} {a p : Addr} {u : HO} (hd : D p = none) (r : Rd D a u) : a ≠ p := fun z => by
  obtain ⟨o, q⟩ := Rd.some r
  rw [z, hd] at q; cases q
theorem StR.dfree (S : StR K ω st H) {p : Addr} (h : H p = none) : ω.D p = none := by
  cases e : ω.D p with
  | none => rfl
  | some u =>
    obtain ⟨o, q⟩ := Rd.some (S.sub p u (.inl e))
    rw [h] at q; cases q
theorem CRel.some {a : Addr} {c : Cell} (r : CRel K ω H a c) : ∃ o, H a = some o := by
  cases c with
  | lst ws => obtain ⟨vs, e, _⟩ := r; exact ⟨_, e⟩
  | dct ws => obtain ⟨vs, e, _⟩ := r; exact ⟨_, e⟩
  | ins C ws => obtain ⟨dx, vs, e, _⟩ := r; exact ⟨_, e⟩
  | dtt ws => obtain ⟨vs, e, _⟩ := r; exact ⟨_, e⟩
theorem CRel.mut {a : Addr} {c : Cell} (r : CRel K ω H a c) : Mut (H a) := by
  cases c with
  | lst ws => obtain ⟨vs, e, _⟩ := r; rw [e]; trivial
  | dct ws => obtain ⟨vs, e, _⟩ := r; rw [e]; trivial
  | ins C ws => obtain ⟨dx, vs, e, _⟩ := r; rw [e]; trivial
  | dtt ws => obtain ⟨vs, e, _⟩ := r; rw [e]; trivial
theorem CRel.at (h : ω.le ω') {a : Addr} (e : H' a = H a) {c : Cell} (r : CRel K ω H a c) : CRel K ω' H' a c := by
  cases c with
  | lst ws => obtain ⟨vs, q, s⟩ := r; exact ⟨vs, e.trans q, s.up h⟩
  | dct ws => obtain ⟨vs, q, n, s⟩ := r; exact ⟨vs, e.trans q, n, s.up h⟩
  | ins C ws => obtain ⟨dx, vs, q, s⟩ := r; exact ⟨dx, vs, e.trans q, s.up h⟩
  | dtt ws => obtain ⟨vs, q, n, s⟩ := r; exact ⟨vs, e.trans q, n, s.up h⟩
theorem Rd.at {a : Addr} {u : HO} (e : H' a = H a) (r : Rd H a u) : Rd H' a u := by
  rcases r with r | ⟨o, r⟩
  · exact .inl (e.trans r)
  · exact .inr ⟨o, e.trans r⟩
theorem StR.alive_some (S : StR K ω st H) {a : Addr} (h : Alive ω st a) : ∃ o, H a = some o := by
  obtain ⟨n, c, e1, e2⟩ := h
  exact (S.cel n a c e1 e2).some
def Wd.still (ω : Wd) (p : Addr) (o : HO) : Wd := ⟨ω.ρ, upd ω.D p o⟩
def Wd.more (ω : Wd) (p : Addr) : Wd := ⟨ω.ρ ++ [p], ω.D⟩
theorem Wd.le_still {p : Addr} {o : HO} (h : ω.D p = none) : ω.le (ω.still p o) := ⟨⟨[], by simp [Wd.still]⟩, fun q u e => by
  show upd ω.D p o q = _
  rw [upd_ne (fun z => by rw [z, h] at e; cases e)]; exact e⟩
theorem Wd.le_more {p : Addr} : ω.le (ω.more p) := ⟨⟨[p], rfl⟩, fun _ _ e => e⟩
/-- a still thing is laid -/
theorem StR.laid (S : StR K ω st H) {p : Addr} (h : H p = none) (o : HO) : StR K (ω.still p o) st (upd H p o) ∧ Stp ω st H (ω.still p o) st (upd H p o) := by
  have hd := S.dfree h
  have ne : ∀ (n : Nat) (a : Addr) (c : Cell), ω.ρ[n]? = some a → st[n]? = some (true, c) → a ≠ p := fun n a c e1 e2 z => by
    obtain ⟨o', q⟩ := (S.cel n a c e1 e2).some
    rw [z, h] at q; cases q
  refine ⟨⟨fun a u e => ?_, S.len, fun n a c e1 e2 => ?_, fun n m a c d e1 e2 e3 e4 => S.inj n m a c d e1 e2 e3 e4, fun n a c e1 e2 => ?_, fun n a c e1 e2 => (S.stl n a c e1 e2).up (Wd.le_still hd), fun a C dx vs e => ?_, fun a o' u e => ?_⟩, Wd.le_still hd, fun a o' e n => ⟨?_, n⟩, fun a o' e n d => ?_⟩
  · by_cases z : a = p
    · subst z
      exact Rd.at (show upd H a o a = upd ω.D a o a by rw [upd_same, upd_same]) e
    · exact Rd.at (upd_ne z) (S.sub a u (Rd.at (show ω.D a = upd ω.D p o a from (upd_ne z).symm) e))
  · show upd ω.D p o a = none
    rw [upd_ne (ne n a c e1 e2)]
    exact S.off n a c e1 e2
  · exact (S.cel n a c e1 e2).at (Wd.le_still hd) (upd_ne (ne n a c e1 e2))
  · by_cases z : a = p
    · subst z
      rw [upd_same]
      have e : upd ω.D a o a = some (.ins C dx vs) := e
      rw [upd_same] at e; exact e
    · rw [upd_ne z]
      have e : upd ω.D p o a = some (.ins C dx vs) := e
      rw [upd_ne z] at e; exact S.ob _ _ _ _ e
  · by_cases z : a = p
    · subst z
      rw [upd_same]
      have e : upd ω.D a o a = some (.frz o' u) := e
      rw [upd_same] at e; exact e
    · rw [upd_ne z]
      have e : upd ω.D p o a = some (.frz o' u) := e
      rw [upd_ne z] at e; exact S.fz _ _ _ e
  · rw [upd_ne (fun z => by rw [z, h] at e; cases e)]; exact e
  · show upd ω.D p o a = none
    rw [upd_ne (fun z => by rw [z, h] at e; cases e)]; exact d
/-- a new thing that may change -/
theorem StR.made (S : StR K ω st H) {p : Addr} (h : H p = none) {o : HO} {c : Cell} (r : CRel K (ω.more p) (upd H p o) p c) : StR K (ω.more p) (st ++ [(true, c)]) (upd H p o) ∧ Stp ω st H (ω.more p) (st ++ [(true, c)]) (upd H p o) := by
  have hd := S.dfree h
  have ne : ∀ (n : Nat) (a : Addr) (c : Cell), ω.ρ[n]? = some a → st[n]? = some (true, c) → a ≠ p := fun n a c e1 e2 z => by
    obtain ⟨o', q⟩ := (S.cel n a c e1 e2).some
    rw [z, h] at q; cases q
  have spl : ∀ (n : Nat) (a : Addr) (b : Bool) (c' : Cell), (ω.more p).ρ[n]? = some a → (st ++ [(true, c)])[n]? = some (b, c') → (ω.ρ[n]? = some a ∧ st[n]? = some (b, c')) ∨ (n = st.length ∧ a = p ∧ c' = c ∧ b = true) := fun n a b c' e1 e2 => by
    have e1' : (ω.ρ ++ [p])[n]? = some a := e1
    by_cases hn : n < st.length
    · rw [List.getElem?_append_left hn] at e2
      rw [List.getElem?_append_left (by rw [S.len]; exact hn)] at e1'
      exact .inl ⟨e1', e2⟩
    · have hn' : n = st.length := by
        have := (List.getElem?_eq_some_iff.mp e2).1
        simp at this; omega
      subst hn'
      rw [List.getElem?_append_right (Nat.le_refl _)] at e2
      rw [List.getElem?_append_right (by rw [S.len]; exact Nat.le_refl _), S.len] at e1'
      simp at e1' e2
      exact .inr ⟨rfl, e1'.symm, e2.2.symm, e2.1⟩
  refine ⟨⟨fun a u e => ?_, by show (ω.ρ ++ [p]).length = _; simp [S.len], fun n a c' e1 e2 => ?_, fun n m a c' d e1 e2 e3 e4 => ?_, fun n a c' e1 e2 => ?_, fun n a c' e1 e2 => ?_, fun a C dx vs e => by rw [upd_ne (fun z => by rw [z] at e; exact absurd (hd.symm.trans e) (by simp))]; exact S.ob _ _ _ _ e, fun a o' u e => by rw [upd_ne (fun z => by rw [z] at e; exact absurd (hd.symm.trans e) (by simp))]; exact S.fz _ _ _ e⟩, Wd.le_more, fun a o' e n => ⟨?_, ?_⟩, fun _ _ _ _ d => d⟩
  · have e' : Rd ω.D a u := e
    exact Rd.at (upd_ne (Rd.off hd e')) (S.sub a u e')
  · rcases spl n a _ c' e1 e2 with ⟨f1, f2⟩ | ⟨_, rfl, _⟩
    · exact S.off n a c' f1 f2
    · exact hd
  · rcases spl n a _ c' e1 e3 with ⟨f1, f2⟩ | ⟨hn, ha, _⟩
    · rcases spl m a _ d e2 e4 with ⟨g1, g2⟩ | ⟨_, hb, _⟩
      · exact S.inj n m a c' d f1 g1 f2 g2
      · exact absurd hb (ne n a c' f1 f2)
    · rcases spl m a _ d e2 e4 with ⟨g1, g2⟩ | ⟨hm, _, _⟩
      · exact absurd ha (ne m a d g1 g2)
      · omega
  · rcases spl n a _ c' e1 e2 with ⟨f1, f2⟩ | ⟨_, rfl, rfl, _⟩
    · exact (S.cel n a c' f1 f2).at Wd.le_more (upd_ne (ne n a c' f1 f2))
    · exact r
  · rcases spl n a _ c' e1 e2 with ⟨f1, f2⟩ | ⟨_, _, _, z⟩
    · exact (S.stl n a c' f1 f2).up Wd.le_more
    · cases z
  · rw [upd_ne (fun z => by rw [z, h] at e; cases e)]; exact e
  · rintro ⟨m, d, e1, e2⟩
    rcases spl m a _ d e1 e2 with ⟨f1, f2⟩ | ⟨_, z, _⟩
    · exact n ⟨m, d, f1, f2⟩
    · rw [z, h] at e; cases e
/-- a thing is changed -/
theorem StR.put (S : StR K ω st H) {n : Nat} {a : Addr} {c c' : Cell} {o : HO} (e1 : ω.ρ[n]? = some a) (e2 : st[n]? = some (true, c)) (r : CRel K ω (upd H a o) a c') : StR K ω (st.set n (true, c')) (upd H a o) ∧ Stp ω st H ω (st.set n (true, c')) (upd H a o) := by
  have hd := S.off n a c e1 e2
  have hl : n < st.length := (List.getElem?_eq_some_iff.mp e2).1
  have spl : ∀ (m : Nat) (b : Bool) (d : Cell), (st.set n (true, c'))[m]? = some (b, d) → (m = n ∧ d = c' ∧ b = true) ∨ (m ≠ n ∧ st[m]? = some (b, d)) := fun m b d e => by
    by_cases hm : m = n
    · subst hm
      rw [List.getElem?_set_self hl] at e
      simp at e; exact .inl ⟨rfl, e.2.symm, e.1⟩
    · rw [List.getElem?_set_ne (Ne.symm hm)] at e
      exact .inr ⟨hm, e⟩
  have al : ∀ (m : Nat) (d : Cell), (st.set n (true, c'))[m]? = some (true, d) → ∃ d, st[m]? = some (true, d) := fun m d e => by
    rcases spl m _ d e with ⟨rfl, _⟩ | ⟨_, q⟩
    · exact ⟨_, e2⟩
    · exact ⟨_, q⟩
  refine ⟨⟨fun b u e => ?_, by rw [List.length_set]; exact S.len, fun m b d f1 f2 => ?_, fun m k b d d' f1 f2 f3 f4 => ?_, fun m b d f1 f2 => ?_, fun m b d f1 f2 => ?_, fun b C dx vs e => by rw [upd_ne (fun z => by rw [z] at e; exact absurd (hd.symm.trans e) (by simp))]; exact S.ob _ _ _ _ e, fun b o' u e => by rw [upd_ne (fun z => by rw [z] at e; exact absurd (hd.symm.trans e) (by simp))]; exact S.fz _ _ _ e⟩, .refl _, fun b o' e nb => ⟨?_, ?_⟩, fun _ _ _ _ d => d⟩
  · exact Rd.at (upd_ne (Rd.off hd e)) (S.sub b u e)
  · rcases spl m _ d f2 with ⟨rfl, rfl, _⟩ | ⟨_, q⟩
    · rw [e1] at f1; cases f1; exact hd
    · exact S.off m b d f1 q
  · obtain ⟨x, hx⟩ := al m d f3
    obtain ⟨y, hy⟩ := al k d' f4
    exact S.inj m k b x y f1 f2 hx hy
  · rcases spl m _ d f2 with ⟨rfl, rfl, _⟩ | ⟨hm, q⟩
    · rw [e1] at f1; cases f1; exact r
    · have ne : b ≠ a := fun z => hm (S.inj m n b d c f1 (by rw [z]; exact e1) q e2)
      exact (S.cel m b d f1 q).at (Wd.le.refl _) (upd_ne ne)
  · rcases spl m _ d f2 with ⟨_, _, z⟩ | ⟨hm, q⟩
    · cases z
    · exact S.stl m b d f1 q
  · rw [upd_ne (fun z => nb ⟨n, c, by rw [z]; exact e1, e2⟩)]; exact e
  · rintro ⟨m, d, f1, f2⟩
    obtain ⟨x, hx⟩ := al m d f2
    exact nb ⟨m, x, f1, hx⟩
/-- a thing becomes still; o: what stands there from now on -/
theorem StR.freezeO (S : StR K ω st H) {n : Nat} {a : Addr} {c : Cell} {o : HO} (e1 : ω.ρ[n]? = some a) (e2 : st[n]? = some (true, c)) (r : SRel K (ω.still a o) a c) : StR K (ω.still a o) (st.set n (false, c)) (upd H a o) ∧ Stp ω st H (ω.still a o) (st.set n (false, c)) (upd H a o) := by
  have hd := S.off n a c e1 e2
  have hl : n < st.length := (List.getElem?_eq_some_iff.mp e2).1
  have spl : ∀ (m : Nat) (b : Bool) (d : Cell), (st.set n (false, c))[m]? = some (b, d) → (m = n ∧ d = c ∧ b = false) ∨ (m ≠ n ∧ st[m]? = some (b, d)) := fun m b d e => by
    by_cases hm : m = n
    · subst hm
      rw [List.getElem?_set_self hl] at e
      simp at e; exact .inl ⟨rfl, e.2.symm, e.1⟩
    · rw [List.getElem?_set_ne (Ne.symm hm)] at e
      exact .inr ⟨hm, e⟩
  have alv : ∀ (m : Nat) (d : Cell), (st.set n (false, c))[m]? = some (true, d) → m ≠ n ∧ st[m]? = some (true, d) := fun m d e => by
    rcases spl m _ d e with ⟨_, _, z⟩ | q
    · cases z
    · exact q
  refine ⟨⟨fun b u e => ?_, by rw [List.length_set]; exact S.len, fun m b d f1 f2 => ?_, fun m k b d d' f1 f2 f3 f4 => ?_, fun m b d f1 f2 => ?_, fun m b d f1 f2 => ?_, fun b C dx vs e => ?_, fun b o' u e => ?_⟩, Wd.le_still hd, fun b o' e nb => ⟨?_, ?_⟩, fun b o' e nb d => ?_⟩
  · by_cases z : b = a
    · subst z
      exact Rd.at (show upd H b o b = upd ω.D b o b by rw [upd_same, upd_same]) e
    · exact Rd.at (upd_ne z) (S.sub b u (Rd.at (show ω.D b = upd ω.D a o b from (upd_ne z).symm) e))
  · obtain ⟨hm, q⟩ := alv m d f2
    show upd ω.D a o b = none
    rw [upd_ne (fun z => hm (S.inj m n b d c f1 (by rw [z]; exact e1) q e2))]
    exact S.off m b d f1 q
  · exact S.inj m k b d d' f1 f2 (alv m d f3).2 (alv k d' f4).2
  · obtain ⟨hm, q⟩ := alv m d f2
    exact (S.cel m b d f1 q).at (Wd.le_still hd) (upd_ne (fun z => hm (S.inj m n b d c f1 (by rw [z]; exact e1) q e2)))
  · have f1 : ω.ρ[m]? = some b := f1
    rcases spl m _ d f2 with ⟨rfl, rfl, _⟩ | ⟨hm, q⟩
    · rw [e1] at f1; cases f1
      exact r
    · exact (S.stl m b d f1 q).up (Wd.le_still hd)
  · have e : upd ω.D a o b = some (.ins C dx vs) := e
    by_cases z : b = a
    · subst z
      rw [upd_same] at e ⊢
      exact e
    · rw [upd_ne z] at e ⊢; exact S.ob _ _ _ _ e
  · have e : upd ω.D a o b = some (.frz o' u) := e
    by_cases z : b = a
    · subst z
      rw [upd_same] at e ⊢
      exact e
    · rw [upd_ne z] at e ⊢; exact S.fz _ _ _ e
  · rw [upd_ne (fun z => nb ⟨n, c, by rw [z]; exact e1, e2⟩)]; exact e
  · rintro ⟨m, d, f1, f2⟩
    exact nb ⟨m, d, f1, (alv m d f2).2⟩
  · show upd ω.D a o b = none
    rw [upd_ne (fun z => nb ⟨n, c, by rw [z]; exact e1, e2⟩)]; exact d
theorem upd_self {H : Hp} {a : Addr} {o : HO} (h : H a = some o) : upd H a o = H := by
  funext b
  by_cases e : b = a
  · subst e; rw [upd_same, h]
  · rw [upd_ne e]
/-- .. a list, an object -/
theorem StR.freeze (S : StR K ω st H) {n : Nat} {a : Addr} {c : Cell} (e1 : ω.ρ[n]? = some a) (e2 : st[n]? = some (true, c)) (hc : (∃ l, c = .lst l) ∨ ∃ C l, c = .ins C l) : ∃ ω', StR K ω' (st.set n (false, c)) H ∧ Stp ω st H ω' (st.set n (false, c)) H ∧ SRel K ω' a c := by
  have q := S.cel n a c e1 e2
  obtain ⟨o, ho⟩ := q.some
  have hd := S.off n a c e1 e2
  have r : SRel K (ω.still a o) a c := by
    have q' := q.at (H' := upd ω.D a o) (Wd.le_still (o := o) hd) (show upd ω.D a o a = H a by rw [upd_same, ho])
    rcases hc with ⟨l, rfl⟩ | ⟨C, l, rfl⟩
    · exact q'
    · exact q'
  have := S.freezeO e1 e2 r
  rw [upd_self ho] at this
  exact ⟨_, this.1, this.2, r⟩
/-- .. a dict: locked -/
theorem StR.freezeD (S : StR K ω st H) {n : Nat} {a : Addr} {l : List (Key × W)} (e1 : ω.ρ[n]? = some a) (e2 : st[n]? = some (true, .dct l)) : ∃ vs, H a = some (.dK vs) ∧ ∀ od, ∃ ω', StR K ω' (st.set n (false, .dct l)) (upd H a (.frz od (.dK vs))) ∧ Stp ω st H ω' (st.set n (false, .dct l)) (upd H a (.frz od (.dK vs))) ∧ SRel K ω' a (.dct l) := by
  obtain ⟨vs, h, nd, r⟩ := S.cel n a _ e1 e2
  have hd := S.off n a _ e1 e2
  refine ⟨vs, h, fun od => ?_⟩
  have r' : SRel K (ω.still a (.frz od (.dK vs))) a (.dct l) := ⟨od, vs, upd_same, nd, r.up (Wd.le_still hd)⟩
  have := S.freezeO e1 e2 r'
  exact ⟨_, this.1, this.2, r'⟩
theorem StR.freezeT (S : StR K ω st H) {n : Nat} {a : Addr} {l : List (List Int × W)} (e1 : ω.ρ[n]? = some a) (e2 : st[n]? = some (true, .dtt l)) : ∃ vs, H a = some (.dT vs) ∧ ∀ od, ∃ ω', StR K ω' (st.set n (false, .dtt l)) (upd H a (.frz od (.dT vs))) ∧ Stp ω st H ω' (st.set n (false, .dtt l)) (upd H a (.frz od (.dT vs))) ∧ SRel K ω' a (.dtt l) := by
  obtain ⟨vs, h, nd, r⟩ := S.cel n a _ e1 e2
  have hd := S.off n a _ e1 e2
  refine ⟨vs, h, fun od => ?_⟩
  have r' : SRel K (ω.still a (.frz od (.dT vs))) a (.dtt l) := ⟨od, vs, upd_same, nd, r.up (Wd.le_still hd)⟩
  have := S.freezeO e1 e2 r'
  exact ⟨_, this.1, this.2, r'⟩
/-- a place outside changes -/
theorem StR.outside (S : StR K ω st H) {p : Addr} {o : HO} (hd : ω.D p = none) (ha : ¬ Alive ω st p) : StR K ω st (upd H p o) := by
  have ne : ∀ (n : Nat) (a : Addr) (c : Cell), ω.ρ[n]? = some a → st[n]? = some (true, c) → a ≠ p := fun n a c e1 e2 z => ha ⟨n, c, by rw [← z]; exact e1, e2⟩
  exact ⟨fun a u e => Rd.at (upd_ne (Rd.off hd e)) (S.sub a u e), S.len, S.off, S.inj, fun n a c e1 e2 => (S.cel n a c e1 e2).at (.refl _) (upd_ne (ne n a c e1 e2)), S.stl, fun a C dx vs e => by rw [upd_ne (fun z => by rw [z] at e; exact absurd (hd.symm.trans e) (by simp))]; exact S.ob _ _ _ _ e, fun a o' u e => by rw [upd_ne (fun z => by rw [z] at e; exact absurd (hd.symm.trans e) (by simp))]; exact S.fz _ _ _ e⟩
theorem Stp.outside {H0 : Hp} {ω0 : Wd} {st0 : Sto} (t : Stp ω0 st0 H0 ω st H) {p : Addr} {o : HO} (h : H0 p = none) : Stp ω0 st0 H0 ω st (upd H p o) :=
  ⟨t.le, fun a o' e n => let ⟨x, y⟩ := t.keep a o' e n; ⟨by rw [upd_ne (fun z => by rw [z, h] at e; cases e)]; exact x, y⟩, t.kd⟩
/-- a place outside is taken in: still -/
theorem StR.take (S : StR K ω st H) {H0 : Hp} {ω0 : Wd} {st0 : Sto} (t : Stp ω0 st0 H0 ω st H) {p : Addr} {o : HO} (h0 : H0 p = none) (h : H p = some o) (hd : ω.D p = none) (ha : ¬ Alive ω st p) :
    StR K (ω.still p o) st H ∧ Stp ω0 st0 H0 (ω.still p o) st H := by
  have ne : ∀ (n : Nat) (a : Addr) (c : Cell), ω.ρ[n]? = some a → st[n]? = some (true, c) → a ≠ p := fun n a c e1 e2 z => ha ⟨n, c, by rw [← z]; exact e1, e2⟩
  refine ⟨⟨fun a u e => ?_, S.len, fun n a c e1 e2 => ?_, S.inj, fun n a c e1 e2 => (S.cel n a c e1 e2).at (Wd.le_still hd) rfl, fun n a c e1 e2 => (S.stl n a c e1 e2).up (Wd.le_still hd), fun a C dx vs e => ?_, fun a o' u e => ?_⟩, t.le.trans (Wd.le_still hd), t.keep, fun a o' e n d => ?_⟩
  · by_cases z : a = p
    · subst z
      exact Rd.at (show H a = upd ω.D a o a by rw [upd_same, h]) e
    · exact S.sub a u (Rd.at (show ω.D a = upd ω.D p o a from (upd_ne z).symm) e)
  · show upd ω.D p o a = none
    rw [upd_ne (ne n a c e1 e2)]
    exact S.off n a c e1 e2
  · have e : upd ω.D p o a = some (.ins C dx vs) := e
    by_cases z : a = p
    · subst z
      rw [upd_same] at e
      exact h.trans e
    · rw [upd_ne z] at e; exact S.ob _ _ _ _ e
  · have e : upd ω.D p o a = some (.frz o' u) := e
    by_cases z : a = p
    · subst z
      rw [upd_same] at e
      exact h.trans e
    · rw [upd_ne z] at e; exact S.fz _ _ _ e
  · show upd ω.D p o a = none
    rw [upd_ne (fun z => by rw [z, h0] at e; cases e)]
    exact t.kd a o' e n d
/-- .. as a thing that may change -/
theorem StR.takeM (S : StR K ω st H) {H0 : Hp} {ω0 : Wd} {st0 : Sto} (t : Stp ω0 st0 H0 ω st H) {p : Addr} {c : Cell} (h0 : H0 p = none) (r : CRel K (ω.more p) H p c) (hd : ω.D p = none) (ha : ¬ Alive ω st p) :
    StR K (ω.more p) (st ++ [(true, c)]) H ∧ Stp ω0 st0 H0 (ω.more p) (st ++ [(true, c)]) H := by
  have ne : ∀ (n : Nat) (a : Addr) (c : Cell), ω.ρ[n]? = some a → st[n]? = some (true, c) → a ≠ p := fun n a c e1 e2 z => ha ⟨n, c, by rw [← z]; exact e1, e2⟩
  have spl : ∀ (n : Nat) (a : Addr) (b : Bool) (c' : Cell), (ω.more p).ρ[n]? = some a → (st ++ [(true, c)])[n]? = some (b, c') → (ω.ρ[n]? = some a ∧ st[n]? = some (b, c')) ∨ (n = st.length ∧ a = p ∧ c' = c ∧ b = true) := fun n a b c' e1 e2 => by
    have e1' : (ω.ρ ++ [p])[n]? = some a := e1
    by_cases hn : n < st.length
    · rw [List.getElem?_append_left hn] at e2
      rw [List.getElem?_append_left (by rw [S.len]; exact hn)] at e1'
      exact .inl ⟨e1', e2⟩
    · have hn' : n = st.length := by
        have := (List.getElem?_eq_some_iff.mp e2).1
        simp at this; omega
      subst hn'
      rw [List.getElem?_append_right (Nat.le_refl _)] at e2
      rw [List.getElem?_append_right (by rw [S.len]; exact Nat.le_refl _), S.len] at e1'
      simp at e1' e2
      exact .inr ⟨rfl, e1'.symm, e2.2.symm, e2.1⟩
  refine ⟨⟨S.sub, by show (ω.ρ ++ [p]).length = _; simp [S.len], fun n a c' e1 e2 => ?_, fun n m a c' d e1 e2 e3 e4 => ?_, fun n a c' e1 e2 => ?_, fun n a c' e1 e2 => ?_, S.ob, S.fz⟩, t.le.trans Wd.le_more, fun a o' e n => ⟨(t.keep a o' e n).1, ?_⟩, t.kd⟩
  · rcases spl n a _ c' e1 e2 with ⟨f1, f2⟩ | ⟨_, rfl, _⟩
    · exact S.off n a c' f1 f2
    · exact hd
  · rcases spl n a _ c' e1 e3 with ⟨f1, f2⟩ | ⟨hn, ha', _⟩
    · rcases spl m a _ d e2 e4 with ⟨g1, g2⟩ | ⟨_, hb, _⟩
      · exact S.inj n m a c' d f1 g1 f2 g2
      · exact absurd hb (ne n a c' f1 f2)
    · rcases spl m a _ d e2 e4 with ⟨g1, g2⟩ | ⟨hm, _, _⟩
      · exact absurd ha' (ne m a d g1 g2)
      · omega
  · rcases spl n a _ c' e1 e2 with ⟨f1, f2⟩ | ⟨_, rfl, rfl, _⟩
    · exact (S.cel n a c' f1 f2).at Wd.le_more rfl
    · exact r
  · rcases spl n a _ c' e1 e2 with ⟨f1, f2⟩ | ⟨_, _, _, z⟩
    · exact (S.stl n a c' f1 f2).up Wd.le_more
    · cases z
  · rintro ⟨m, d, e1, e2⟩
    rcases spl m a _ d e1 e2 with ⟨f1, f2⟩ | ⟨_, z, _⟩
    · exact (t.keep a o' e n).2 ⟨m, d, f1, f2⟩
    · rw [z, h0] at e; cases e
theorem StR.tup (S : StR K ω st H) {a : Addr} {xs : List V} (h : SqT K ω.D a xs) : SqT K H a xs := by
  rcases h with h | h
  · exact .inl (S.sub _ _ h)
  · exact .inr h
theorem StR.lst (S : StR K ω st H) {a : Addr} {xs : List V} (h : SqL K ω.D a xs) : SqL K H a xs := by
  rcases h with h | h
  · exact .inl (S.sub _ _ h)
  · exact .inr h
/-- the thing at a number, as the heap has it -/
theorem StR.cell (S : StR K ω st H) {n : Nat} {a : Addr} {b : Bool} {c : Cell} (e1 : ω.ρ[n]? = some a) (e2 : st[n]? = some (b, c)) :
    (∃ ws vs, c = .lst ws ∧ Rd H a (.lst vs) ∧ RelL K ω ws vs) ∨ (∃ ws vs, c = .dct ws ∧ Rd H a (.dK vs) ∧ (ws.map (·.1)).Nodup ∧ RelK K ω ws vs) ∨ (∃ ws vs, c = .dtt ws ∧ Rd H a (.dT vs) ∧ (ws.map (·.1)).Nodup ∧ RelT K ω ws vs) ∨ ∃ C ws, c = .ins C ws := by
  cases b with
  | true =>
    have q := S.cel n a c e1 e2
    cases c with
    | lst ws => obtain ⟨vs, e, r⟩ := q; exact .inl ⟨ws, vs, rfl, .inl e, r⟩
    | dct ws => obtain ⟨vs, e, nd, r⟩ := q; exact .inr (.inl ⟨ws, vs, rfl, .inl e, nd, r⟩)
    | dtt ws => obtain ⟨vs, e, nd, r⟩ := q; exact .inr (.inr (.inl ⟨ws, vs, rfl, .inl e, nd, r⟩))
    | ins C ws => exact .inr (.inr (.inr ⟨C, ws, rfl⟩))
  | false =>
    have q := S.stl n a c e1 e2
    cases c with
    | lst ws => obtain ⟨vs, e, r⟩ := q; exact .inl ⟨ws, vs, rfl, S.sub _ _ (.inl e), r⟩
    | dct ws => obtain ⟨o, vs, e, nd, r⟩ := q; exact .inr (.inl ⟨ws, vs, rfl, S.sub _ _ (.inr ⟨o, e⟩), nd, r⟩)
    | dtt ws => obtain ⟨o, vs, e, nd, r⟩ := q; exact .inr (.inr (.inl ⟨ws, vs, rfl, S.sub _ _ (.inr ⟨o, e⟩), nd, r⟩))
    | ins C ws => exact .inr (.inr (.inr ⟨C, ws, rfl⟩))
/-- the fields of an object, by name -/
theorem RelF.look (f : Str) : ∀ {ws : List (Str × W)} {vs : List (Str × V)}, RelF K ω ws vs → ∀ {w : W}, ws.lookup f = some w → ∃ v, vs.lookup f = some v ∧ Rel K ω w v
  | _, _, .nil, _, e => by cases e
  | _, _, .cons (k := k) r t, w, e => by
    rw [List.lookup_cons] at e ⊢
    by_cases h : (f == k) = true
    · simp only [h] at e ⊢
      cases e; exact ⟨_, rfl, r⟩
    · simp only [Bool.not_eq_true] at h
      simp only [h] at e ⊢
      exact RelF.look f t e
theorem RelF.none (f : Str) : ∀ {ws : List (Str × W)} {vs : List (Str × V)}, RelF K ω ws vs → ws.lookup f = none → vs.lookup f = none
  | _, _, .nil, _ => rfl
  | _, _, .cons (k := k) r t, e => by
    rw [List.lookup_cons] at e ⊢
    by_cases h : (f == k) = true
    · simp only [h] at e; cases e
    · simp only [Bool.not_eq_true] at h
      simp only [h] at e ⊢
      exact RelF.none f t e
theorem RelF.length : ∀ {ws : List (Str × W)} {vs : List (Str × V)}, RelF K ω ws vs → ws.length = vs.length
  | _, _, .nil => rfl
  | _, _, .cons _ t => congrArg Nat.succ (RelF.length t)
end
end Zk

namespace Zk
open PySem PySem.Spec PyProof.Rows L2

/-! ### the small language -/
inductive Bo where | add | sub | mul | fdiv | mod | pow | shl
inductive Co where | eq | ne | lt | le | gt | ge | inS | niS | inD | niD
inductive Bi where | len | int | str | abs | max2 | min2 | maxL | minL | sum | all | any | srtI | lst | tup | rep | srtP | maxT | minT | min3 | lstD | srtD
inductive Mt where | app | rev | clr | get | upr | join | popA
inductive Ty where | int | bool | str | list | tuple | dict
/-- a class: a built-in type, an own one, an error's -/
inductive Cn where | ty (t : Ty) | own (j : Nat) | err (j : Nat)
inductive Tg where | one (i : Nat) | tup (is : List Nat)
inductive Ex where
  | var (i : Nat) | int (i : Int) | bl (b : Bool) | non | str (x : Str) | glb (g : Nat)
  | bin (op : Bo) (m : Bool) (a b : Ex) | neg (a : Ex) | nt (a : Ex)
  | an (a b : Ex) | or (a b : Ex) | cmp (op : Co) (a b : Ex) | cm2 (op op' : Co) (a b c : Ex)
  | isN (neg : Bool) (a : Ex) | tyI (neg : Bool) (a : Ex) (t : Ty) | isI (a : Ex) (t : Ty)
  | ite (c a b : Ex)
  | lst (m : Bool) (es : Ex) | tup (es : Ex) | dct (m : Bool) (es : Ex) | dct1 (m : Bool) (k v : Ex)
  | ix (a b : Ex) | dix (a b : Ex) | sl (m : Bool) (a lo hi : Ex)
  | cal (f : Nat) (es : Ex) | calK (f k n nk : Nat) (perm : List Nat) (es ks' : Ex)
  | bi (f : Bi) (m : Bool) (es : Ex) | mt (f : Mt) (o es : Ex)
  | lc (m : Bool) (own : List (Str × Nat)) (t : Tg) (it cs e : Ex)
  | dc (m : Bool) (own : List (Str × Nat)) (t : Tg) (it cs k e : Ex)
  | lrg1 (m : Bool) (a : Ex) | lrg2 (m : Bool) (a b : Ex) | rg1 (a : Ex) | rg2 (a b : Ex) | its (d : Ex) | vls (d : Ex)
  | frz (a : Ex) | no | nil | cons (a r : Ex)
  | fld (j : Nat) (a : Ex) (f : Str) | prp (j i : Nat) (a : Ex) (f : Str) | mk (j i : Nat) (es : Ex) | mkK (j i k n nk : Nat) (perm : List Nat) (es ks' : Ex)
  | lenO (j i : Nat) (a : Ex) | eqO (neg : Bool) (j i : Nat) (a b : Ex) | addO (j i : Nat) (a b : Ex) | isO (a : Ex) (j : Nat) | addN (j i : Nat) (a b : Ex)
  | excv (j : Nat) | isC (a : Ex) (cs : List Cn) | gdxS (t : Nat) (e : Ex) | dctS (m : Bool) (l : List (Str × Str)) | gcd2 (a b : Ex) | rvL (m : Bool) (a : Ex)
  | enm (a : Ex) | zp (a b : Ex) | lc2 (m : Bool) (own : List (Str × Nat)) (t : Tg) (it cs : Ex) (t1 : Tg) (it1 cs1 e : Ex)
  | rgv (a : Ex) | wrg (a : Ex) | inO (j i : Nat) (a b : Ex) | lset (a : Ex) | dctI (m : Bool) (l : List (Str × Int)) | gdx (t : Nat) (e : Ex) | rvs (a : Ex)

abbrev Env' := List (Option W)
abbrev Po := W → Sto → Prop
/-- an error: the number of its class, what its field holds -/
abbrev Exn := Nat × Option W
abbrev XPo := Exn → Sto → Prop
abbrev Calls := Nat → List W → Sto → XPo → Po → Prop

/-! ### readings of values -/
mutual
def dat0 : W → Option PyData
  | .non => some .none
  | .bl b => some (.bool b)
  | .int i => some (.int i)
  | .str x => some (.str x)
  | .tup l => (dat0s l).map .tuple
  | .lst l => (dat0s l).map .list
  | .dct _ => none
  | .ref _ => none
  | .scr _ => none
  | .obj _ _ => none
  | .exc _ => none
  | .dtt _ => none
  | .rng _ _ => none
def dat0s : List W → Option (List PyData)
  | [] => some []
  | w :: r => match dat0 w, dat0s r with
    | some d, some ds => some (d :: ds)
    | _, _ => none
end
/-- .. a list that may change among them -/
def datE (st : Sto) : W → Option PyData
  | .ref n => match st[n]? with
    | some (_, .lst l) => (dat0s l).map .list
    | _ => none
  | w => dat0 w
def datR (st : Sto) : List W → Option (List PyData)
  | [] => some []
  | w :: r => match datE st w, datR st r with
    | some d, some ds => some (d :: ds)
    | _, _ => none
def dat (st : Sto) : W → Option PyData
  | .ref n => match st[n]? with
    | some (_, .lst l) => match dat0s l with
      | some ds => some (.list ds)
      | none => (datR st l).map .list
    | _ => none
  | .lst l => match dat0s l with
    | some ds => some (.list ds)
    | none => (datR st l).map .list
  | w => dat0 w
/-- a list or a tuple -/
def sq (st : Sto) : W → Option (List W)
  | .tup l => some l
  | .lst l => some l
  | .scr ns => some (ns.map W.int)
  | .ref n => match st[n]? with
    | some (_, .lst l) => some l
    | _ => none
  | _ => none
/-- a list -/
def ls (st : Sto) : W → Option (List W)
  | .lst l => some l
  | .ref n => match st[n]? with
    | some (_, .lst l) => some l
    | _ => none
  | _ => none
/-- a dict -/
def dc (st : Sto) : W → Option (List (Key × W))
  | .dct l => some l
  | .ref n => match st[n]? with
    | some (_, .dct l) => some l
    | _ => none
  | _ => none
def keyOf : W → Option Key
  | .int i => some (.inl i)
  | .str x => some (.inr x)
  | _ => none
def ofKey : Key → W
  | .inl i => .int i
  | .inr x => .str x
def intsOf : List W → Option (List Int)
  | [] => some []
  | .int i :: r => (intsOf r).map (i :: ·)
  | _ :: _ => none
def blsOf : List W → Option (List Bool)
  | [] => some []
  | .bl i :: r => (blsOf r).map (i :: ·)
  | _ :: _ => none
def strsOf : List W → Option (List Str)
  | [] => some []
  | .str i :: r => (strsOf r).map (i :: ·)
  | _ :: _ => none
def truth (st : Sto) : W → Option Bool
  | .non => some false
  | .bl b => some b
  | .int i => some (i != 0)
  | .str x => if x.length ≤ sizeLine then some (x.length != 0) else none
  | .tup l => some (!l.isEmpty)
  | .lst l => some (!l.isEmpty)
  | .dct _ => none
  | .dtt _ => none
  | .rng _ _ => none
  | .scr ns => some (!ns.isEmpty)
  | .obj _ _ => none
  | .exc _ => none
  | .ref n => match st[n]? with
    | some (_, .lst l) => some (!l.isEmpty)
    | _ => none
def tyOf (st : Sto) : W → Option Ty
  | .non => none
  | .bl _ => some .bool
  | .int _ => some .int
  | .str _ => some .str
  | .tup _ => some .tuple
  | .lst _ => some .list
  | .dct _ => none
  | .dtt _ => none
  | .rng _ _ => none
  | .scr _ => some .list
  | .obj _ _ => none
  | .exc _ => none
  | .ref n => match st[n]? with
    | some (_, .lst _) => some .list
    | _ => none
def Ty.name : Ty → String
  | .int => "int" | .bool => "bool" | .str => "str" | .list => "list" | .tuple => "tuple" | .dict => "dict"
instance : DecidableEq Ty := fun a b => by
  cases a <;> cases b <;> first | exact isTrue rfl | exact isFalse (fun h => nomatch h)
def cutX {α : Type} (xs : List α) (lo hi : Option Int) : List α := (xs.drop (HT.sIx xs.length 0 lo)).take (HT.sIx xs.length xs.length hi - HT.sIx xs.length 0 lo)
def partOf : W → Option (Option Int)
  | .non => some none
  | .int i => some (some i)
  | _ => none
def flatW : W → Bool
  | .non => true | .bl _ => true | .int _ => true | .str _ => true | _ => false
def eqW : W → W → Bool
  | .non, .non => true
  | .bl a, .bl b => a == b
  | .bl a, .int b => (if a then 1 else 0) == b
  | .int a, .bl b => a == (if b then 1 else 0)
  | .int a, .int b => a == b
  | .str a, .str b => a == b
  | _, _ => false
def look {κ α : Type} [DecidableEq κ] (l : List (κ × α)) (k : κ) : Option α := (l.find? fun p => decide (p.1 = k)).map (·.2)
def put {κ α : Type} [DecidableEq κ] (l : List (κ × α)) (k : κ) (v : α) : List (κ × α) :=
  if (l.any fun p => decide (p.1 = k)) = true then l.map (fun p => if p.1 = k then (p.1, v) else p) else l ++ [(k, v)]

/-! ### what comes of a construct -/
def newL (m : Bool) (ws : List W) (st : Sto) (Q : Po) : Prop :=
  ws.length ≤ sizeLine ∧ (m = true → Q (.ref st.length) (st ++ [(true, .lst ws)])) ∧ (m = false → Q (.lst ws) st)
def newD (m : Bool) (ws : List (Key × W)) (st : Sto) (Q : Po) : Prop :=
  (m = true → Q (.ref st.length) (st ++ [(true, .dct ws)])) ∧ (m = false → Q (.dct ws) st)
def MulOk (i j : Int) : Prop := CMul i j ∨ CMulW i j
def addW (m : Bool) (x y : W) (st : Sto) (Q : Po) : Prop :=
  (∃ i j, x = .int i ∧ y = .int j ∧ Q (.int (i + j)) st) ∨
  (∃ a b, x = .str a ∧ y = .str b ∧ a.length + b.length ≤ sizeLine ∧ Q (.str (a ++ b)) st) ∨
  (∃ a b, x = .tup a ∧ y = .tup b ∧ a.length + b.length ≤ sizeLine ∧ Q (.tup (a ++ b)) st) ∨
  (∃ a b, ls st x = some a ∧ ls st y = some b ∧ newL m (a ++ b) st Q)
def binW (op : Bo) (m : Bool) (x y : W) (st : Sto) (Q : Po) : Prop :=
  match op with
  | .add => addW m x y st Q
  | .sub => ∃ i j, x = .int i ∧ y = .int j ∧ Q (.int (i - j)) st
  | .mul => (∃ i j, x = .int i ∧ y = .int j ∧ MulOk i j ∧ Q (.int (i * j)) st) ∨
    (∃ n a k, x = .ref n ∧ st[n]? = some (true, .lst a) ∧ y = .int k ∧ -(2 ^ 63) ≤ k ∧ k < 2 ^ 63 ∧ a.length * k.toNat ≤ sizeLine ∧ newL m (List.replicate k.toNat a).flatten st Q)
  | .fdiv => ∃ i j, x = .int i ∧ y = .int j ∧ ((0 < j ∧ j.natAbs.log2 < 9000 ∧ Q (.int (i / j)) st) ∨ (j < 0 ∧ j.natAbs.log2 < 9000 ∧ Q (.int (i.fdiv j)) st))
  | .mod => ∃ i j, x = .int i ∧ y = .int j ∧ ((0 < j ∧ Q (.int (i % j)) st) ∨ (j < 0 ∧ Q (.int (i.fmod j)) st))
  | .pow => ∃ i j, x = .int i ∧ y = .int j ∧ CPow i j ∧ Q (.int (i ^ j.toNat)) st
  | .shl => ∃ i j, x = .int i ∧ y = .int j ∧ CPow i j ∧ Q (.int (i * 2 ^ j.toNat)) st
def eqP (x y : W) (st : Sto) (Q : Bool → Prop) : Prop :=
  (∃ i j, x = .int i ∧ y = .int j ∧ Q (decide (i = j))) ∨ (∃ i j, x = .str i ∧ y = .str j ∧ Q (decide (i = j))) ∨
  ∃ d e, dat st x = some d ∧ dat st y = some e ∧ SeqAt.shaped d = true ∧ SeqAt.shaped e = true ∧ Q (PyData.eqv d e)
def ordP (f : Int → Int → Bool) (x y : W) (Q : Bool → Prop) : Prop := ∃ i j, x = .int i ∧ y = .int j ∧ Q (f i j)
def inP (x y : W) (st : Sto) (Q : Bool → Prop) : Prop :=
  (∃ l, sq st y = some l ∧ flatW x = true ∧ l.all flatW = true ∧ Q (l.any fun z => eqW z x)) ∨
  ∃ d e, dat st x = some d ∧ ls st y ≠ none ∧ dat st y = some (.list e) ∧ SeqAt.shaped d = true ∧ SeqAt.shaped (.list e) = true ∧ Q (e.any fun z => PyData.eqv z d)
def ltP (x y : W) (Q : Bool → Prop) : Prop :=
  ordP (fun i j => decide (i < j)) x y Q ∨ (∃ a b ns ms, x = .tup a ∧ y = .tup b ∧ intsOf a = some ns ∧ intsOf b = some ms ∧ Q (HT.lexLt ns ms))
def leP' (x y : W) (Q : Bool → Prop) : Prop :=
  ordP (fun i j => decide (i ≤ j)) x y Q ∨ (∃ a b ns ms, x = .tup a ∧ y = .tup b ∧ intsOf a = some ns ∧ intsOf b = some ms ∧
    Q (Ob.lexAt (fun j => decide (ns.getD j 0 = ms.getD j 0)) (fun j => decide (ns.getD j 0 ≤ ms.getD j 0)) (decide (ns.length ≤ ms.length)) 0 (min ns.length ms.length)))
def dinP (x y : W) (st : Sto) (Q : Bool → Prop) : Prop := ∃ k l, keyOf x = some k ∧ dc st y = some l ∧ Q (look l k).isSome
def cmpP (op : Co) (x y : W) (st : Sto) (Q : Bool → Prop) : Prop :=
  match op with
  | .eq => eqP x y st Q
  | .ne => eqP x y st fun b => Q (!b)
  | .lt => ltP x y Q
  | .le => leP' x y Q
  | .gt => ordP (fun i j => decide (j < i)) x y Q
  | .ge => ordP (fun i j => decide (j ≤ i)) x y Q
  | .inS => inP x y st Q
  | .niS => inP x y st fun b => Q (!b)
  | .inD => dinP x y st Q
  | .niD => dinP x y st fun b => Q (!b)
def ixW (x y : W) (st : Sto) (Q : Po) : Prop :=
  (∃ l i w, sq st x = some l ∧ y = .int i ∧ atI l i = some w ∧ Q w st) ∨
  ∃ z i c, x = .str z ∧ y = .int i ∧ z.length ≤ sizeLine ∧ atI z.cps.toList i = some c ∧ Q (.str ⟨#[c]⟩) st
def slW (m : Bool) (x : W) (l h : Option Int) (st : Sto) (Q : Po) : Prop :=
  (∃ a, ls st x = some a ∧ newL m (cutX a l h) st Q) ∨ (∃ ns, x = .scr ns ∧ newL m (cutX (ns.map W.int) l h) st Q) ∨ (∃ a, x = .tup a ∧ Q (.tup (cutX a l h)) st) ∨
    ∃ z, x = .str z ∧ z.length ≤ sizeLine ∧ Q (.str (Txt.slice z l h)) st
/-- what a part of a slice says -/
def prt : Ex → W → Option Int → Prop
  | .no, _, o => o = none
  | _, w, o => ∃ i, w = .int i ∧ o = some i
def pairV (p : Int × Int) : W := .tup [.int p.1, .int p.2]
def leP (p q : Int × Int) : Prop := p.1 < q.1 ∨ (p.1 = q.1 ∧ p.2 ≤ q.2)
def dOf (w : W) : PyData := (dat0 w).getD .none
def biW (f : Bi) (m : Bool) (ws : List W) (st : Sto) (Q : Po) : Prop :=
  match f with
  | .len => (∃ x l, ws = [x] ∧ sq st x = some l ∧ Q (.int l.length) st) ∨ (∃ z, ws = [.str z] ∧ z.length ≤ sizeLine ∧ Q (.int z.length) st) ∨
      (∃ x l, ws = [x] ∧ dc st x = some l ∧ Q (.int l.length) st)
  | .int => (∃ i, ws = [.int i] ∧ Q (.int i) st) ∨ ∃ b, ws = [.bl b] ∧ Q (.int (if b then 1 else 0)) st
  | .str => ∃ i, ws = [.int i] ∧ i.natAbs.log2 < 1920 ∧ Q (.str (toString i)) st
  | .abs => ∃ i, ws = [.int i] ∧ Q (.int (if i < 0 then -i else i)) st
  | .max2 => ∃ i j, ws = [.int i, .int j] ∧ Q (.int (if j > i then j else i)) st
  | .min2 => ∃ i j, ws = [.int i, .int j] ∧ Q (.int (if j < i then j else i)) st
  | .maxL => ∃ x l ns, ws = [x] ∧ ls st x = some l ∧ intsOf l = some ns ∧ 0 < ns.length ∧ ∀ k, k ∈ ns → (∀ y, y ∈ ns → y ≤ k) → Q (.int k) st
  | .minL => ∃ x l ns, ws = [x] ∧ ls st x = some l ∧ intsOf l = some ns ∧ 0 < ns.length ∧ ∀ k, k ∈ ns → (∀ y, y ∈ ns → k ≤ y) → Q (.int k) st
  | .sum => ∃ x l ns, ws = [x] ∧ ls st x = some l ∧ intsOf l = some ns ∧ Q (.int ns.sum) st
  | .all => ∃ x l bs, ws = [x] ∧ ls st x = some l ∧ blsOf l = some bs ∧ Q (.bl (bs.all id)) st
  | .any => ∃ x l bs, ws = [x] ∧ ls st x = some l ∧ blsOf l = some bs ∧ Q (.bl (bs.any id)) st
  | .srtI => (∃ x l ns, ws = [x] ∧ ls st x = some l ∧ intsOf l = some ns ∧ ∀ ns' : List Int, ns'.Perm ns → ns'.Pairwise (· ≤ ·) → newL m (ns'.map W.int) st Q) ∨
      ∃ ns : List Int, ws = [.tup (ns.map W.int)] ∧ ns.length ≤ 1000 ∧ ∀ ns' : List Int, ns'.Perm ns → ns'.Pairwise (· ≤ ·) → newL m (ns'.map W.int) st Q
  | .srtP => ∃ x ps, ws = [x] ∧ ls st x = some (ps.map pairV) ∧ ∀ ps' : List (Int × Int), ps'.Perm ps → ps'.Pairwise leP → newL m (ps'.map pairV) st Q
  | .maxT => ∃ ns : List Int, ws = [.tup (ns.map W.int)] ∧ 0 < ns.length ∧ ∀ k, k ∈ ns → (∀ y, y ∈ ns → y ≤ k) → Q (.int k) st
  | .min3 => ∃ i j k, ws = [.int i, .int j, .int k] ∧ Q (.int (if k < (if j < i then j else i) then k else (if j < i then j else i))) st
  | .minT => ∃ ns : List Int, ws = [.tup (ns.map W.int)] ∧ 0 < ns.length ∧ ∀ k, k ∈ ns → (∀ y, y ∈ ns → k ≤ y) → Q (.int k) st
  | .lst => ∃ x l, ws = [x] ∧ sq st x = some l ∧ newL m l st Q
  | .lstD => ∃ x l, ws = [x] ∧ dc st x = some l ∧ newL m (l.map fun p => ofKey p.1) st Q
  | .tup => ∃ x l, ws = [x] ∧ (ls st x = some l ∨ x = .tup l) ∧ Q (.tup l) st
  | .srtD => ∃ x l, ws = [x] ∧ ls st x = some l ∧ (∀ w ∈ l, dat0 w ≠ none) ∧ PySem.W.AllAlike (l.map dOf) ∧ PySem.W.Sortable (l.map dOf) ∧ (∀ w ∈ l, (dOf w).depth ≤ 60) ∧ l.length ≤ sizeLine ∧ newL m (l.mergeSort (PySem.W.dataLe false dOf)) st Q
  | .rep => ∃ x d, ws = [x] ∧ dat st x = some d ∧ d.showable = true ∧ d.depth ≤ 64 ∧ d.shown.length ≤ sizeLine ∧ Q (.str d.shown) st
/-- what stands at an object: its class, its fields -/
def objAt (C : Addr) (x : W) (st : Sto) (fs : List (Str × W)) : Prop := x = .obj C fs ∨ ∃ n b, x = .ref n ∧ st[n]? = some (b, .ins C fs)
def putW (f : Str) (v : W) : List (Str × W) → List (Str × W)
  | [] => [(f, v)]
  | (g, x) :: r => if g = f then (g, v) :: r else (g, x) :: putW f v r
/-- the globals, the classes' places, how many there are, which is one of which, the tables with text keys -/
def tyCn (t' : Ty) : Cn → Bool
  | .ty t => decide (t' = t) || (decide (t' = .bool) && decide (t = .int))
  | _ => false
structure Gx where
  g : Nat → Option W
  A : Nat → Addr
  n : Nat
  s : Nat → Nat → Bool
  t : Nat → List (Str × Int)
  e : Nat → Addr
  ne : Nat
  em : Nat → List Nat
  ts : Nat → List (Str × Str)
instance : CoeFun Gx (fun _ => Nat → Option W) := ⟨Gx.g⟩
/-- which classes a value is of -/
def isOf (G : Gx) (st : Sto) (x : W) (f : Cn → Bool) : Prop :=
  (x = .non ∧ f = fun _ => false) ∨ (∃ t', tyOf st x = some t' ∧ f = tyCn t') ∨ (∃ i fs, x = .obj (G.A i) fs ∧ i < G.n ∧ f = fun | .own j => G.s i j | _ => false) ∨
    ∃ i, x = .exc (G.e i) ∧ i < G.ne ∧ f = fun | .err j => decide (i ∈ G.em j) | _ => false
/-- a value that may be held against an own object -/
def rightW (G : Gx) (st : Sto) (y : W) : Prop := (y = .non ∨ tyOf st y ≠ none) ∨ (∃ i fs, i < G.n ∧ y = .obj (G.A i) fs) ∨ ∃ i, i < G.ne ∧ y = .exc (G.e i)
/-- .. that is no own object -/
def rightN (G : Gx) (st : Sto) (y : W) : Prop := (y = .non ∨ tyOf st y ≠ none) ∨ ∃ i, i < G.ne ∧ y = .exc (G.e i)
/-- a value that is no object of the text's classes -/
def plainW (st : Sto) (x : W) : Prop := x = .non ∨ tyOf st x ≠ none
def mtTy (f : Mt) (o : W) (st : Sto) : Prop :=
  match f with
  | .get => ∃ l, dc st o = some l
  | .upr => ∃ a, o = .str a
  | .join => ∃ a, o = .str a
  | _ => ∃ n b l, o = .ref n ∧ st[n]? = some (b, .lst l)
def mtW (f : Mt) (o : W) (ws : List W) (st : Sto) (Q : Po) : Prop :=
  match f with
  | .app => ∃ n l y, o = .ref n ∧ ws = [y] ∧ st[n]? = some (true, .lst l) ∧ l.length < sizeLine ∧ Q .non (st.set n (true, .lst (l ++ [y])))
  | .rev => ∃ n l, o = .ref n ∧ ws = [] ∧ st[n]? = some (true, .lst l) ∧ Q .non (st.set n (true, .lst l.reverse))
  | .popA => ∃ n l k w, o = .ref n ∧ ws = [.int k] ∧ st[n]? = some (true, .lst l) ∧ 0 ≤ k ∧ l[k.toNat]? = some w ∧ l.length < 2 ^ 62 ∧ Q w (st.set n (true, .lst (l.eraseIdx k.toNat)))
  | .clr => ∃ n l, o = .ref n ∧ ws = [] ∧ st[n]? = some (true, .lst l) ∧ Q .non (st.set n (true, .lst []))
  | .get => ∃ x d k l, ws = [x, d] ∧ keyOf x = some k ∧ dc st o = some l ∧ Q ((look l k).getD d) st
  | .upr => ∃ a, o = .str a ∧ ws = [] ∧ a.length ≤ 5592405 ∧ Q (.str (Txt.upper a)) st
  | .join => ∃ a x l ys, o = .str a ∧ ws = [x] ∧ sq st x = some l ∧ strsOf l = some ys ∧ (ys.map (·.length)).sum + ys.length * a.length ≤ 16777216 ∧ Q (.str (Txt.join a ys)) st
def setAll : Env' → List Nat → List W → Env'
  | env, i :: is, w :: ws => setAll (env.set i (some w)) is ws
  | env, _, _ => env
def tgP (t : Tg) (w : W) (env : Env') (Q : Env' → Prop) : Prop :=
  match t with
  | .one i => Q (env.set i (some w))
  | .tup is => ∃ ws, w = .tup ws ∧ ws.length = is.length ∧ Q (setAll env is ws)
def Tg.slots : Tg → List Nat
  | .one i => [i]
  | .tup is => is
def wipeE (env : Env') : List Nat → Env'
  | [] => env
  | v :: vs => (wipeE env vs).set v none
/-- a list that a loop walks becomes still -/
def gT : Sto → Prop := fun _ => True
/-- .. or stays changeable, if it is the same at each turn -/
def walkP (w : W) (st : Sto) (Q : List W → (Sto → Prop) → Sto → Prop) : Prop :=
  (∃ l, w = .lst l ∧ Q l gT st) ∨ (∃ l, w = .tup l ∧ Q l gT st) ∨ (∃ ns, w = .scr ns ∧ Q (ns.map W.int) gT st) ∨ (∃ n l b, w = .ref n ∧ st[n]? = some (b, .lst l) ∧ Q l gT (st.set n (false, .lst l))) ∨
    (∃ n l, w = .ref n ∧ st[n]? = some (true, .lst l) ∧ Q l (fun s => s[n]? = some (true, .lst l)) st) ∨
    (∃ l, w = .dct l ∧ Q (l.map fun p => ofKey p.1) gT st) ∨ (∃ n l b, w = .ref n ∧ st[n]? = some (b, .dct l) ∧ Q (l.map fun p => ofKey p.1) gT (st.set n (false, .dct l)))
/-- a dict becomes still -/
def frzD (w : W) (st : Sto) (Q : List (Key × W) → Sto → Prop) : Prop := (∃ l, w = .dct l ∧ Q l st) ∨ ∃ n l b, w = .ref n ∧ st[n]? = some (b, .dct l) ∧ Q l (st.set n (false, .dct l))
/-- a list becomes still -/
def frzL (w : W) (st : Sto) (Q : List W → Sto → Prop) : Prop := (∃ l, w = .lst l ∧ Q l st) ∨ (∃ ns, w = .scr ns ∧ Q (ns.map W.int) st) ∨ ∃ n l b, w = .ref n ∧ st[n]? = some (b, .lst l) ∧ Q l (st.set n (false, .lst l))
def frzP (w : W) (st : Sto) (Q : Po) : Prop :=
  (∃ n l b, w = .ref n ∧ st[n]? = some (b, .lst l) ∧ Q (.lst l) (st.set n (false, .lst l))) ∨
  (∃ n l b, w = .ref n ∧ st[n]? = some (b, .dct l) ∧ Q (.dct l) (st.set n (false, .dct l))) ∨
  (∃ l, w = .lst l ∧ Q w st) ∨ (∃ l, w = .dct l ∧ Q w st) ∨ (∃ n C l b, w = .ref n ∧ st[n]? = some (b, .ins C l) ∧ Q (.obj C l) (st.set n (false, .ins C l))) ∨
  (∃ n l b, w = .ref n ∧ st[n]? = some (b, .dtt l) ∧ Q (.dtt l) (st.set n (false, .dtt l))) ∨ (∃ l, w = .dtt l ∧ Q w st)
def lcP (f : W → Sto → (Option W → Sto → Prop) → Prop) (g : Sto → Prop) : List W → List W → Sto → (List W → Sto → Prop) → Prop
  | [], acc, st, Q => g st ∧ Q acc st
  | w :: r, acc, st, Q => g st ∧ f w st fun o st1 => lcP f g r (match o with | some y => acc ++ [y] | none => acc) st1 Q
def dcP (f : W → Sto → (Option (Key × W) → Sto → Prop) → Prop) (g : Sto → Prop) : List W → List (Key × W) → Sto → (List (Key × W) → Sto → Prop) → Prop
  | [], acc, st, Q => g st ∧ Q acc st
  | w :: r, acc, st, Q => g st ∧ f w st fun o st1 => dcP f g r (match o with | some y => put acc y.1 y.2 | none => acc) st1 Q

/-- two loops of one comprehension -/
def lc2P (f : W → Sto → (Option Env' → Sto → Prop) → Prop) (h : Env' → Sto → (List W → (Sto → Prop) → Sto → Prop) → Prop) (f1 : Env' → W → Sto → (Option W → Sto → Prop) → Prop) (g : Sto → Prop) : List W → List W → Sto → (List W → Sto → Prop) → Prop
  | [], acc, st, Q => g st ∧ Q acc st
  | w :: r, acc, st, Q => g st ∧ f w st fun o st1 => match o with
    | some env1 => h env1 st1 fun items g1 st2 => acc.length + items.length ≤ sizeLine ∧ lcP (f1 env1) g1 items acc st2 fun acc' st3 => lc2P f h f1 g r acc' st3 Q
    | none => lc2P f h f1 g r acc st1 Q
def noX : XPo := fun _ _ => False
/-- fields that hold the same data: what one object says of itself -/
def SameF (fz fs : List (Str × W)) : Prop := ∀ f w w' d d', fz.lookup f = some w → fs.lookup f = some w' → dat0 w = some d → dat0 w' = some d' → d = d'
section
variable (G : Gx) (C : Calls)
/-- the meaning of an expression; of a list of arguments: the tuple of their values -/
def wpE : Ex → Env' → Sto → XPo → Po → Prop
  | .var i, env, st, _, Q => ∃ w, env[i]? = some (some w) ∧ Q w st
  | .int i, _, st, _, Q => Q (.int i) st
  | .bl b, _, st, _, Q => Q (.bl b) st
  | .non, _, st, _, Q => Q .non st
  | .no, _, st, _, Q => Q .non st
  | .str x, _, st, _, Q => Q (.str x) st
  | .glb g, _, st, _, Q => ∃ w, G.g g = some w ∧ Q w st
  | .bin op m a b, env, st, X, Q => wpE a env st X fun x st1 => wpE b env st1 X fun y st2 => binW op m x y st2 Q
  | .neg a, env, st, X, Q => wpE a env st X fun x st1 => ∃ i, x = .int i ∧ Q (.int (-i)) st1
  | .nt a, env, st, X, Q => wpE a env st X fun x st1 => ∃ b, truth st1 x = some b ∧ Q (.bl (!b)) st1
  | .an a b, env, st, X, Q => wpE a env st X fun x st1 => ∃ c, truth st1 x = some c ∧ ((c = true → wpE b env st1 X Q) ∧ (c = false → Q x st1))
  | .or a b, env, st, X, Q => wpE a env st X fun x st1 => ∃ c, truth st1 x = some c ∧ ((c = true → Q x st1) ∧ (c = false → wpE b env st1 X Q))
  | .cmp op a b, env, st, X, Q => wpE a env st X fun x st1 => wpE b env st1 X fun y st2 => cmpP op x y st2 fun k => Q (.bl k) st2
  | .cm2 op op' a b c, env, st, X, Q => wpE a env st X fun x st1 => wpE b env st1 X fun y st2 => cmpP op x y st2 fun k =>
      (k = true → wpE c env st2 X fun z st3 => cmpP op' y z st3 fun k' => Q (.bl k') st3) ∧ (k = false → Q (.bl false) st2)
  | .isN neg a, env, st, X, Q => wpE a env st X fun x st1 => ∀ k, (k = true ↔ x = .non) → Q (.bl (if neg then !k else k)) st1
  | .tyI neg a t, env, st, X, Q => wpE a env st X fun x st1 => (x = .non ∧ Q (.bl neg) st1) ∨ (∃ t', tyOf st1 x = some t' ∧ Q (.bl (if neg then !decide (t' = t) else decide (t' = t))) st1) ∨
      (((∃ i fs, i < G.n ∧ x = .obj (G.A i) fs) ∨ ∃ i, i < G.ne ∧ x = .exc (G.e i)) ∧ Q (.bl neg) st1)
  | .isI a t, env, st, X, Q => wpE a env st X fun x st1 => (x = .non ∧ Q (.bl false) st1) ∨ ∃ t', tyOf st1 x = some t' ∧ Q (.bl (decide (t' = t) || (decide (t' = .bool) && decide (t = .int)))) st1
  | .ite c a b, env, st, X, Q => wpE c env st X fun x st1 => ∃ k, truth st1 x = some k ∧ ((k = true → wpE a env st1 X Q) ∧ (k = false → wpE b env st1 X Q))
  | .lst m es, env, st, X, Q => wpE es env st X fun w st1 => ∃ ws, w = .tup ws ∧ newL m ws st1 Q
  | .tup es, env, st, X, Q => wpE es env st X fun w st1 => ∃ ws, w = .tup ws ∧ ws.length ≤ sizeLine ∧ Q (.tup ws) st1
  | .dct m es, env, st, X, Q => es = .nil ∧ newD m [] st Q
  | .dct1 m k v, env, st, X, Q => wpE k env st X fun x st1 => wpE v env st1 X fun y st2 => ∃ q, keyOf x = some q ∧ newD m [(q, y)] st2 Q
  | .ix a b, env, st, X, Q => wpE a env st X fun x st1 => wpE b env st1 X fun y st2 => ixW x y st2 Q
  | .dix a b, env, st, X, Q => wpE a env st X fun x st1 => wpE b env st1 X fun y st2 => ∃ l k w, dc st2 x = some l ∧ keyOf y = some k ∧ look l k = some w ∧ Q w st2
  | .sl m a lo hi, env, st, X, Q => wpE a env st X fun x st1 => wpE lo env st1 X fun l st2 => ∃ l', prt lo l l' ∧ wpE hi env st2 X fun h st3 => ∃ h', prt hi h h' ∧ slW m x l' h' st3 Q
  | .cal f es, env, st, X, Q => wpE es env st X fun w st1 => ∃ ws, w = .tup ws ∧ C f ws st1 X Q
  | .calK f k n nk perm es ks', env, st, X, Q => wpE es env st X fun w st1 => ∃ ws, w = .tup ws ∧ ws.length = n ∧ wpE ks' env st1 X fun w' st2 => ∃ ws', w' = .tup ws' ∧ ws'.length = nk ∧ C f (ws ++ perm.filterMap fun i => ws'[i]?) st2 X Q
  | .bi f m es, env, st, X, Q => wpE es env st X fun w st1 => ∃ ws, w = .tup ws ∧ biW f m ws st1 Q
  | .mt f o es, env, st, X, Q => wpE o env st X fun x st1 => mtTy f x st1 ∧ wpE es env st1 X fun w st2 => ∃ ws, w = .tup ws ∧ mtW f x ws st2 Q
  | .lc m own t it cs e, env, st, X, Q => wpE it env st X fun w st1 => walkP w st1 fun items grd st2 => items.length ≤ sizeLine ∧
      lcP (fun x s K => tgP t x (wipeE env (own.map (·.2))) fun env1 => wpE cs env1 s noX fun cw s1 =>
        (cw = .tup [] ∧ wpE e env1 s1 noX fun y s2 => K (some y) s2) ∨
        ∃ x b, cw = .tup [x] ∧ truth s1 x = some b ∧ ((b = true → wpE e env1 s1 noX fun y s2 => K (some y) s2) ∧ (b = false → K none s1))) grd items [] st2 fun ws st3 => newL m ws st3 Q
  | .dc m own t it cs k e, env, st, X, Q => wpE it env st X fun w st1 => walkP w st1 fun items grd st2 => items.length < sizeLine ∧
      dcP (fun x s K => tgP t x (wipeE env (own.map (·.2))) fun env1 => wpE cs env1 s noX fun cw s1 =>
        (cw = .tup [] ∧ wpE k env1 s1 noX fun y s2 => wpE e env1 s2 noX fun z s3 => ∃ q, keyOf y = some q ∧ K (some (q, z)) s3) ∨
        ∃ x b, cw = .tup [x] ∧ truth s1 x = some b ∧ ((b = true → wpE k env1 s1 noX fun y s2 => wpE e env1 s2 noX fun z s3 => ∃ q, keyOf y = some q ∧ K (some (q, z)) s3) ∧ (b = false → K none s1))) grd items [] st2 fun ws st3 => newD m ws st3 Q
  | .lrg1 m a, env, st, X, Q => wpE a env st X fun x st1 => ∃ j : Int, x = .int j ∧ -(2 ^ 62) ≤ j ∧ j < 2 ^ 62 ∧ newL m ((List.range j.toNat).map fun k => W.int (k : Nat)) st1 Q
  | .lrg2 m a b, env, st, X, Q => wpE a env st X fun x st1 => wpE b env st1 X fun y st2 => ∃ i j : Int, x = .int i ∧ y = .int j ∧ -(2 ^ 62) ≤ i ∧ i < 2 ^ 62 ∧ -(2 ^ 62) ≤ j ∧ j < 2 ^ 62 ∧ newL m ((List.range (j - i).toNat).map fun k => W.int (i + (k : Nat))) st2 Q
  | .rg1 a, env, st, X, Q => wpE a env st X fun x st1 => ∃ j : Int, x = .int j ∧ -(2 ^ 62) ≤ j ∧ j < 2 ^ 62 ∧ Q (.lst ((List.range j.toNat).map fun k => W.int (k : Nat))) st1
  | .rg2 a b, env, st, X, Q => wpE a env st X fun x st1 => wpE b env st1 X fun y st2 => ∃ i j : Int, x = .int i ∧ y = .int j ∧ -(2 ^ 62) ≤ i ∧ i < 2 ^ 62 ∧ -(2 ^ 62) ≤ j ∧ j < 2 ^ 62 ∧
      Q (.lst ((List.range (j - i).toNat).map fun k => W.int (i + (k : Nat)))) st2
  | .its d, env, st, X, Q => wpE d env st X fun x st1 => frzD x st1 fun l st2 => Q (.lst (l.map fun p => .tup [ofKey p.1, p.2])) st2
  | .vls d, env, st, X, Q => wpE d env st X fun x st1 => frzD x st1 fun l st2 => Q (.lst (l.map fun p => p.2)) st2
  | .enm a, env, st, X, Q => wpE a env st X fun x st1 => frzL x st1 fun l st2 => Q (.lst (l.zipIdx.map fun p => .tup [.int p.2, p.1])) st2
  | .zp a b, env, st, X, Q => wpE a env st X fun x st1 => wpE b env st1 X fun y st2 => frzL x st2 fun l st3 => frzL y st3 fun m st4 => Q (.lst ((l.zip m).map fun p => .tup [p.1, p.2])) st4
  | .frz a, env, st, X, Q => wpE a env st X fun x st1 => frzP x st1 Q
  | .fld j a f, env, st, X, Q => wpE a env st X fun x st1 => ∃ fs w, objAt (G.A j) x st1 fs ∧ fs.lookup f = some w ∧ Q w st1
  | .prp j i a _, env, st, X, Q => wpE a env st X fun x st1 => (∃ fs, x = .obj (G.A j) fs) ∧ C i [x] st1 noX Q
  | .mk j i es, env, st, X, Q => wpE es env st X fun w st1 => ∃ ws, w = .tup ws ∧ C i (.ref st1.length :: ws) (st1 ++ [(true, .ins (G.A j) [])]) X fun v s => v = .non ∧ ∃ fs b, s[st1.length]? = some (b, .ins (G.A j) fs) ∧ Q (.obj (G.A j) fs) (s.set st1.length (false, .ins (G.A j) fs))
  | .mkK j i k n nk perm es ks', env, st, X, Q => wpE es env st X fun w st1 => ∃ ws, w = .tup ws ∧ ws.length = n ∧ wpE ks' env st1 X fun w' st2 => ∃ ws', w' = .tup ws' ∧ ws'.length = nk ∧
      C i ((.ref st2.length :: ws) ++ perm.filterMap fun i => ws'[i]?) (st2 ++ [(true, .ins (G.A j) [])]) noX fun v s => v = .non ∧ ∃ fs b, s[st2.length]? = some (b, .ins (G.A j) fs) ∧ Q (.obj (G.A j) fs) (s.set st2.length (false, .ins (G.A j) fs))
  | .lenO j i a, env, st, X, Q => wpE a env st X fun x st1 => (∃ fs, x = .obj (G.A j) fs) ∧ C i [x] st1 noX fun w s => ∃ k : Int, w = .int k ∧ 0 ≤ k ∧ k < 2 ^ 63 ∧ Q (.int k) s
  | .eqO neg j i a b, env, st, X, Q => wpE a env st X fun x st1 => wpE b env st1 X fun y st2 => (∃ fs, x = .obj (G.A j) fs) ∧ rightW G st2 y ∧
      C i [x, y] st2 noX fun w s => ∃ k, w = .bl k ∧ Q (.bl (if neg then !k else k)) s
  | .addO j i a b, env, st, X, Q => wpE a env st X fun x st1 => wpE b env st1 X fun y st2 => (∃ fs, x = .obj (G.A j) fs) ∧ (∃ fs, y = .obj (G.A j) fs) ∧ C i [x, y] st2 noX Q
  | .addN j i a b, env, st, X, Q => wpE a env st X fun x st1 => wpE b env st1 X fun y st2 => (∃ fs, x = .obj (G.A j) fs) ∧ rightN G st2 y ∧ C i [x, y] st2 X Q
  | .isO a j, env, st, X, Q => wpE a env st X fun x st1 => (plainW st1 x ∧ Q (.bl false) st1) ∨ ∃ i fs, x = .obj (G.A i) fs ∧ i < G.n ∧ Q (.bl (G.s i j)) st1
  | .excv j, _, st, _, Q => j < G.ne ∧ Q (.exc (G.e j)) st
  | .isC a cs, env, st, X, Q => wpE a env st X fun x st1 => ∃ f, isOf G st1 x f ∧ Q (.bl (cs.any f)) st1
  | .gdxS t e, env, st, X, Q => wpE e env st X fun x st1 => ∃ k i, x = .str k ∧ (G.ts t).lookup k = some i ∧ Q (.str i) st1
  | .dctS m l, _, st, _, Q => newD m (l.foldl (fun acc p => put acc (Sum.inr p.1 : Key) (W.str p.2)) []) st Q
  | .gcd2 a b, env, st, X, Q => wpE a env st X fun x st1 => wpE b env st1 X fun y st2 => ∃ i j, x = .int i ∧ y = .int j ∧ Q (.int ((Nat.gcd i.natAbs j.natAbs : Nat) : Int)) st2
  | .rvL m a, env, st, X, Q => wpE a env st X fun x st1 => ∃ l, ls st1 x = some l ∧ newL m l.reverse st1 Q
  | .lc2 m own t it cs t1 it1 cs1 e, env, st, X, Q => wpE it env st X fun w st1 => walkP w st1 fun items grd st2 => items.length ≤ sizeLine ∧
      lc2P (fun x s K => tgP t x (wipeE env (own.map (·.2))) fun env1 => wpE cs env1 s noX fun cw s1 =>
        (cw = .tup [] ∧ K (some env1) s1) ∨ ∃ x b, cw = .tup [x] ∧ truth s1 x = some b ∧ ((b = true → K (some env1) s1) ∧ (b = false → K none s1)))
        (fun env1 s K => wpE it1 env1 s noX fun w s1 => walkP w s1 fun items grd s2 => K items grd s2)
        (fun env1 x s K => tgP t1 x (wipeE env1 t1.slots) fun env2 => wpE cs1 env2 s noX fun cw s1 =>
        (cw = .tup [] ∧ wpE e env2 s1 noX fun y s2 => K (some y) s2) ∨
        ∃ x b, cw = .tup [x] ∧ truth s1 x = some b ∧ ((b = true → wpE e env2 s1 noX fun y s2 => K (some y) s2) ∧ (b = false → K none s1))) grd items [] st2 fun ws st3 => newL m ws st3 Q
  | .inO j i a b, env, st, X, Q => wpE a env st X fun x st1 => wpE b env st1 X fun y st2 => ∃ fs fz, x = .obj (G.A j) fs ∧ y = .lst [.obj (G.A j) fz] ∧ j < G.n ∧ (SameF fz fs → Q (.bl true) st2) ∧
      C i [.obj (G.A j) fz, .obj (G.A j) fs] st2 noX fun w s => ∃ k, w = .bl k ∧ Q (.bl k) s
  | .rgv a, env, st, X, Q => wpE a env st X fun x st1 => ∃ j : Int, x = .int j ∧ 0 ≤ j ∧ j < 2 ^ 62 ∧ Q (.rng 0 j.toNat) st1
  | .wrg a, env, st, X, Q => wpE a env st X fun w st1 => ∃ lo n, w = .rng lo n ∧ -(2 ^ 62) ≤ lo ∧ lo + (n : Nat) < 2 ^ 62 ∧ Q (.lst ((List.range n).map fun k => W.int (lo + (k : Nat)))) st1
  | .lset a, env, st, X, Q => wpE a env st X fun x st1 => ∃ l ns, x = .tup l ∧ intsOf l = some ns ∧ ns.length ≤ 1000 ∧ ∀ out : List Int, out.Nodup → (∀ k, k ∈ out ↔ k ∈ ns) → Q (.int out.length) st1
  | .dctI m l, _, st, _, Q => newD m (l.foldl (fun acc p => put acc (Sum.inr p.1 : Key) (W.int p.2)) []) st Q
  | .gdx t e, env, st, X, Q => wpE e env st X fun x st1 => ∃ k i, x = .str k ∧ (G.t t).lookup k = some i ∧ Q (.int i) st1
  | .rvs a, env, st, X, Q => wpE a env st X fun x st1 => ∃ l, x = .tup l ∧ Q (.tup (l.drop 1).reverse) st1
  | .nil, _, st, _, Q => Q (.tup []) st
  | .cons a r, env, st, X, Q => wpE a env st X fun x st1 => wpE r env st1 X fun w st2 => ∃ ws, w = .tup ws ∧ Q (.tup (x :: ws)) st2
end

/-! ### statements -/
inductive Sm where
  | nil | cons (a r : Sm) | pas
  | ex (e : Ex) | set (i : Nat) (e : Ex) | unp (is : List Nat) (e : Ex) | par (i j : Nat) (a b : Ex)
  | put (o i e : Ex) | dput (o i e : Ex) | sfld (j : Nat) (o : Ex) (f : Str) (e : Ex) | put2 (o i p j a b : Ex)
  | ret (e : Ex) | retN | ife (c : Ex) (a b : Sm) | whl (c : Ex) (b : Sm) | frc (t : Tg) (it : Ex) (b : Sm) | frd (t : Tg) (it : Ex) (b : Sm)
  | brk | cnt | rse (c : Nat) | nev | aug (i : Nat) (op : Bo) (e : Ex) | tri (b h : Sm) | hnd (j k : Nat) (cs : List Nat) (s r : Sm)
  | triC (b : Sm) (j k : Nat) (cs : List Nat) (i t : Nat) | augO (i j k : Nat) (e : Ex) | ifd (i : Nat) (a b : Sm)
def augI : Bo → Int → Int → Option Int
  | .add, i, j => some (i + j)
  | .sub, i, j => some (i - j)
  | _, _, _ => none
structure En where
  nx : Env' → Sto → Prop
  rt : Po
  bk : Env' → Sto → Prop
  ct : Env' → Sto → Prop
  ex : Exn → Env' → Sto → Prop
def forP (f : W → Env' → Sto → En → Prop) (g : Sto → Prop) : List W → Env' → Sto → En → Prop
  | [], env, st, D => g st ∧ D.nx env st
  | w :: r, env, st, D => g st ∧ f w env st { D with nx := fun e s => forP f g r e s D, ct := fun e s => forP f g r e s D, bk := D.nx }
def whlP (c : Env' → Sto → (Bool → Sto → Prop) → Prop) (f : Env' → Sto → En → Prop) : Nat → Env' → Sto → En → Prop
  | 0, _, _, _ => False
  | n + 1, env, st, D => c env st fun b st1 => (b = true → f env st1 { D with nx := fun e s => whlP c f n e s D, ct := fun e s => whlP c f n e s D, bk := D.nx }) ∧ (b = false → D.nx env st1)
def setP (x y v : W) (st : Sto) (Q : Sto → Prop) : Prop :=
  ∃ n l i j, x = .ref n ∧ st[n]? = some (true, .lst l) ∧ y = .int i ∧ ixN l.length i = some j ∧ Q (st.set n (true, .lst (l.set j v)))
def fsetP (C : Addr) (x v : W) (f : Str) (st : Sto) (Q : Sto → Prop) : Prop :=
  ∃ n fs, x = .ref n ∧ st[n]? = some (true, .ins C fs) ∧ fs.length < 1000 ∧ Q (st.set n (true, .ins C (putW f v fs)))
def dsetP (x y v : W) (st : Sto) (Q : Sto → Prop) : Prop :=
  ∃ n l k, x = .ref n ∧ st[n]? = some (true, .dct l) ∧ keyOf y = some k ∧ l.length < sizeLine ∧ Q (st.set n (true, .dct (Zk.put l k v)))
section
variable (G : Gx) (C : Calls)
mutual
def wpS : Sm → Env' → Sto → En → Prop
  | .nil, env, st, D => D.nx env st
  | .cons a r, env, st, D => wpS a env st { D with nx := fun e s => wpS r e s D }
  | .pas, env, st, D => D.nx env st
  | .ex e, env, st, D => wpE G C e env st (fun x s => D.ex x env s) fun _ s => D.nx env s
  | .set i e, env, st, D => wpE G C e env st (fun x s => D.ex x env s) fun w s => D.nx (env.set i (some w)) s
  | .unp is e, env, st, D => wpE G C e env st (fun x s => D.ex x env s) fun w s => ∃ ws, w = .tup ws ∧ ws.length = is.length ∧ D.nx (setAll env is ws) s
  | .par i j a b, env, st, D => wpE G C (.cons a (.cons b .nil)) env st (fun x s => D.ex x env s) fun t s => ∃ w u, t = .tup [w, u] ∧ D.nx ((env.set i (some w)).set j (some u)) s
  | .put o i e, env, st, D => wpE G C e env st (fun x s => D.ex x env s) fun v s => wpE G C o env s (fun x s => D.ex x env s) fun x s1 => wpE G C i env s1 (fun x s => D.ex x env s) fun y s2 => setP x y v s2 fun s3 => D.nx env s3
  | .dput o i e, env, st, D => wpE G C e env st (fun x s => D.ex x env s) fun v s => wpE G C o env s (fun x s => D.ex x env s) fun x s1 => wpE G C i env s1 (fun x s => D.ex x env s) fun y s2 => dsetP x y v s2 fun s3 => D.nx env s3
  | .sfld j o f e, env, st, D => wpE G C e env st (fun x s => D.ex x env s) fun v s => wpE G C o env s (fun x s => D.ex x env s) fun x s1 => fsetP (G.A j) x v f s1 fun s2 => D.nx env s2
  | .put2 o i p j a b, env, st, D => wpE G C (.cons a (.cons b .nil)) env st (fun x s => D.ex x env s) fun t s0 => ∃ v u, t = .tup [v, u] ∧
      wpE G C o env s0 (fun x s => D.ex x env s) fun x s1 => wpE G C i env s1 (fun x s => D.ex x env s) fun y s2 => setP x y v s2 fun s3 =>
      wpE G C p env s3 (fun x s => D.ex x env s) fun x s1 => wpE G C j env s1 (fun x s => D.ex x env s) fun y s2 => setP x y u s2 fun s3 => D.nx env s3
  | .ret e, env, st, D => wpE G C e env st (fun x s => D.ex x env s) D.rt
  | .retN, _, st, D => D.rt .non st
  | .ife c a b, env, st, D => wpE G C c env st (fun x s => D.ex x env s) fun w s => ∃ k, truth s w = some k ∧ ((k = true → wpS a env s D) ∧ (k = false → wpS b env s D))
  | .ifd i a b, env, st, D => ∃ l, env[i]? = some (some (.dct l)) ∧ (l ≠ [] → wpS a env st D) ∧ (l = [] → wpS b env st D)
  | .whl c b, env, st, D => ∃ n, whlP (fun e s K => wpE G C c e s (fun x s => D.ex x e s) fun w s1 => ∃ k, truth s1 w = some k ∧ K k s1) (fun e s D' => wpS b e s D') n env st D
  | .frc t it b, env, st, D => wpE G C it env st (fun x s => D.ex x env s) fun w s => walkP w s fun items grd s1 => items.length < 2 ^ 62 ∧
      forP (fun x e s D' => tgP t x e fun e1 => wpS b e1 s D') grd items env s1 D
  | .frd t it b, env, st, D => ∃ d q, it = .its q ∧ wpE G C q env st (fun x s => D.ex x env s) (fun w s => w = d ∧ ∃ l, dc s w = some l ∧
      forP (fun x e s D' => tgP t x e fun e1 => wpS b e1 s D') gT (l.map fun p => .tup [ofKey p.1, p.2]) env s D)
  | .brk, env, st, D => D.bk env st
  | .cnt, env, st, D => D.ct env st
  | .rse c, env, st, D => D.ex (c, none) env st
  | .nev, _, _, _ => False
  | .tri b h, env, st, D => wpS b env st { D with ex := fun x e s => wpH h x e s D }
  | .hnd .., _, _, _ => False
  | .triC b j k cs i t, env, st, D => wpS b env st { D with ex := fun x e s => x.1 < k ∧ (x.1 ∈ cs → x.2 = none ∧ x.1 < G.ne ∧ i < e.length ∧ D.nx ((e.set t (some (.exc (G.e x.1)))).set i none) s) ∧ (x.1 ∉ cs → D.ex x e s) }
  | .augO i j k e, env, st, D => ∃ x, env[i]? = some (some x) ∧ (∃ fs, x = .obj (G.A j) fs) ∧ wpE G C e env st (fun x s => D.ex x env s) fun y s => (∃ fs, y = .obj (G.A j) fs) ∧ C k [x, y] s noX fun w s => D.nx (env.set i (some w)) s
  | .aug i op e, env, st, D => ∃ x, env[i]? = some (some (.int x)) ∧ wpE G C e env st (fun x s => D.ex x env s) fun w s => ∃ y z, w = .int y ∧ augI op x y = some z ∧ D.nx (env.set i (some (.int z))) s
/-- the clauses behind a try, one after the other -/
def wpH : Sm → Exn → Env' → Sto → En → Prop
  | .hnd j k cs s r, x, env, st, D => x.1 < k ∧ (x.1 ∈ cs → wpS s env st { D with ex := fun _ _ _ => False }) ∧ (x.1 ∉ cs → wpH r x env st D)
  | _, x, env, st, D => D.ex x env st
end
end
end Zk

namespace Zk
open PySem PySem.Spec PyProof.Rows L2
def noAddAt (K : PySem.W.Frag) (c : Value) : Bool := (match PySem.W.findIn K c "__add__" with | some none => true | _ => false) && (match PySem.W.findIn K c "__radd__" with | some none => true | _ => false)
def noAdd (K : PySem.W.Frag) (a : Addr) : Bool := match PySem.W.clsIn K a with
  | some cd => cd.mro.all (noAddAt K)
  | none => false
def noIadd (K : PySem.W.Frag) (a : Addr) : Bool := match PySem.W.clsIn K a with
  | some cd => cd.mro.all (fun c => match PySem.W.findIn K c "__iadd__" with | some none => true | _ => false)
  | none => false
/-- a way of calling by keywords: the def's place, how many stand ahead, the keywords' names, where each further parameter's value stands among them -/
structure Kw where
  f : Nat
  n : Nat
  ks : List Str
  perm : List Nat
/-- a class: its name, its plain fields, its properties and methods with the places of their defs -/
structure Ci where
  nm : Str
  flds : List Str
  prps : List (Str × Nat)
  mets : List (Str × Nat)
def supB (sup : List (List Nat)) (i j : Nat) : Bool := decide (i ∈ (sup[j]?).getD [])
def bltNames : List Str := ["len", "int", "str", "abs", "max", "min", "sum", "all", "any", "sorted", "list", "tuple", "repr", "range", "isinstance", "bool", "type", "set", "dict", "zip", "enumerate"]
/-- the types of plain values -/
def plainTys : List String := ["NoneType", "bool", "int", "str", "tuple", "list", "dict"]
structure Df where
  nm : Str
  N : List Str
  np : Nat
  st : Stmt
  b : Sm
  cl : Option (Str × Bool) := none
/-- as a name of the top: nothing for a method -/
def Df.gnm (d : Df) : Str := match d.cl with
  | none => d.nm
  | some _ => Str.empty
def Df.qual (d : Df) : Str := match d.cl with
  | none => d.nm
  | some c => c.1 ++ ("." : Str) ++ d.nm
def Df.ps (d : Df) : List Str := d.N.take d.np
/-- what a law's text is made of: defs, ways of calling by keywords, errors and what catches them, classes and which is one of which, tables, tuples of texts -/
inductive Gv where | int (i : Int) | str (x : Str)
def Gv.w : Gv → W
  | .int i => .int i
  | .str x => .str x
def Gv.v : Gv → V
  | .int i => .int i
  | .str x => .str x
def Gv.dv : Gv → He.Dv
  | .int i => .int i
  | .str x => .str x
structure Cfg where
  ds : List Df
  kws : List Kw
  exs : List Str
  em : List (List Nat)
  cis : List Ci
  sup : List (List Nat)
  tas : List (Str × List (Str × Int))
  gts : List (Str × List Gv)
  tss : List (Str × List (Str × Str)) := []
  gcd : Bool := false
  kit : Bool := false
def getA (K : PySem.W.Frag) (p : Addr) : Addr := match PySem.W.recIn K p "property" with
  | some (.ref g :: _) => g
  | _ => 0
/-- where a def stands -/
def atOf (K : PySem.W.Frag) (d : Df) : Addr := match d.cl with
  | none => He.ga K d.nm
  | some (c, false) => He.ma K (He.ga K c) d.nm
  | some (c, true) => getA K (He.ma K (He.ga K c) d.nm)
def seenZ (K : PySem.W.Frag) (a : Addr) : He.FnW := match K.lookup a with
  | some ⟨_, _, .func r, _⟩ => some (r.name, r.qualname, r.params, r.body, r.scope, r.globals, r.closure, r.builtins)
  | _ => none
def wantZ (d : Df) : He.FnW := some (d.nm, d.qual, defArgs d.st, .stmts (defBody d.st), defScope d.st, mainGlobals, [], builtinsNs)
def okZ (K : PySem.W.Frag) (d : Df) : Bool := PySem.W.keepIn K (.ref (atOf K d)) && match K.lookup (atOf K d) with
  | some ⟨_, _, .func r, _⟩ => PySem.W.codeIn K r.code d.qual && (He.dflB K r.defaults [] && He.kwdB K r.kwdefaults [])
  | _ => false
def propZ (K : PySem.W.Frag) (C : Addr) (f : Str) (g : Addr) : Bool := decide (PySem.W.findIn K (.ref C) f = some (some (.ref (He.ma K C f)))) && (decide (PySem.W.specialIn K (.ref (He.ma K C f)) "__get__" = some (some (.builtin "property.__get__"))) &&
  (decide (PySem.W.takesIn K (.ref (He.ma K C f)) = some true) && match PySem.W.recIn K (He.ma K C f) "property" with
    | some (.ref h :: _) => decide (h = g)
    | _ => false))
def clZ (c : Cfg) (K : PySem.W.Frag) (j : Nat) (ci : Ci) : Bool :=
  PySem.W.keepIn K (.ref (He.ga K ci.nm)) && (PySem.W.makesIn K (He.ga K ci.nm) && (PySem.W.selfFirst K (He.ga K ci.nm) && (
  ci.prps.all (fun p => match c.ds[p.2]? with | some d => propZ K (He.ga K ci.nm) p.1 (atOf K d) | none => true) && (
  ci.mets.all (fun p => match c.ds[p.2]? with | some d => decide (PySem.W.findIn K (.ref (He.ga K ci.nm)) p.1 = some (some (.ref (atOf K d)))) && PySem.W.isFn K (.ref (atOf K d)) | none => true) && (
  plainTys.all (fun t => PySem.W.notFirst K (He.ga K ci.nm) (.type t) && (decide (PySem.W.kitOne K (.type t) (.ref (He.ga K ci.nm)) = some false) && decide (PySem.W.kitOne K (.ref (He.ga K ci.nm)) (.type t) = some false))) && (
  (List.range c.cis.length).all (fun i => match c.cis[i]? with | some r => PySem.W.notFirst K (He.ga K ci.nm) (.ref (He.ga K r.nm)) && decide (PySem.W.kitOne K (.ref (He.ga K r.nm)) (.ref (He.ga K ci.nm)) = some (supB c.sup i j)) | none => true) && (
  (decide (PySem.W.findIn K (.ref (He.ga K ci.nm)) "__class__" = some (some (.builtin "object.__class__"))) && (decide (PySem.W.specialIn K (.builtin "object.__class__") "__get__" = some (some (.builtin "getset_descriptor.__get__"))) && (
    decide (PySem.W.takesIn K (.builtin "object.__class__") = some true) && decide (PySem.W.mroIn K (He.ga K ci.nm) (.type "object") = some true)))) &&
  (decide (PySem.W.findIn K (.ref (He.ga K ci.nm)) "__ne__" = some (some (.builtin "object.__ne__"))) && (decide (PySem.W.findIn K (.ref (He.ga K ci.nm)) "__radd__" = some none) && noIadd K (He.ga K ci.nm))))))))))
def excZ (c : Cfg) (K : PySem.W.Frag) (i : Nat) (x : Str) : Bool :=
  decide (PySem.W.findIn K (.ref (He.ga K x)) "__getattribute__" = some (some (.builtin "BaseException.__getattribute__"))) && (decide (PySem.W.findIn K (.ref (He.ga K x)) "__getattr__" = some none) && (PySem.W.hasDictIn K (He.ga K x) && (
  decide (PySem.W.findIn K (.ref (He.ga K x)) "__class__" = some (some (.builtin "object.__class__"))) && (decide (PySem.W.specialIn K (.builtin "object.__class__") "__get__" = some (some (.builtin "getset_descriptor.__get__"))) && (
  decide (PySem.W.takesIn K (.builtin "object.__class__") = some true) && (decide (PySem.W.mroIn K (He.ga K x) (.type "object") = some true) && (
  noAdd K (He.ga K x) && (plainTys.all (fun t => decide (PySem.W.kitOne K (.ref (He.ga K x)) (.type t) = some false) && decide (PySem.W.kitOne K (.type t) (.ref (He.ga K x)) = some false)) && (
  (List.range c.cis.length).all (fun j => match c.cis[j]? with | some q => decide (PySem.W.kitOne K (.ref (He.ga K x)) (.ref (He.ga K q.nm)) = some false) && (decide (PySem.W.kitOne K (.ref (He.ga K q.nm)) (.ref (He.ga K x)) = some false) && PySem.W.notFirst K (He.ga K q.nm) (.ref (He.ga K x))) | none => true) &&
  (List.range c.exs.length).all (fun j => match c.exs[j]?, c.em[j]? with | some y, some cs => decide (PySem.W.kitOne K (.ref (He.ga K x)) (.ref (He.ga K y)) = some (decide (i ∈ cs))) | _, _ => true))))))))))
def exmF (exs : List Str) (em : List (List Nat)) : List He.Fa := (List.range exs.length).flatMap fun i => (List.range exs.length).filterMap fun j => match exs[i]?, exs[j]?, em[j]? with
  | some x, some y, some cs => some (.exm x y (decide (i ∈ cs)))
  | _, _, _ => none
def topsOf (c : Cfg) : List Str := (c.ds.filter fun d => d.cl.isNone).map (·.nm)
def faOf (c : Cfg) : List He.Fa := (topsOf c).map He.Fa.glo ++ (bltNames.map He.Fa.free ++ (c.exs.map He.Fa.glo ++ (c.exs.map He.Fa.exc ++ (exmF c.exs c.em ++ (c.cis.map (fun q => He.Fa.glo q.nm) ++ (c.cis.map (fun q => He.Fa.cls q.nm) ++
  (c.cis.flatMap (fun q => q.flds.map fun f => He.Fa.noat q.nm f) ++ (c.tas.map (fun t => He.Fa.glo t.1) ++ (c.gts.map (fun t => He.Fa.glo t.1) ++ c.tss.map fun t => He.Fa.glo t.1)))))))))
def factsZ (c : Cfg) (K : PySem.W.Frag) : Bool := (faOf c).all (fun f => f.ok K) && (c.ds.all (okZ K) && ((List.range c.cis.length).all (fun j => match c.cis[j]? with | some q => clZ c K j q | none => true) && (
  c.tas.all (fun t => He.valsB K (He.ga K t.1) (t.2.map fun p => (p.1, He.Dv.int p.2))) && (c.gts.all (fun t => He.tupB K t.1 (t.2.map Gv.dv)) && (c.tss.all (fun t => He.valsB K (He.ga K t.1) (t.2.map fun p => (p.1, He.Dv.str p.2))) && ((!c.kit || (List.range c.exs.length).all (fun i => match c.exs[i]? with | some x => excZ c K i x | none => true)) &&
  (!c.gcd || He.eqO (PySem.W.nsIn K mainGlobals "gcd") (some (some (.builtin "math.gcd"))))))))))
abbrev AlZ : Type := Bool × List He.FnW × List (Option (List (Option (Str × Int)))) × List (Option (List (Option (Str × Int))))
def obsK (c : Cfg) (K : PySem.W.Frag) : AlZ := (factsZ c K, c.ds.map (fun d => seenZ K (atOf K d)), c.tas.map (fun t => He.dicW K (He.ga K t.1)), c.tss.map fun t => He.dicW K (He.ga K t.1))
def valK (c : Cfg) (w : World) : AlZ := (true, c.ds.map wantZ, c.tas.map (fun t => some (He.keysIn w.params (t.2.map (·.1)))), c.tss.map fun t => some (He.keysIn w.params (t.2.map (·.1))))
def SaysK (c : Cfg) (w : World) (K : PySem.W.Frag) : Prop := obsK c K = valK c w
def obsG (c : Cfg) (n : Nat) (g : Addr → Option Obj) : AlZ := obsK c (He.frG g (He.asD g n))
def hookK (c : Cfg) (n : Nat) : PySem.W.Hook where
  α := AlZ
  obs := fun s => obsG c n s.heap.get?
  val := fun w => valK c w
  says := fun w h => ∃ K : PySem.W.Frag, K.In h ∧ SaysK c w K
  of := fun _ _ e => ⟨_, He.frG_in, e⟩
  keeps := fun _ _ _ z k => z.elim fun K y => ⟨K, y.1.keeps k, y.2⟩
theorem obsG_eq {c : Cfg} {n : Nat} {g : Addr → Option Obj} {s : Shared} (h : ∀ a, g a = s.heap.get? a) : obsG c n g = (hookK c n).obs s := by
  have e : g = s.heap.get? := funext h
  rw [e] <;> rfl
end Zk
namespace Zk
open PySem PySem.Spec PyProof.Rows L2
/-! ### what the head's run is asked, in parts -/
abbrev kfG (n : Nat) (s : PySem.W.SharedT) : PySem.W.Frag := He.frG (HandSHeadRun.getT s) (He.asD (HandSHeadRun.getT s) n)
noncomputable abbrev whole (r : PySem.W.OpenRow) (M : Nat) (w : World) : Option (Shared × PySem.W.SharedT) := HandSHeadRun.wholeF (fun p => HandSHeadRun.stepQ (HandSHeadRun.denQ HandSHeadRun.tabQ) p w) HandSHeadRun.fenceQ M r.prog
def facts1 (c : Cfg) (K : PySem.W.Frag) : Bool := (faOf c).all (fun f => f.ok K)
def facts2 (c : Cfg) (K : PySem.W.Frag) : Bool := c.ds.all (okZ K)
def facts3 (c : Cfg) (K : PySem.W.Frag) : Bool := ((List.range c.cis.length).all (fun j => match c.cis[j]? with | some q => clZ c K j q | none => true) && (
  c.tas.all (fun t => He.valsB K (He.ga K t.1) (t.2.map fun p => (p.1, He.Dv.int p.2))) && (c.gts.all (fun t => He.tupB K t.1 (t.2.map Gv.dv)) && (c.tss.all (fun t => He.valsB K (He.ga K t.1) (t.2.map fun p => (p.1, He.Dv.str p.2))) && ((!c.kit || (List.range c.exs.length).all (fun i => match c.exs[i]? with | some x => excZ c K i x | none => true)) &&
  (!c.gcd || He.eqO (PySem.W.nsIn K mainGlobals "gcd") (some (some (.builtin "math.gcd")))))))))
theorem facts_of {c : Cfg} {K : PySem.W.Frag} : factsZ c K = (facts1 c K && (facts2 c K && facts3 c K)) := rfl
def RunA (r : PySem.W.OpenRow) (q : Program) (M : Nat) (loose : List Str) (w : World) : Prop := (whole r M w).map (fun x => (HandSHeadRun.looksF r.prog x.1.heap x.2.abs, HandSHeadRun.seenQ q loose (PySem.importedModules r.prog.main.body) (fun s => PySem.W.xlAt q [] s && PySem.W.recOk r.toRowW.records s) x.2.abs)) = some (true, PySem.W.openGood q loose)
def RunB1 (c : Cfg) (n : Nat) (r : PySem.W.OpenRow) (M : Nat) (w : World) : Prop := (whole r M w).map (fun x => facts1 c (kfG n x.2)) = some true
def RunG1 (c : Cfg) (n : Nat) (h : Nat) (r : PySem.W.OpenRow) (M : Nat) (w : World) : Prop := (whole r M w).map (fun x => (c.ds.take h).all (okZ (kfG n x.2))) = some true
def RunG2 (c : Cfg) (n : Nat) (h : Nat) (r : PySem.W.OpenRow) (M : Nat) (w : World) : Prop := (whole r M w).map (fun x => ((c.ds.drop h).all (okZ (kfG n x.2)), facts3 c (kfG n x.2))) = some (true, true)
theorem all_half {α : Type} {p : α → Bool} {h : Nat} {l : List α} (a : (l.take h).all p = true) (b : (l.drop h).all p = true) : l.all p = true := by
  rw [← List.take_append_drop h l, List.all_append, a, b]; rfl
def RunC (c : Cfg) (n : Nat) (r : PySem.W.OpenRow) (M : Nat) (w : World) : Prop := (whole r M w).map (fun x => (c.ds.map (fun d => seenZ (kfG n x.2) (atOf (kfG n x.2) d)), c.tas.map (fun t => He.dicW (kfG n x.2) (He.ga (kfG n x.2) t.1)), c.tss.map fun t => He.dicW (kfG n x.2) (He.ga (kfG n x.2) t.1))) = some (c.ds.map wantZ, c.tas.map (fun t => some (He.keysIn w.params (t.2.map (·.1)))), c.tss.map fun t => some (He.keysIn w.params (t.2.map (·.1))))
theorem run_parts {c : Cfg} {n : Nat} {r : PySem.W.OpenRow} {q : Program} {M : Nat} {loose : List Str} {w : World} (a : RunA r q M loose w) {h2 : Nat} (b1 : RunB1 c n r M w) (q1 : RunG1 c n h2 r M w) (q2 : RunG2 c n h2 r M w) (d : RunC c n r M w) : HandSHeadRun.RunEqI r q (hookK c n) (fun s => obsG c n (HandSHeadRun.getT s)) M loose w := by
  unfold RunA at a
  unfold RunB1 at b1
  unfold RunG1 at q1
  unfold RunG2 at q2
  unfold RunC at d
  unfold HandSHeadRun.RunEqI
  cases e : whole r M w with
  | none => rw [e] at a; cases a
  | some x =>
    rw [e] at a b1 q1 q2 d
    show Option.map _ (whole r M w) = _
    rw [e]
    simp only [Option.map_some, Option.some.injEq, Prod.mk.injEq] at a b1 q1 q2 d
    have b2 : facts2 c (kfG n x.2) = true := all_half q1 q2.1
    have h : obsG c n (HandSHeadRun.getT x.2) = valK c w := by
      show obsK c (kfG n x.2) = valK c w
      unfold obsK valK
      rw [facts_of, b1, b2, q2.2, d.1, d.2.1, d.2.2]
      rfl
    show some (_, _, obsG c n (HandSHeadRun.getT x.2)) = some (true, PySem.W.openGood q loose, valK c w)
    rw [h, a.1, a.2]
end Zk

namespace K13
open PySem PySem.Spec PyProof.Rows L2 Zk
def top (i : Nat) : Stmt := PySem.Challenge.pw_planetlocks_k13_boxes_side_by_side.main.body.getD i (.Pass ⟨0, 0, 0, 0⟩)
def inC (i k : Nat) : Stmt := match top i with
  | .ClassDef _ _ _ b _ _ _ _ _ _ _ => b.getD k (.Pass ⟨0, 0, 0, 0⟩)
  | s => s
/-- is_integer: 0 value -/
def b_is_integer : Sm :=
      (.cons (.ret (.tyI false (.var 0) .int))
      .nil)
def d_is_integer : Df := ⟨"is_integer", ["value"], 1, top 8, b_is_integer, none⟩
/-- is_between: 0 value, 1 least, 2 greatest -/
def b_is_between : Sm :=
      (.cons (.ret (.an (.cal 0 (.cons (.var 0) .nil)) (.cm2 .le .le (.var 1) (.var 0) (.var 2))))
      .nil)
def d_is_between : Df := ⟨"is_between", ["value", "least", "greatest"], 3, top 9, b_is_between, none⟩
/-- is_one_work: 0 shafts, 1 value -/
def b_is_one_work : Sm :=
      (.cons (.ife (.or (.tyI true (.var 1) .tuple) (.or (.cmp .lt (.bi .len false (.cons (.var 1) .nil)) (.int 3)) (.tyI true (.ix (.var 1) (.int 0)) .str))) (.cons (.ret (.bl false))
      .nil) .nil)
      (.cons (.ife (.cmp .inS (.ix (.var 1) (.int 0)) (.glb 0)) (.cons (.ret (.an (.cmp .eq (.bi .len false (.cons (.var 1) .nil)) (.int 4)) (.cal 3 (.cons (.sl false (.var 1) (.int 1) .no) (.cons (.int 0) (.cons (.var 0) .nil))))))
      .nil) .nil)
      (.cons (.ret (.an (.cmp .inS (.ix (.var 1) (.int 0)) (.glb 1)) (.an (.cmp .eq (.bi .len false (.cons (.var 1) .nil)) (.int 3)) (.cal 3 (.cons (.sl false (.var 1) (.int 1) .no) (.cons (.int 1) (.cons (.var 0) .nil)))))))
      .nil)))
def d_is_one_work : Df := ⟨"is_one_work", ["shafts", "value"], 2, top 10, b_is_one_work, none⟩
/-- _are_unlike: 0 parts, 1 least, 2 greatest, 3 part -/
def b_are_unlike : Sm :=
      (.cons (.ret (.an (.bi .all false (.cons (.lc false [("part", 3)] (.one 3) (.var 0) .nil (.cal 1 (.cons (.var 3) (.cons (.var 1) (.cons (.var 2) .nil))))) .nil)) (.cmp .eq (.lset (.var 0)) (.bi .len false (.cons (.var 0) .nil)))))
      .nil)
def d_are_unlike : Df := ⟨"_are_unlike", ["parts", "least", "greatest", "part"], 3, top 11, b_are_unlike, none⟩
/-- are_works: 0 shafts, 1 value, 2 part -/
def b_are_works : Sm :=
      (.cons (.ret (.an (.tyI false (.var 1) .list) (.bi .all false (.cons (.lc false [("part", 2)] (.one 2) (.var 1) .nil (.cal 2 (.cons (.var 0) (.cons (.var 2) .nil)))) .nil))))
      .nil)
def d_are_works : Df := ⟨"are_works", ["shafts", "value", "part"], 2, top 12, b_are_works, none⟩
/-- need_shafts: 0 shafts -/
def b_need_shafts : Sm :=
      (.cons (.ife (.or (.nt (.cal 0 (.cons (.var 0) .nil))) (.cmp .lt (.var 0) (.int 1))) (.cons (.rse 1)
      .nil) .nil)
      .nil)
def d_need_shafts : Df := ⟨"need_shafts", ["shafts"], 1, top 14, b_need_shafts, none⟩
/-- _raised: 0 work, 1 by, 2 shaft -/
def b_raised : Sm :=
      (.cons (.ret (.bin .add false (.sl false (.var 0) .no (.int 1)) (.bi .tup false (.cons (.lc false [("shaft", 2)] (.one 2) (.sl false (.var 0) (.int 1) .no) .nil (.ite (.cmp .gt (.var 2) (.int 0)) (.bin .add false (.var 2) (.var 1)) (.int 0))) .nil))))
      .nil)
def d_raised : Df := ⟨"_raised", ["work", "by", "shaft"], 2, top 17, b_raised, none⟩
/-- _law_fill: 0 cell -/
def b_law_fill : Sm :=
      (.cons (.ret (.lst true (.cons (.bi .max2 false (.cons (.int 0) (.cons (.bin .sub false (.var 0) (.bin .pow false (.int 10) (.int 18))) .nil))) (.cons (.int 0) (.cons (.bin .mod false (.bi .int false (.cons (.var 0) .nil)) (.int 1999999973)) .nil)))))
      .nil)
def d_law_fill : Df := ⟨"_law_fill", ["cell"], 1, top 19, b_law_fill, none⟩
/-- _law_take: 0 jar, 1 many, 2 heap, 3 turn, 4 rest, 5 grain -/
def b_law_take : Sm :=
      (.cons (.ife (.cmp .gt (.ix (.var 0) (.int 0)) (.int 1)) (.cons (.set 4 (.ix (.var 0) (.int 0)))
      (.cons (.put (.var 0) (.int 0) (.bin .fdiv false (.var 4) (.var 1)))
      (.cons (.ret (.bin .mod false (.bi .int false (.cons (.var 4) .nil)) (.var 1)))
      .nil))) .nil)
      (.cons (.put (.var 0) (.int 1) (.bin .add false (.ix (.var 0) (.int 1)) (.int 1)))
      (.cons (.set 2 (.int 0))
      (.cons (.frc (.one 3) (.rg1 (.bin .add false (.int 1) (.bin .fdiv false (.bi .len false (.cons (.bi .str false (.cons (.var 1) .nil)) .nil)) (.int 8)))) (.cons (.set 5 (.bin .mod false (.bi .int false (.cons (.bin .mul false (.bin .add false (.bin .add false (.ix (.var 0) (.int 2)) (.bin .mul false (.int 11) (.var 3))) (.int 5)) (.bin .add false (.bin .add false (.ix (.var 0) (.int 1)) (.bin .mul false (.int 70001) (.ix (.var 0) (.int 2)))) (.int 3))) .nil)) (.int 2147483629)))
      (.cons (.set 5 (.bin .mod false (.bi .int false (.cons (.bin .add false (.bin .add false (.bin .mul false (.var 5) (.var 5)) (.bin .mul false (.int 90001) (.ix (.var 0) (.int 1)))) (.var 3)) .nil)) (.int 2147483587)))
      (.cons (.set 5 (.bin .mod false (.bi .int false (.cons (.bin .mul false (.var 5) (.var 5)) .nil)) (.int 2147483563)))
      (.cons (.set 2 (.bin .add false (.bin .mul false (.var 2) (.int 99999989)) (.bin .fdiv false (.var 5) (.int 16))))
      .nil)))))
      (.cons (.ret (.bin .mod false (.bi .int false (.cons (.var 2) .nil)) (.var 1)))
      .nil)))))
def d_law_take : Df := ⟨"_law_take", ["jar", "many", "heap", "turn", "rest", "grain"], 2, top 20, b_law_take, none⟩
/-- _law_mixed: 0 jar, 1 rows, 2 left, 3 made, 4 spot -/
def b_law_mixed : Sm :=
      (.cons (.set 2 (.bi .lst false (.cons (.var 1) .nil)))
      (.cons (.set 3 (.lst true .nil))
      (.cons (.whl (.cmp .ne (.var 2) (.lst false .nil)) (.cons (.set 4 (.cal 8 (.cons (.var 0) (.cons (.bi .len false (.cons (.var 2) .nil)) .nil))))
      (.cons (.ex (.mt .app (.var 3) (.cons (.ix (.var 2) (.var 4)) .nil)))
      (.cons (.set 2 (.bin .add false (.sl false (.var 2) .no (.var 4)) (.sl false (.var 2) (.bin .add false (.var 4) (.int 1)) .no)))
      .nil))))
      (.cons (.ret (.var 3))
      .nil))))
def d_law_mixed : Df := ⟨"_law_mixed", ["jar", "rows", "left", "made", "spot"], 2, top 21, b_law_mixed, none⟩
/-- _law_some_number: 0 jar, 1 tops, 2 much -/
def b_law_some_number : Sm :=
      (.cons (.set 1 (.lst false (.cons (.int 3) (.cons (.int 10) (.cons (.int 1000) (.cons (.bin .pow false (.int 10) (.int 12)) (.cons (.bin .pow false (.int 10) (.int 40)) .nil)))))))
      (.cons (.set 2 (.cal 8 (.cons (.var 0) (.cons (.ix (.var 1) (.cal 8 (.cons (.var 0) (.cons (.int 5) .nil)))) .nil))))
      (.cons (.ife (.cmp .eq (.cal 8 (.cons (.var 0) (.cons (.int 2) .nil))) (.int 1)) (.cons (.ret (.bin .sub false (.int 0) (.var 2)))
      .nil) .nil)
      (.cons (.ret (.var 2))
      .nil))))
def d_law_some_number : Df := ⟨"_law_some_number", ["jar", "tops", "much"], 1, top 22, b_law_some_number, none⟩
/-- _law_string: 0 jar, 1 signs, 2 turn -/
def b_law_string : Sm :=
      (.cons (.set 1 (.str "abcdefghijklmnopqrstuvwxyz 0123456789-:.,;ABCDEFGHIJKLMNOPQRSTUVWXYZ(){}[]!?#$&'*+/<=>@^_~"))
      (.cons (.ret (.mt .join (.str "") (.cons (.lc false [("turn", 2)] (.one 2) (.rg1 (.cal 8 (.cons (.var 0) (.cons (.int 9) .nil)))) .nil (.ix (.var 1) (.cal 8 (.cons (.var 0) (.cons (.bi .len false (.cons (.var 1) .nil)) .nil))))) .nil)))
      .nil))
def d_law_string : Df := ⟨"_law_string", ["jar", "signs", "turn"], 1, top 23, b_law_string, none⟩
/-- _law_odd: 0 jar, 1 depth, 2 sort, 3 parts, 4 nest, 5 turn -/
def b_law_odd : Sm :=
      (.cons (.set 2 (.cal 8 (.cons (.var 0) (.cons (.int 11) .nil))))
      (.cons (.ife (.an (.cmp .gt (.var 1) (.int 0)) (.cmp .lt (.var 2) (.int 3))) (.cons (.set 3 (.lc false [("turn", 5)] (.one 5) (.rg1 (.cal 8 (.cons (.var 0) (.cons (.int 4) .nil)))) .nil (.cal 12 (.cons (.var 0) (.cons (.bin .sub false (.var 1) (.int 1)) .nil)))))
      (.cons (.ife (.cmp .eq (.var 2) (.int 0)) (.cons (.ret (.var 3))
      .nil) .nil)
      (.cons (.ret (.bi .tup false (.cons (.var 3) .nil)))
      .nil))) .nil)
      (.cons (.ife (.cmp .eq (.var 2) (.int 3)) (.cons (.ret .non)
      .nil) .nil)
      (.cons (.ife (.cmp .eq (.var 2) (.int 4)) (.cons (.ret (.cmp .eq (.cal 8 (.cons (.var 0) (.cons (.int 2) .nil))) (.int 1)))
      .nil) .nil)
      (.cons (.ife (.cmp .eq (.var 2) (.int 5)) (.cons (.ret (.ix (.lst false (.cons (.str "planet") (.cons (.str "double") (.cons (.str "pair") (.cons (.str "band") (.cons (.str "3-0") (.cons (.str "1/1") (.cons (.str "box") .nil)))))))) (.cal 8 (.cons (.var 0) (.cons (.int 7) .nil)))))
      .nil) .nil)
      (.cons (.ife (.cmp .eq (.var 2) (.int 6)) (.cons (.ret (.cal 11 (.cons (.var 0) .nil)))
      .nil) .nil)
      (.cons (.ife (.cmp .eq (.var 2) (.int 7)) (.cons (.ret (.excv 3))
      .nil) .nil)
      (.cons (.ife (.cmp .eq (.var 2) (.int 8)) (.cons (.set 4 (.cal 10 (.cons (.var 0) .nil)))
      (.cons (.frc (.one 5) (.rg1 (.cal 8 (.cons (.var 0) (.cons (.int 6) .nil)))) (.cons (.set 4 (.lst false (.cons (.var 4) .nil)))
      .nil))
      (.cons (.ret (.var 4))
      .nil))) .nil)
      (.cons (.ret (.cal 10 (.cons (.var 0) .nil)))
      .nil)))))))))
def d_law_odd : Df := ⟨"_law_odd", ["jar", "depth", "sort", "parts", "nest", "turn"], 2, top 24, b_law_odd, none⟩
/-- _law_same: 0 found, 1 due -/
def b_law_same : Sm :=
      (.cons (.ret (.cmp .eq (.bi .rep false (.cons (.var 0) .nil)) (.bi .rep false (.cons (.var 1) .nil))))
      .nil)
def d_law_same : Df := ⟨"_law_same", ["found", "due"], 2, top 25, b_law_same, none⟩
/-- _law_some_job: 0 jar, 1 span, 2 word, 3 pool, 4 many -/
def b_law_some_job : Sm :=
      (.cons (.set 2 (.ix (.lst false (.cons (.str "planet") (.cons (.str "double") (.cons (.str "pair") (.cons (.str "band") .nil))))) (.cal 8 (.cons (.var 0) (.cons (.int 4) .nil)))))
      (.cons (.set 3 (.lrg2 false (.int 1) (.bin .add false (.var 1) (.int 1))))
      (.cons (.set 4 (.int 2))
      (.cons (.ife (.or (.cmp .eq (.var 2) (.str "planet")) (.cmp .eq (.var 2) (.str "double"))) (.cons (.set 3 (.lrg1 false (.bin .add false (.var 1) (.int 1))))
      (.cons (.set 4 (.int 3))
      .nil)) .nil)
      (.cons (.ret (.bi .tup false (.cons (.bin .add false (.lst false (.cons (.var 2) .nil)) (.sl false (.cal 9 (.cons (.var 0) (.cons (.var 3) .nil))) .no (.var 4))) .nil)))
      .nil)))))
def d_law_some_job : Df := ⟨"_law_some_job", ["jar", "span", "word", "pool", "many"], 2, top 26, b_law_some_job, none⟩
/-- _law_some_jobs: 0 jar, 1 span, 2 many, 3 made, 4 turn -/
def b_law_some_jobs : Sm :=
      (.cons (.ife (.cmp .lt (.var 1) (.int 2)) (.cons (.ret (.lst false .nil))
      .nil) .nil)
      (.cons (.set 3 (.lc true [("turn", 4)] (.one 4) (.rg1 (.var 2)) .nil (.cal 14 (.cons (.var 0) (.cons (.var 1) .nil)))))
      (.cons (.ife (.an (.cmp .gt (.var 2) (.int 1)) (.cmp .eq (.cal 8 (.cons (.var 0) (.cons (.int 5) .nil))) (.int 1))) (.cons (.put (.var 3) (.cal 8 (.cons (.var 0) (.cons (.var 2) .nil))) (.ix (.var 3) (.int 0)))
      .nil) .nil)
      (.cons (.ret (.frz (.var 3)))
      .nil))))
def d_law_some_jobs : Df := ⟨"_law_some_jobs", ["jar", "span", "many", "made", "turn"], 3, top 27, b_law_some_jobs, none⟩
/-- _law_crate_is: 0 crate, 1 span, 2 jobs -/
def b_law_crate_is : Sm :=
      (.cons (.ife (.or (.nt (.isO (.var 0) 0)) (.nt (.cal 13 (.cons (.prp 0 21 (.var 0) "shafts") (.cons (.var 1) .nil))))) (.cons (.ret (.bl false))
      .nil) .nil)
      (.cons (.ret (.an (.cal 13 (.cons (.prp 0 22 (.var 0) "works") (.cons (.bi .tup false (.cons (.var 2) .nil)) .nil))) (.cal 13 (.cons (.lenO 0 23 (.var 0)) (.cons (.bi .len false (.cons (.var 2) .nil)) .nil)))))
      .nil))
def d_law_crate_is : Df := ⟨"_law_crate_is", ["crate", "span", "jobs"], 3, top 28, b_law_crate_is, none⟩
/-- _law_raised_jobs: 0 jobs, 1 far, 2 made, 3 job, 4 axle -/
def b_law_raised_jobs : Sm :=
      (.cons (.set 2 (.lst true .nil))
      (.cons (.frc (.one 3) (.var 0) (.cons (.ex (.mt .app (.var 2) (.cons (.bi .tup false (.cons (.bin .add false (.lst false (.cons (.ix (.var 3) (.int 0)) .nil)) (.lc false [("axle", 4)] (.one 4) (.sl false (.var 3) (.int 1) .no) .nil (.bin .add false (.var 4) (.bin .mul false (.var 1) (.bi .int false (.cons (.cmp .gt (.var 4) (.int 0)) .nil)))))) .nil)) .nil)))
      .nil))
      (.cons (.ret (.frz (.var 2)))
      .nil)))
def d_law_raised_jobs : Df := ⟨"_law_raised_jobs", ["jobs", "far", "made", "job", "axle"], 2, top 29, b_law_raised_jobs, none⟩
/-- _law_refused: 0 crate, 1 thing, 2 name -/
def b_law_refused : Sm :=
      (.cons (.set 2 (.str ""))
      (.cons (.tri (.cons (.ex (.addN 0 25 (.var 0) (.var 1)))
      .nil) (.hnd 2 4 [2] (.cons (.set 2 (.str "box"))
      .nil) (.hnd 0 4 [0, 1, 2, 3] (.cons (.set 2 (.str "other"))
      .nil) .nil)))
      (.cons (.ret (.cmp .eq (.var 2) (.str "box")))
      .nil)))
def d_law_refused : Df := ⟨"_law_refused", ["crate", "thing", "name"], 2, top 30, b_law_refused, none⟩
/-- law: 0 script, 1 great, 2 cell, 3 jar, 4 spans, 5 many, 6 rows, 7 crates, 8 pair, 9 jobs, 10 made, 11 elder, 12 first, 13 k, 14 thing -/
def b_law : Sm :=
      (.cons (.set 1 (.int 79760497732259528792547025166608476952976256369646537778617347516426919208232518724696453601))
      (.cons (.frc (.one 2) (.bin .add false (.lst false (.cons (.var 1) .nil)) (.sl false (.var 0) .no (.int 8))) (.cons (.set 3 (.cal 7 (.cons (.var 2) .nil)))
      (.cons (.set 4 (.lst true (.cons (.bin .add false (.int 1) (.cal 8 (.cons (.var 3) (.cons (.int 3) .nil)))) (.cons (.bin .add false (.int 1) (.cal 8 (.cons (.var 3) (.cons (.int 3) .nil)))) (.cons (.bin .add false (.int 1) (.cal 8 (.cons (.var 3) (.cons (.int 2) .nil)))) .nil)))))
      (.cons (.ife (.cmp .eq (.cal 8 (.cons (.var 3) (.cons (.int 4) .nil))) (.int 1)) (.cons (.put (.var 4) (.int 0) (.int 5))
      (.cons (.put (.var 4) (.int 2) (.int 1))
      (.cons (.put (.var 4) (.int 1) (.bin .add false (.int 1) (.cal 8 (.cons (.var 3) (.cons (.int 2) .nil)))))
      .nil))) .nil)
      (.cons (.set 5 (.ix (.lst false (.cons (.lst false (.cons (.int 2) (.cons (.int 2) (.cons (.int 2) .nil)))) (.cons (.lst false (.cons (.int 0) (.cons (.int 6) (.cons (.int 0) .nil)))) (.cons (.lst false (.cons (.int 6) (.cons (.int 0) (.cons (.int 0) .nil)))) (.cons (.lst false (.cons (.int 1) (.cons (.int 4) (.cons (.int 1) .nil)))) .nil))))) (.cal 8 (.cons (.var 3) (.cons (.int 4) .nil)))))
      (.cons (.set 6 (.lc false [("k", 13)] (.one 13) (.rg1 (.int 3)) .nil (.cal 15 (.cons (.var 3) (.cons (.ix (.var 4) (.var 13)) (.cons (.cal 8 (.cons (.var 3) (.cons (.bin .add false (.ix (.var 5) (.var 13)) (.int 1)) .nil))) .nil))))))
      (.cons (.set 7 (.lc false [("k", 13)] (.one 13) (.rg1 (.int 3)) .nil (.mk 0 20 (.cons (.ix (.var 4) (.var 13)) (.cons (.ix (.var 6) (.var 13)) .nil)))))
      (.cons (.set 8 (.addO 0 25 (.ix (.var 7) (.int 0)) (.ix (.var 7) (.int 1))))
      (.cons (.set 9 (.bin .add false (.ix (.var 6) (.int 0)) (.cal 17 (.cons (.ix (.var 6) (.int 1)) (.cons (.ix (.var 4) (.int 0)) .nil)))))
      (.cons (.ife (.nt (.cal 16 (.cons (.var 8) (.cons (.bin .add false (.ix (.var 4) (.int 0)) (.ix (.var 4) (.int 1))) (.cons (.var 9) .nil))))) (.cons (.ret (.bl false))
      .nil) .nil)
      (.cons (.set 9 (.bin .add false (.var 9) (.cal 17 (.cons (.ix (.var 6) (.int 2)) (.cons (.bin .add false (.ix (.var 4) (.int 0)) (.ix (.var 4) (.int 1))) .nil)))))
      (.cons (.frc (.one 10) (.lst false (.cons (.addO 0 25 (.var 8) (.ix (.var 7) (.int 2))) (.cons (.addO 0 25 (.ix (.var 7) (.int 0)) (.addO 0 25 (.ix (.var 7) (.int 1)) (.ix (.var 7) (.int 2)))) .nil))) (.cons (.ife (.nt (.cal 16 (.cons (.var 10) (.cons (.bi .sum false (.cons (.var 4) .nil)) (.cons (.var 9) .nil))))) (.cons (.ret (.bl false))
      .nil) .nil)
      .nil))
      (.cons (.set 11 (.var 8))
      (.cons (.set 12 (.bin .add false (.ix (.var 6) (.int 0)) (.cal 17 (.cons (.ix (.var 6) (.int 1)) (.cons (.ix (.var 4) (.int 0)) .nil)))))
      (.cons (.augO 8 0 25 (.ix (.var 7) (.int 2)))
      (.cons (.ife (.nt (.cal 16 (.cons (.var 8) (.cons (.bi .sum false (.cons (.var 4) .nil)) (.cons (.var 9) .nil))))) (.cons (.ret (.bl false))
      .nil) .nil)
      (.cons (.ife (.nt (.cal 16 (.cons (.var 11) (.cons (.bin .add false (.ix (.var 4) (.int 0)) (.ix (.var 4) (.int 1))) (.cons (.var 12) .nil))))) (.cons (.ret (.bl false))
      .nil) .nil)
      (.cons (.ife (.an (.cmp .lt (.bin .add false (.ix (.var 4) (.int 2)) (.ix (.var 4) (.int 2))) (.int 9)) (.cmp .lt (.bi .len false (.cons (.ix (.var 6) (.int 2)) .nil)) (.int 4))) (.cons (.ife (.nt (.cal 16 (.cons (.addO 0 25 (.ix (.var 7) (.int 2)) (.ix (.var 7) (.int 2))) (.cons (.bin .mul false (.int 2) (.ix (.var 4) (.int 2))) (.cons (.bin .add false (.ix (.var 6) (.int 2)) (.cal 17 (.cons (.ix (.var 6) (.int 2)) (.cons (.ix (.var 4) (.int 2)) .nil)))) .nil))))) (.cons (.ret (.bl false))
      .nil) .nil)
      .nil) .nil)
      (.cons (.frc (.one 13) (.rg1 (.int 3)) (.cons (.ife (.nt (.cal 16 (.cons (.ix (.var 7) (.var 13)) (.cons (.ix (.var 4) (.var 13)) (.cons (.ix (.var 6) (.var 13)) .nil))))) (.cons (.ret (.bl false))
      .nil) .nil)
      .nil))
      (.cons (.frc (.one 14) (.lst false (.cons (.cal 12 (.cons (.var 3) (.cons (.int 3) .nil))) (.cons (.ix (.var 6) (.int 0)) (.cons (.tup (.cons (.ix (.var 4) (.int 0)) (.cons (.ix (.var 6) (.int 0)) .nil))) (.cons (.int 0) .nil))))) (.cons (.ife (.nt (.cal 18 (.cons (.ix (.var 7) (.int 0)) (.cons (.var 14) .nil)))) (.cons (.ret (.bl false))
      .nil) .nil)
      .nil))
      .nil))))))))))))))))))))
      (.cons (.ret (.bl true))
      .nil)))
def d_law : Df := ⟨"law", ["script", "great", "cell", "jar", "spans", "many", "rows", "crates", "pair", "jobs", "made", "elder", "first", "k", "thing"], 1, top 31, b_law, none⟩
/-- Box_init: 0 self, 1 shafts, 2 works -/
def b_Box_init : Sm :=
      (.cons (.ex (.cal 5 (.cons (.var 1) .nil)))
      (.cons (.ife (.nt (.cal 4 (.cons (.var 1) (.cons (.var 2) .nil)))) (.cons (.rse 3)
      .nil) .nil)
      (.cons (.sfld 0 (.var 0) "_shafts" (.var 1))
      (.cons (.sfld 0 (.var 0) "_works" (.bi .tup false (.cons (.var 2) .nil)))
      .nil))))
def d_Box_init : Df := ⟨"__init__", ["self", "shafts", "works"], 3, inC 16 0, b_Box_init, some ("Box", false)⟩
/-- Box_shafts: 0 self -/
def b_Box_shafts : Sm :=
      (.cons (.ret (.fld 0 (.var 0) "_shafts"))
      .nil)
def d_Box_shafts : Df := ⟨"shafts", ["self"], 1, inC 16 1, b_Box_shafts, some ("Box", true)⟩
/-- Box_works: 0 self -/
def b_Box_works : Sm :=
      (.cons (.ret (.fld 0 (.var 0) "_works"))
      .nil)
def d_Box_works : Df := ⟨"works", ["self"], 1, inC 16 2, b_Box_works, some ("Box", true)⟩
/-- Box_len: 0 self -/
def b_Box_len : Sm :=
      (.cons (.ret (.bi .len false (.cons (.fld 0 (.var 0) "_works") .nil)))
      .nil)
def d_Box_len : Df := ⟨"__len__", ["self"], 1, inC 16 3, b_Box_len, some ("Box", false)⟩
/-- Box_eq: 0 self, 1 other -/
def b_Box_eq : Sm :=
      (.cons (.ret (.an (.isO (.var 1) 0) (.an (.cmp .eq (.fld 0 (.var 0) "_shafts") (.fld 0 (.var 1) "_shafts")) (.cmp .eq (.fld 0 (.var 0) "_works") (.fld 0 (.var 1) "_works")))))
      .nil)
def d_Box_eq : Df := ⟨"__eq__", ["self", "other"], 2, inC 16 4, b_Box_eq, some ("Box", false)⟩
/-- Box_add: 0 self, 1 other, 2 raised, 3 work -/
def b_Box_add : Sm :=
      (.cons (.ife (.nt (.isC (.var 1) [.own 0])) (.cons (.rse 2)
      .nil) .nil)
      (.cons (.set 2 (.lc false [("work", 3)] (.one 3) (.fld 0 (.var 1) "_works") .nil (.cal 6 (.cons (.var 3) (.cons (.fld 0 (.var 0) "_shafts") .nil)))))
      (.cons (.ret (.mk 0 20 (.cons (.bin .add false (.fld 0 (.var 0) "_shafts") (.fld 0 (.var 1) "_shafts")) (.cons (.bin .add false (.bi .lst false (.cons (.fld 0 (.var 0) "_works") .nil)) (.var 2)) .nil))))
      .nil)))
def d_Box_add : Df := ⟨"__add__", ["self", "other", "raised", "work"], 2, inC 16 5, b_Box_add, some ("Box", false)⟩
def ds : List Df := [d_is_integer, d_is_between, d_is_one_work, d_are_unlike, d_are_works, d_need_shafts, d_raised, d_law_fill, d_law_take, d_law_mixed, d_law_some_number, d_law_string, d_law_odd, d_law_same, d_law_some_job, d_law_some_jobs, d_law_crate_is, d_law_raised_jobs, d_law_refused, d_law, d_Box_init, d_Box_shafts, d_Box_works, d_Box_len, d_Box_eq, d_Box_add]
def kws : List Kw := []
def exs : List Str := ["BoxError", "InvalidShafts", "InvalidBox", "InvalidWork"]
def em : List (List Nat) := [[0, 1, 2, 3], [1], [2], [3]]
def cis : List Ci := [⟨"Box", ["_shafts", "_works"], [("shafts", 21), ("works", 22)], [("__init__", 20), ("__len__", 23), ("__eq__", 24), ("__add__", 25)]⟩]
def sup : List (List Nat) := [[0]]
def tas : List (Str × List (Str × Int)) := []
def gts : List (Str × List Gv) := [("PLANET_WORDS", [.str "planet", .str "double"]), ("WHEEL_WORDS", [.str "pair", .str "band"])]
def tss : List (Str × List (Str × Str)) := []
def cfg : Cfg := ⟨ds, kws, exs, em, cis, sup, tas, gts, tss, false, true⟩
def iLaw : Nat := 19

set_option maxHeartbeats 0
abbrev R : PySem.W.OpenRow := PySem.W.OpenLaw.row PySem.Challenge.rw_planetlocks_k13_boxes_side_by_side
abbrev hk : PySem.W.Hook := hookK cfg 5
def ob (s : PySem.W.SharedT) : AlZ := obsG cfg 5 (HandSHeadRun.getT s)
theorem ob_eq (s : PySem.W.SharedT) : ob s = hk.obs s.abs := obsG_eq (HandSHeadRun.getT_eq s)
def loose : List Str := [("BoxError" : Str), ("InvalidShafts" : Str), ("InvalidBox" : Str), ("InvalidWork" : Str), ("PLANET_WORDS" : Str), ("WHEEL_WORDS" : Str), ("is_integer" : Str), ("is_between" : Str), ("is_one_work" : Str), ("_are_unlike" : Str), ("are_works" : Str), ("need_shafts" : Str), ("Box" : Str), ("_raised" : Str), ("_law_fill" : Str), ("_law_take" : Str), ("_law_mixed" : Str), ("_law_some_number" : Str), ("_law_string" : Str), ("_law_odd" : Str), ("_law_same" : Str), ("_law_some_job" : Str), ("_law_some_jobs" : Str), ("_law_crate_is" : Str), ("_law_raised_jobs" : Str), ("_law_refused" : Str)]
theorem run (w : World) : HandSHeadRun.RunEq R (PySem.W.view R.prog [31]) hk ob 6000 loose w := by
  intro os
  kernel_rfl

end K13
namespace Zk
open PySem PySem.Spec PyProof.Rows L2

/-! ### readings, held against the heap -/
section
variable {K : PySem.W.Frag} {ω : Wd} {st : Sto} {H : Hp}
mutual
theorem dat0_ok (S : StR K ω st H) : ∀ {w : W} {v : V} {d : PyData}, Rel K ω w v → dat0 w = some d → Dp K H v d
  | _, _, _, .non, e => by simp only [dat0] at e; cases e; exact .non
  | _, _, _, .bl b, e => by simp only [dat0] at e; cases e; exact .bl b
  | _, _, _, .int i, e => by simp only [dat0] at e; cases e; exact .int i
  | _, _, _, .str x, e => by simp only [dat0] at e; cases e; exact .str x
  | _, _, _, .tup (ws := ws) s r, e => by
    simp only [dat0] at e
    cases q : dat0s ws with
    | none => rw [q] at e; cases e
    | some ds => rw [q] at e; cases e; exact .tup (S.tup s) (dat0s_ok S r q)
  | _, _, _, .lst (ws := ws) s r, e => by
    simp only [dat0] at e
    cases q : dat0s ws with
    | none => rw [q] at e; cases e
    | some ds => rw [q] at e; cases e; exact .lst (.inl (S.sub _ _ s)) (dat0s_ok S r q)
  | _, _, _, .dct _ _ _, e => by simp only [dat0] at e; cases e
  | _, _, _, .ref _, e => by simp only [dat0] at e; cases e
  | _, _, _, .scr _, e => by simp only [dat0] at e; cases e
  | _, _, _, .obj _ _, e => by simp only [dat0] at e; cases e
  | _, _, _, .dtt _ _ _, e => by simp only [dat0] at e; cases e
  | _, _, _, .rng _, e => by simp only [dat0] at e; cases e
  | _, _, _, .exc _ _, e => by simp only [dat0] at e; cases e
theorem dat0s_ok (S : StR K ω st H) : ∀ {ws : List W} {vs : List V} {ds : List PyData}, RelL K ω ws vs → dat0s ws = some ds → DpAll K H vs ds
  | _, _, _, .nil, e => by simp only [dat0s] at e; cases e; exact .nil
  | _, _, _, .cons (w := w) (ws := ws) r t, e => by
    simp only [dat0s] at e
    cases q : dat0 w with
    | none => rw [q] at e; cases e
    | some d =>
      cases q2 : dat0s ws with
      | none => rw [q, q2] at e; cases e
      | some ds => rw [q, q2] at e; cases e; exact .cons (dat0_ok S r q) (dat0s_ok S t q2)
end
theorem datE_ok (S : StR K ω st H) {w : W} {v : V} {d : PyData} (r : Rel K ω w v) (e : datE st w = some d) : Dp K H v d := by
  cases r with
  | ref e1 =>
    rename_i n a
    simp only [datE] at e
    cases q : st[n]? with
    | none => rw [q] at e; cases e
    | some bc =>
      obtain ⟨b, c⟩ := bc
      rcases S.cell e1 q with ⟨ws, vs, rfl, h, rl⟩ | ⟨ws, vs, rfl, _⟩ | ⟨ws, vs, rfl, _⟩ | ⟨_, _, rfl⟩
      · rw [q] at e
        cases q2 : dat0s ws with
        | none => simp [q2] at e
        | some ds => simp [q2] at e; subst e; exact .lst (.inl h) (dat0s_ok S rl q2)
      · rw [q] at e; cases e
      · rw [q] at e; cases e
      · rw [q] at e; cases e
  | non => exact dat0_ok S .non e
  | bl b => exact dat0_ok S (.bl b) e
  | int b => exact dat0_ok S (.int b) e
  | str b => exact dat0_ok S (.str b) e
  | tup s r => exact dat0_ok S (.tup s r) e
  | lst s r => exact dat0_ok S (.lst s r) e
  | dct s n r => exact dat0_ok S (.dct s n r) e
  | scr s => simp only [datE, dat0] at e; cases e
  | obj s r => simp only [datE, dat0] at e; cases e
  | dtt s n r => simp only [datE, dat0] at e; cases e
  | rng s => simp only [datE, dat0] at e; cases e
  | exc s r => simp only [datE, dat0] at e; cases e
theorem datR_ok (S : StR K ω st H) : ∀ {ws : List W} {vs : List V} {ds : List PyData}, RelL K ω ws vs → datR st ws = some ds → DpAll K H vs ds
  | _, _, _, .nil, e => by simp only [datR] at e; cases e; exact .nil
  | _, _, _, .cons (w := w) (ws := ws) r t, e => by
    simp only [datR] at e
    cases q : datE st w with
    | none => rw [q] at e; cases e
    | some d =>
      cases q2 : datR st ws with
      | none => rw [q, q2] at e; cases e
      | some ds => rw [q, q2] at e; cases e; exact .cons (datE_ok S r q) (datR_ok S t q2)
theorem datL_ok (S : StR K ω st H) {ws : List W} {vs : List V} {d : PyData} {a : Addr} (h : Rd H a (.lst vs)) (r : RelL K ω ws vs) (e : (match dat0s ws with
    | some ds => some (PyData.list ds)
    | none => (datR st ws).map .list) = some d) : Dp K H (.ref a) d := by
  cases q : dat0s ws with
  | some ds => rw [q] at e; cases e; exact .lst (.inl h) (dat0s_ok S r q)
  | none =>
    rw [q] at e
    cases q2 : datR st ws with
    | none => rw [q2] at e; cases e
    | some ds => rw [q2] at e; cases e; exact .lst (.inl h) (datR_ok S r q2)
theorem dat_ok (S : StR K ω st H) {w : W} {v : V} {d : PyData} (r : Rel K ω w v) (e : dat st w = some d) : Dp K H v d := by
  cases r with
  | ref e1 =>
    rename_i n a
    simp only [dat] at e
    cases q : st[n]? with
    | none => rw [q] at e; cases e
    | some bc =>
      obtain ⟨b, c⟩ := bc
      rcases S.cell e1 q with ⟨ws, vs, rfl, h, rl⟩ | ⟨ws, vs, rfl, _⟩ | ⟨ws, vs, rfl, _⟩ | ⟨_, _, rfl⟩
      · rw [q] at e
        exact datL_ok S h rl e
      · rw [q] at e; cases e
      · rw [q] at e; cases e
      · rw [q] at e; cases e
  | non => exact dat0_ok S .non e
  | bl b => exact dat0_ok S (.bl b) e
  | int b => exact dat0_ok S (.int b) e
  | str b => exact dat0_ok S (.str b) e
  | tup s r => exact dat0_ok S (.tup s r) e
  | lst s r => exact datL_ok S (S.sub _ _ s) r e
  | dct s n r => exact dat0_ok S (.dct s n r) e
  | scr s => simp only [dat, dat0] at e; cases e
  | obj s r => simp only [dat, dat0] at e; cases e
  | dtt s n r => simp only [dat, dat0] at e; cases e
  | rng s => simp only [dat, dat0] at e; cases e
  | exc s r => simp only [dat, dat0] at e; cases e
theorem ls_ok (S : StR K ω st H) {w : W} {v : V} {l : List W} (r : Rel K ω w v) (e : ls st w = some l) : ∃ a vs, v = .ref a ∧ Rd H a (.lst vs) ∧ RelL K ω l vs := by
  cases r with
  | ref e1 =>
    rename_i n a
    simp only [ls] at e
    cases q : st[n]? with
    | none => rw [q] at e; cases e
    | some bc =>
      obtain ⟨b, c⟩ := bc
      rcases S.cell e1 q with ⟨ws, vs, rfl, h, rl⟩ | ⟨ws, vs, rfl, _⟩ | ⟨ws, vs, rfl, _⟩ | ⟨_, _, rfl⟩
      · rw [q] at e; cases e; exact ⟨a, vs, rfl, h, rl⟩
      · rw [q] at e; cases e
      · rw [q] at e; cases e
      · rw [q] at e; cases e
  | lst s r => simp only [ls] at e; cases e; exact ⟨_, _, rfl, S.sub _ _ s, r⟩
  | _ => simp only [ls] at e; cases e
theorem sq_ok (S : StR K ω st H) {w : W} {v : V} {l : List W} (r : Rel K ω w v) (e : sq st w = some l) : ∃ a vs, v = .ref a ∧ (SqL K H a vs ∨ SqT K H a vs) ∧ RelL K ω l vs := by
  cases r with
  | ref e1 =>
    rename_i n a
    simp only [sq] at e
    cases q : st[n]? with
    | none => rw [q] at e; cases e
    | some bc =>
      obtain ⟨b, c⟩ := bc
      rcases S.cell e1 q with ⟨ws, vs, rfl, h, rl⟩ | ⟨ws, vs, rfl, _⟩ | ⟨ws, vs, rfl, _⟩ | ⟨_, _, rfl⟩
      · rw [q] at e; cases e; exact ⟨a, vs, rfl, .inl (.inl h), rl⟩
      · rw [q] at e; cases e
      · rw [q] at e; cases e
      · rw [q] at e; cases e
  | lst s r => simp only [sq] at e; cases e; exact ⟨_, _, rfl, .inl (.inl (S.sub _ _ s)), r⟩
  | tup s r => simp only [sq] at e; cases e; exact ⟨_, _, rfl, .inr (S.tup s), r⟩
  | scr s => simp only [sq] at e; cases e; exact ⟨_, _, rfl, .inl (S.lst s), RelL.ints _⟩
  | _ => simp only [sq] at e; cases e
theorem dc_ok (S : StR K ω st H) {w : W} {v : V} {l : List (Key × W)} (r : Rel K ω w v) (e : dc st w = some l) : ∃ a vs, v = .ref a ∧ Rd H a (.dK vs) ∧ (l.map (·.1)).Nodup ∧ RelK K ω l vs := by
  cases r with
  | ref e1 =>
    rename_i n a
    simp only [dc] at e
    cases q : st[n]? with
    | none => rw [q] at e; cases e
    | some bc =>
      obtain ⟨b, c⟩ := bc
      rcases S.cell e1 q with ⟨ws, vs, rfl, _⟩ | ⟨ws, vs, rfl, h, nd, rl⟩ | ⟨ws, vs, rfl, _⟩ | ⟨_, _, rfl⟩
      · rw [q] at e; cases e
      · rw [q] at e; cases e; exact ⟨a, vs, rfl, h, nd, rl⟩
      · rw [q] at e; cases e
      · rw [q] at e; cases e
  | dct s n r => simp only [dc] at e; cases e; exact ⟨_, _, rfl, S.sub _ _ (.inr ⟨_, s⟩), n, r⟩
  | _ => simp only [dc] at e; cases e
theorem intsOf_eq : ∀ {l : List W} {ns : List Int}, intsOf l = some ns → l = ns.map W.int
  | [], _, e => by simp only [intsOf] at e; cases e; rfl
  | .int i :: r, _, e => by
    simp only [intsOf] at e
    cases q : intsOf r with
    | none => rw [q] at e; cases e
    | some ns => rw [q] at e; cases e; rw [intsOf_eq q]; rfl
  | .non :: _, _, e => by simp only [intsOf] at e; cases e
  | .bl _ :: _, _, e => by simp only [intsOf] at e; cases e
  | .str _ :: _, _, e => by simp only [intsOf] at e; cases e
  | .tup _ :: _, _, e => by simp only [intsOf] at e; cases e
  | .lst _ :: _, _, e => by simp only [intsOf] at e; cases e
  | .dct _ :: _, _, e => by simp only [intsOf] at e; cases e
  | .ref _ :: _, _, e => by simp only [intsOf] at e; cases e
  | .scr _ :: _, _, e => by simp only [intsOf] at e; cases e
  | .obj _ _ :: _, _, e => by simp only [intsOf] at e; cases e
  | .exc _ :: _, _, e => by simp only [intsOf] at e; cases e
  | .dtt _ :: _, _, e => by simp only [intsOf] at e; cases e
  | .rng _ _ :: _, _, e => by simp only [intsOf] at e; cases e
theorem blsOf_eq : ∀ {l : List W} {ns : List Bool}, blsOf l = some ns → l = ns.map W.bl
  | [], _, e => by simp only [blsOf] at e; cases e; rfl
  | .bl i :: r, _, e => by
    simp only [blsOf] at e
    cases q : blsOf r with
    | none => rw [q] at e; cases e
    | some ns => rw [q] at e; cases e; rw [blsOf_eq q]; rfl
  | .non :: _, _, e => by simp only [blsOf] at e; cases e
  | .int _ :: _, _, e => by simp only [blsOf] at e; cases e
  | .str _ :: _, _, e => by simp only [blsOf] at e; cases e
  | .tup _ :: _, _, e => by simp only [blsOf] at e; cases e
  | .lst _ :: _, _, e => by simp only [blsOf] at e; cases e
  | .dct _ :: _, _, e => by simp only [blsOf] at e; cases e
  | .ref _ :: _, _, e => by simp only [blsOf] at e; cases e
  | .scr _ :: _, _, e => by simp only [blsOf] at e; cases e
  | .obj _ _ :: _, _, e => by simp only [blsOf] at e; cases e
  | .exc _ :: _, _, e => by simp only [blsOf] at e; cases e
  | .dtt _ :: _, _, e => by simp only [blsOf] at e; cases e
  | .rng _ _ :: _, _, e => by simp only [blsOf] at e; cases e
theorem strsOf_eq : ∀ {l : List W} {ns : List Str}, strsOf l = some ns → l = ns.map W.str
  | [], _, e => by simp only [strsOf] at e; cases e; rfl
  | .str i :: r, _, e => by
    simp only [strsOf] at e
    cases q : strsOf r with
    | none => rw [q] at e; cases e
    | some ns => rw [q] at e; cases e; rw [strsOf_eq q]; rfl
  | .non :: _, _, e => by simp only [strsOf] at e; cases e
  | .int _ :: _, _, e => by simp only [strsOf] at e; cases e
  | .bl _ :: _, _, e => by simp only [strsOf] at e; cases e
  | .tup _ :: _, _, e => by simp only [strsOf] at e; cases e
  | .lst _ :: _, _, e => by simp only [strsOf] at e; cases e
  | .dct _ :: _, _, e => by simp only [strsOf] at e; cases e
  | .ref _ :: _, _, e => by simp only [strsOf] at e; cases e
  | .scr _ :: _, _, e => by simp only [strsOf] at e; cases e
  | .obj _ _ :: _, _, e => by simp only [strsOf] at e; cases e
  | .exc _ :: _, _, e => by simp only [strsOf] at e; cases e
  | .dtt _ :: _, _, e => by simp only [strsOf] at e; cases e
  | .rng _ _ :: _, _, e => by simp only [strsOf] at e; cases e
theorem keyOf_ok {w : W} {k : Key} {v : V} (e : keyOf w = some k) (r : Rel K ω w v) : v = kV k := by
  cases r <;> simp only [keyOf] at e <;> cases e <;> rfl
theorem ofKey_ok (k : Key) : Rel K ω (ofKey k) (kV k) := by
  cases k with
  | inl i => exact .int i
  | inr x => exact .str x
theorem RelK.length : ∀ {ws : List (Key × W)} {vs : List (Key × V)}, RelK K ω ws vs → ws.length = vs.length
  | _, _, .nil => rfl
  | _, _, .cons _ t => congrArg Nat.succ (RelK.length t)
theorem RelK.keys : ∀ {ws : List (Key × W)} {vs : List (Key × V)}, RelK K ω ws vs → ws.map (·.1) = vs.map (·.1)
  | _, _, .nil => rfl
  | _, _, .cons _ t => by rw [List.map_cons, List.map_cons, RelK.keys t]
theorem RelK.look : ∀ {ws : List (Key × W)} {vs : List (Key × V)} (k : Key), RelK K ω ws vs →
    (Zk.look ws k = none ∧ valV vs k = none) ∨ ∃ w v, Zk.look ws k = some w ∧ valV vs k = some v ∧ Rel K ω w v
  | _, _, k, .nil => .inl ⟨rfl, rfl⟩
  | _, _, k, .cons (k := k') (w := w) (v := v) r t => by
    by_cases e : k' = k
    · exact .inr ⟨w, v, by simp [Zk.look, e], by rw [valV_pos e], r⟩
    · rcases RelK.look k t with ⟨a, b⟩ | ⟨x, y, a, b, c⟩
      · exact .inl ⟨by simpa [Zk.look, e] using a, by rw [valV_neg e]; exact b⟩
      · exact .inr ⟨x, y, by simpa [Zk.look, e] using a, by rw [valV_neg e]; exact b, c⟩
theorem RelK.putMap {k : Key} {w : W} {v : V} (r : Rel K ω w v) : ∀ {ws : List (Key × W)} {vs : List (Key × V)}, RelK K ω ws vs →
    RelK K ω (ws.map fun p => if p.1 = k then (p.1, w) else p) (vs.map fun p => if p.1 = k then (p.1, v) else p)
  | _, _, .nil => .nil
  | _, _, .cons (k := k') q t => by
    by_cases e : k' = k
    · simp only [List.map_cons, e, if_true]; exact .cons r (RelK.putMap r t)
    · simp only [List.map_cons, e, if_false]; exact .cons q (RelK.putMap r t)
theorem RelK.app {k : Key} {w : W} {v : V} (r : Rel K ω w v) : ∀ {ws : List (Key × W)} {vs : List (Key × V)}, RelK K ω ws vs → RelK K ω (ws ++ [(k, w)]) (vs ++ [(k, v)])
  | _, _, .nil => .cons r .nil
  | _, _, .cons q t => .cons q (RelK.app r t)
theorem RelK.anyK {k : Key} : ∀ {ws : List (Key × W)} {vs : List (Key × V)}, RelK K ω ws vs → (ws.any fun p => decide (p.1 = k)) = (vs.any fun p => decide (p.1 = k))
  | _, _, .nil => rfl
  | _, _, .cons q t => by rw [List.any_cons, List.any_cons, RelK.anyK t]
theorem RelK.put {k : Key} {w : W} {v : V} (r : Rel K ω w v) {ws : List (Key × W)} {vs : List (Key × V)} (h : RelK K ω ws vs) : RelK K ω (Zk.put ws k w) (putK vs k v) := by
  unfold Zk.put putK
  rw [RelK.anyK h]
  split
  · exact RelK.putMap r h
  · exact RelK.app r h
end
theorem put_keys {α : Type} (l : List (Key × α)) (k : Key) (v : α) (h : (l.map (·.1)).Nodup) : ((put l k v).map (·.1)).Nodup := by
  unfold put
  split
  · have : (l.map (fun p => if p.1 = k then (p.1, v) else p)).map (·.1) = l.map (·.1) := by
      rw [List.map_map]
      apply List.map_congr_left
      intro p _
      simp only [Function.comp]
      split <;> rfl
    rw [this]; exact h
  · rename_i hn
    rw [List.map_append]
    refine List.nodup_append.mpr ⟨h, by simp, fun a ha b hb => ?_⟩
    simp only [List.map_cons, List.map_nil, List.mem_singleton] at hb
    subst hb
    intro z; subst z
    obtain ⟨p, hp, e⟩ := List.mem_map.mp ha
    exact hn (List.any_eq_true.mpr ⟨p, hp, decide_eq_true e⟩)

/-! ### what is wanted, and how it is handed on -/
/-- the wish Q' of the machine follows from the wish Q of the small language -/
def KQ (K : PySem.W.Frag) (ω : Wd) (st : Sto) (H : Hp) (Q : Po) (Q' : VK) : Prop :=
  ∀ ω' w v st' H', Stp ω st H ω' st' H' → StR K ω' st' H' → Rel K ω' w v → Q w st' → Q' v H'
section
variable {K : PySem.W.Frag} {ω ω' : Wd} {st st' : Sto} {H H' : Hp} {Q : Po} {Q' : VK}
theorem KQ.on (k : KQ K ω st H Q Q') (s : Stp ω st H ω' st' H') : KQ K ω' st' H' Q Q' := fun _ _ _ _ _ t => k _ _ _ _ _ (s.trans t)
theorem KQ.at (k : KQ K ω st H Q Q') (S : StR K ω st H) {w : W} {v : V} (r : Rel K ω w v) (q : Q w st) : Q' v H := k _ _ _ _ _ .refl S r q
theorem KQ.newL (k : KQ K ω st H Q Q') (S : StR K ω st H) {ws : List W} {vs : List V} (r : RelL K ω ws vs) {m : Bool} (q : newL m ws st Q) : vs.length ≤ sizeLine ∧ ∀ p, H p = none → Q' (.ref p) (upd H p (.lst vs)) := by
  obtain ⟨hz, q1, q2⟩ := q
  refine ⟨by rw [← r.length]; exact hz, fun p hp => ?_⟩
  cases m with
  | true =>
    obtain ⟨S', t⟩ := S.made hp (c := .lst ws) (o := .lst vs) ⟨vs, upd_same, r.up Wd.le_more⟩
    refine k _ _ _ _ _ t S' (.ref (n := st.length) ?_) (q1 rfl)
    show (ω.ρ ++ [p])[st.length]? = some p
    rw [← S.len]; simp
  | false =>
    obtain ⟨S', t⟩ := S.laid hp (.lst vs)
    exact k _ _ _ _ _ t S' (.lst (.inl upd_same) (r.up t.le)) (q2 rfl)
theorem KQ.newT (k : KQ K ω st H Q Q') (S : StR K ω st H) {ws : List W} {vs : List V} (r : RelL K ω ws vs) (q : Q (.tup ws) st) : ∀ p, H p = none → Q' (.ref p) (upd H p (.tup vs)) := fun p hp => by
  obtain ⟨S', t⟩ := S.laid hp (.tup vs)
  exact k _ _ _ _ _ t S' (.tup (.inl (.inl upd_same)) (r.up t.le)) q
/-- what is wanted, or wanted once one thing more is locked -/
def LkQ (Q' : VK) : VK := fun v H => Q' v H ∨ ∃ d u, H d = some u ∧ Mut (some u) ∧ ∀ od, Q' v (upd H d (.frz od u))
theorem KQ.newD (k : KQ K ω st H Q Q') (S : StR K ω st H) {ws : List (Key × W)} {vs : List (Key × V)} (nd : (ws.map (·.1)).Nodup) (r : RelK K ω ws vs) {m : Bool} (q : newD m ws st Q) : ∀ p, H p = none → LkQ Q' (.ref p) (upd H p (.dK vs)) := fun p hp => by
  cases m with
  | true =>
    obtain ⟨S', t⟩ := S.made hp (c := .dct ws) (o := .dK vs) ⟨vs, upd_same, nd, r.up Wd.le_more⟩
    refine .inl (k _ _ _ _ _ t S' (.ref (n := st.length) ?_) (q.1 rfl))
    show (ω.ρ ++ [p])[st.length]? = some p
    rw [← S.len]; simp
  | false =>
    refine .inr ⟨p, _, upd_same, trivial, fun od => ?_⟩
    rw [upd_upd]
    obtain ⟨S', t⟩ := S.laid hp (.frz od (.dK vs))
    exact k _ _ _ _ _ t S' (.dct upd_same nd (r.up t.le)) (q.2 rfl)
end

/-! ### operators by values -/
section
variable {X : Cx}
/-- the reading of a by-value rule of two operands -/
def r2 (K : PySem.W.Frag) (f : W → W → Sto → Po → Prop) : R2 := fun x y H Q' => ∃ ω a b st Q, StR K ω st H ∧ Rel K ω a x ∧ Rel K ω b y ∧ f a b st Q ∧ KQ K ω st H Q Q'
theorem op_catR : OpR X (binaryOp .Add) (fun x y H Q => ∃ l b xs zs, x = .ref l ∧ y = .ref b ∧ Rd H l (.lst xs) ∧ Rd H b (.lst zs) ∧ xs.length + zs.length ≤ sizeLine ∧ ∀ p, H p = none → Q (.ref p) (upd H p (.lst (xs ++ zs)))) := by
  intro pins s σ H x y v u Q I rx ry h
  obtain ⟨l, b, xs, zs, rfl, rfl, hH, hB, hz, q⟩ := h
  cases rx
  cases ry
  obtain ⟨_, its, n, r, e⟩ := hH.ok I.hok
  obtain ⟨_, its2, n2, r2, e2⟩ := hB.ok I.hok
  have hl := r.length
  have hl2 := r2.length
  refine PySem.P.add_list e e2 ?_ (by rw [List.size_toArray, List.size_toArray]; omega)
  rw [show its.toArray ++ its2.toArray = (its ++ its2).toArray by simp]
  exact ⟨.ref _, _, I.lnew (t' := s.toks) (r.append r2) (by rw [List.length_append]; omega), rfl, q _ I.fresh⟩
theorem RelL.rep {K : PySem.W.Frag} {ω : Wd} {ws : List W} {vs : List V} (r : RelL K ω ws vs) : ∀ k : Nat, RelL K ω (List.replicate k ws).flatten (List.replicate k vs).flatten
  | 0 => .nil
  | k + 1 => by
    rw [List.replicate_succ, List.replicate_succ, List.flatten_cons, List.flatten_cons]
    exact r.append (RelL.rep r k)
theorem op_fdivNW : OpR X (binaryOp .FloorDiv) (rI (fun _ j => j ≠ 0 ∧ j.natAbs.log2 < 9000) fun i j => .int (i.fdiv j)) := opI fun _ _ _ _ _ _ _ hc q => floordiv_int hc.1 q (.inl (PyProof.noPylong_of_log2 hc.2))
theorem or_bin (op : Bo) (m : Bool) : OpR X (binaryOp (match op with | .add => .Add | .sub => .Sub | .mul => .Mult | .fdiv => .FloorDiv | .mod => .Mod | .pow => .Pow | .shl => .LShift)) (r2 X.K (fun a b st Q => binW op m a b st Q)) := by
  intro pins s σ H x y v u Q' I rx ry h
  obtain ⟨ω, a, b, st, Q, S, ra, rb, q, k⟩ := h
  cases op with
  | add =>
    rcases q with ⟨i, j, rfl, rfl, q⟩ | ⟨i, j, rfl, rfl, hz, q⟩ | ⟨i, j, rfl, rfl, hz, q⟩ | ⟨l1, l2, e1, e2, q⟩
    · cases ra.int_inv; cases rb.int_inv
      exact op_add pins s σ H _ _ v u Q' I rx ry ⟨i, j, rfl, rfl, k.at S (.int _) q⟩
    · cases ra.str_inv; cases rb.str_inv
      exact op_add_str pins s σ H _ _ v u Q' I rx ry ⟨i, j, rfl, rfl, hz, k.at S (.str _) q⟩
    · cases ra with
      | tup s1 r1 =>
        cases rb with
        | tup s2 r2 =>
          have z1 := r1.length
          have z2 := r2.length
          refine op_catA pins s σ H _ _ v u Q' I rx ry ⟨_, _, _, _, rfl, rfl, S.tup s1, S.tup s2, by omega, fun e => ?_, fun _ e => ?_, fun _ _ => ?_⟩
          · subst e
            cases r1
            exact k.at S (.tup s2 r2) q
          · subst e
            cases r2
            rw [List.append_nil] at q
            exact k.at S (.tup s1 r1) q
          · exact k.newT S (r1.append r2) q
    · obtain ⟨p1, v1, rfl, h1, r1⟩ := ls_ok S ra e1
      obtain ⟨p2, v2, rfl, h2, r2⟩ := ls_ok S rb e2
      obtain ⟨hz, q⟩ := k.newL S (r1.append r2) q
      rw [List.length_append] at hz
      exact op_catR pins s σ H _ _ v u Q' I rx ry ⟨_, _, _, _, rfl, rfl, h1, h2, hz, q⟩
  | sub =>
    obtain ⟨i, j, rfl, rfl, q⟩ := q
    cases ra.int_inv; cases rb.int_inv
    exact op_sub pins s σ H _ _ v u Q' I rx ry ⟨i, j, rfl, rfl, k.at S (.int _) q⟩
  | mul =>
    rcases q with ⟨i, j, rfl, rfl, hm, q⟩ | ⟨nn, l, i, rfl, e, rfl, h1, h2, hz, q⟩
    · cases ra.int_inv; cases rb.int_inv
      rcases hm with hm | hm
      · exact op_mul pins s σ H _ _ v u Q' I rx ry ⟨i, j, rfl, rfl, hm, k.at S (.int _) q⟩
      · exact op_mulW pins s σ H _ _ v u Q' I rx ry ⟨i, j, rfl, rfl, hm, k.at S (.int _) q⟩
    · cases rb.int_inv
      cases ra with
      | ref e1 =>
        obtain ⟨vs, hh, rl⟩ := S.cel _ _ _ e1 e
        exact op_rep pins s σ H _ _ v u Q' I rx ry ⟨_, _, _, rfl, rfl, hh, h1, h2, by rw [← rl.length]; exact hz, (k.newL S (RelL.rep rl _) q).2⟩
  | fdiv =>
    obtain ⟨i, j, rfl, rfl, q⟩ := q
    cases ra.int_inv; cases rb.int_inv
    rcases q with ⟨h1, h2, q⟩ | ⟨h1, h2, q⟩
    · exact op_fdivW pins s σ H _ _ v u Q' I rx ry ⟨i, j, rfl, rfl, ⟨h1, h2⟩, k.at S (.int _) q⟩
    · exact op_fdivNW pins s σ H _ _ v u Q' I rx ry ⟨i, j, rfl, rfl, ⟨by omega, h2⟩, k.at S (.int _) q⟩
  | mod =>
    obtain ⟨i, j, rfl, rfl, q⟩ := q
    cases ra.int_inv; cases rb.int_inv
    rcases q with ⟨h1, q⟩ | ⟨h1, q⟩
    · exact op_mod pins s σ H _ _ v u Q' I rx ry ⟨i, j, rfl, rfl, h1, k.at S (.int _) q⟩
    · exact op_modN pins s σ H _ _ v u Q' I rx ry ⟨i, j, rfl, rfl, (by omega), k.at S (.int _) q⟩
  | pow =>
    obtain ⟨i, j, rfl, rfl, h1, q⟩ := q
    cases ra.int_inv; cases rb.int_inv
    exact op_pow pins s σ H _ _ v u Q' I rx ry ⟨i, j, rfl, rfl, h1, k.at S (.int _) q⟩
  | shl =>
    obtain ⟨i, j, rfl, rfl, h1, q⟩ := q
    cases ra.int_inv; cases rb.int_inv
    exact op_shl pins s σ H _ _ v u Q' I rx ry ⟨i, j, rfl, rfl, h1, k.at S (.int _) q⟩
end
end Zk

namespace Zk
open PySem PySem.Spec PyProof.Rows L2

/-! ### pairs sorted, the greatest of a tuple, a tuple backwards -/
section
variable {X : Cx}
def rSrtP (K : PySem.W.Frag) : List V → Hp → VK → Prop := fun vs H Q => ∃ (a : Addr) (xs : List V) (k : V → Int × Int), vs = [V.ref a] ∧ SqL K H a xs ∧ (∀ x ∈ xs, ∃ t, x = V.ref t ∧ SqT K H t [.int (k x).1, .int (k x).2]) ∧
  ∀ ys p, SrtO.Srtd (L2.ltP k) ys → SrtO.Stb (L2.ltP k) ys xs → H p = none → Q (.ref p) (upd H p (.lst ys))
theorem cr_srtP : CallR X (.builtin "sorted") (rSrtP X.K) := by
  intro pins s σ H vs us Q I r h
  obtain ⟨a, xs, k, rfl, hs, hx, q⟩ := h
  obtain ⟨its, rv, hl, hz⟩ := I.list hs
  obtain ⟨u, rfl, ru⟩ := vals1 r
  obtain rfl : u = Value.ref a := ru
  obtain ⟨e1, e2⟩ := refs_back rv fun x m => by
    obtain ⟨t, e, _⟩ := hx x m
    exact ⟨t, e⟩
  refine SrtO.sorted_pairsO (k := fun u => k (backV u)) hl.isList (by rw [← rv.length]; exact hz) (fun v hv => ?_) fun h' d out h1 h2 kp hd hn => ?_
  · obtain ⟨t, rfl⟩ := e2 v hv
    have hm : V.ref t ∈ xs := by rw [e1]; exact List.mem_map.mpr ⟨_, hv, rfl⟩
    obtain ⟨t', e, ht⟩ := hx _ hm
    cases e
    obtain ⟨its2, r2, ⟨o, ho, hc, n, hd⟩, _⟩ := I.tuple ht
    obtain ⟨u1, u2, rfl, ri, rj⟩ := vals2 r2
    obtain ⟨t1, rfl⟩ := ri
    obtain ⟨t2, rfl⟩ := rj
    exact ⟨t, o, t1, t2, n, rfl, ho, hc, hd⟩
  · have h3 : ∀ u ∈ out, ∃ a, u = Value.ref a := fun u hu => e2 u (h2.perm.mem_iff.mp hu)
    obtain ⟨n, hn⟩ := hn
    have hb : SrtO.Stb (L2.ltP k) (out.map backV) xs := by
      rw [e1]
      exact SrtO.Stb.map (ltP_swo k) backV h2
    refine ⟨.ref d, upd H d (.lst (out.map backV)), I.laid (t' := s.toks) kp hd ⟨?_, out, n, vals_back h3, hn⟩, rfl, q _ d (SrtO.srtd_map h1) hb (I.hok.fresh hd)⟩
    rw [hb.len]
    exact hz
/-! ### the ints of a tuple, sorted -/
section
variable {prog : Program} {w : World} {A : Around} {E : Value → Shared → Prop} {s : Shared}
theorem collect_tupI {l : Addr} {vs : List Value} {Q : List Value → Shared → Prop} (hl : s.heap.IsTuple l vs.toArray)
    (h : Q vs { s with heap := (s.heap.push (seqObj "list" #[] 0)).update s.heap.objs.size (Obj.mapSeq (· ++ vs.toArray)) }) (hsz : vs.length ≤ sizeLine) :
    wpAny (model prog w) A (collect (.ref l)) Q E s := by
  obtain ⟨o, ho, hc, n, hd⟩ := id hl
  unfold collect
  refine wpAny_bind (wpAny_runValue (codeAny_builtin entry_proto_collect' ?_))
  show wpAny _ _ (do again (.builtin "list.__iadd__" ⟨[← newList [], .ref l], []⟩)) _ _ s
  refine wpAny_bind (wpAny_newList (wpAny_pure ⟨Code.quiet_builtin _ (by decide +kernel), codeAny_builtin entry_list_iadd' ?_⟩))
  show wpAny _ _ (Builtin.List.listExtendWith (.ref s.heap.objs.size) (.ref l) (.ref s.heap.objs.size)) _ _ { s with heap := s.heap.push (seqObj "list" #[] 0) }
  unfold Builtin.List.listExtendWith
  have ho' : (s.heap.push (seqObj "list" #[] 0)).get? l = some o := Heap.get?_push_of_some _ ho
  refine wpAny_bind (wpAny_typeOf (T := "tuple") ⟨o, ho', hc⟩ ?_)
  rw [if_pos (by rw [show (Value.type "tuple" == Value.type "tuple") = true from rfl, Bool.or_true])]
  refine wpAny_bind (listItems_at ho' hd ?_)
  refine wpAny_bind (listItems_at (xs := #[]) (n := 0) (Heap.get?_push_size _ rfl) rfl ?_)
  rw [if_neg (by simp)]
  refine wpAny_bind (listUpdate_at (xs := #[]) (n := 0) (Heap.get?_push_size _ rfl) rfl ?_ (Nat.zero_le _) (by show (#[] ++ vs.toArray).size ≤ sizeLine + 1; simp only [Array.size_append, List.size_toArray, List.length_nil]; omega))
  refine wpAny_pure ?_
  refine wpAny_bind (wpAny_load (get?_update_seq (Heap.get?_push_size _ rfl) _) ?_)
  show wpAny _ _ (pure ((#[] : Array Value) ++ vs.toArray).toList) Q E _
  rw [show ((#[] : Array Value) ++ vs.toArray).toList = vs by simp]
  exact wpAny_pure h
theorem sorted_tupI {l : Addr} {vs : List Value} {ns : List Int} {Q : Value → Shared → Prop} (hl : s.heap.IsTuple l vs.toArray) (hI : IntsAre vs ns) (hL : vs.length ≤ sizeLine)
    (h : ∀ (out : Array Value) (ns' : List Int), IntsAre out.toList ns' → ns'.Perm ns → ns'.Pairwise (· ≤ ·) → Q (.ref (s.heap.objs.size + 1)) { s with heap := sortedAll s.heap vs out }) :
    wpAny (model prog w) A (call (.builtin "sorted") [.ref l]) Q E s := by
  refine Calls.call_function_entry kind_sorted plain_sorted entry_sorted (args_sorted1 _) ?_
  unfold Builtin.«sorted»
  refine wpAny_bind (m := checkCount "sorted" 1 1 _) (wpAny_pure ?_)
  refine wpAny_bind (collect_tupI hl ?_ hL)
  refine wpAny_bind (wpAny_newList ?_ hL)
  have hsz : ((s.heap.push (seqObj "list" #[] 0)).update s.heap.objs.size (Obj.mapSeq (· ++ vs.toArray))).objs.size = s.heap.objs.size + 1 := by
    rw [Heap.size_update, size_push']
  have hoL : (((s.heap.push (seqObj "list" #[] 0)).update s.heap.objs.size (Obj.mapSeq (· ++ vs.toArray))).push (seqObj "list" vs.toArray 0)).get? (s.heap.objs.size + 1) = some (seqObj "list" vs.toArray 0) := by
    rw [← hsz]; exact Heap.get?_push_size _ rfl
  show wpAny _ _ _ _ _ { s with heap := ((s.heap.push (seqObj "list" #[] 0)).update s.heap.objs.size (Obj.mapSeq (· ++ vs.toArray))).push (seqObj "list" vs.toArray 0) }
  rw [hsz]
  refine wpAny_bind (wpAny_holding (wpAny_call_entry slot_list_sort ⟨_, hoL, rfl⟩ entry_list_sort (list_sort_treeAny hoL hI hL fun out ns' a1 a2 a3 => ⟨_, rfl, ?_⟩) (args_list_sort _)))
  exact wpAny_pure ⟨_, rfl, h out ns' a1 a2 a3⟩
end
def rSrtT (K : PySem.W.Frag) : List V → Hp → VK → Prop := fun vs H Q => ∃ (a : Addr) (ns : List Int), vs = [V.ref a] ∧ SqT K H a (ns.map V.int) ∧ ns.length ≤ sizeLine ∧
  ∀ (ns' : List Int) (p : Addr), ns'.Perm ns → ns'.Pairwise (· ≤ ·) → H p = none → Q (.ref p) (upd H p (.lst (ns'.map V.int)))
theorem cr_srtT : CallR X (.builtin "sorted") (rSrtT X.K) := by
  intro pins s σ H vs us Q I r h
  obtain ⟨a, ns, rfl, hs, hn, q⟩ := h
  obtain ⟨its, rv, ht, _⟩ := I.tuple hs
  rw [Vals.ref1 r]
  have hi := rv.ints
  refine sorted_tupI ht hi (by rw [← rv.length, List.length_map]; exact hn) fun out ns' h1 h2 h3 => ?_
  obtain ⟨ep, he'⟩ := PyProof.Rows.sortedAll_at s.heap its out
  have hlen : (ns'.map V.int).length ≤ sizeLine := by
    rw [List.length_map, h2.length_eq]; exact hn
  exact ⟨.ref _, upd H (s.heap.objs.size + 1) (.lst (ns'.map V.int)), I.laid (t' := s.toks) (fun _ _ => PyProof.Rows.sortedAll_old) (Nat.le_succ _) ⟨hlen, out.toList, ep, L2.vals_of_ints h1, by simpa using he'⟩, rfl, q _ _ h2 h3 (I.hok.fresh (Nat.le_succ _))⟩
theorem maxOf_mem : ∀ (x : Int) (xs : List Int), PySem.W.maxOf x xs ∈ x :: xs ∧ ∀ y ∈ x :: xs, y ≤ PySem.W.maxOf x xs
  | x, [] => ⟨by simp [PySem.W.maxOf], by simp [PySem.W.maxOf]⟩
  | x, y :: ys => by
    have e : PySem.W.maxOf x (y :: ys) = PySem.W.maxOf (if x < y then y else x) ys := by
      unfold PySem.W.maxOf
      rw [List.foldl_cons]
      show List.foldl _ (if decide (x < y) = true then y else x) ys = _
      simp only [decide_eq_true_eq]
    obtain ⟨h1, h2⟩ := maxOf_mem (if x < y then y else x) ys
    rw [e]
    refine ⟨?_, fun z hz => ?_⟩
    · rcases List.mem_cons.mp h1 with h | h
      · rw [h]; split <;> simp
      · simp [h]
    · have h0 := h2 _ (List.mem_cons_self ..)
      rcases List.mem_cons.mp hz with hz | hz
      · subst hz
        by_cases q : z < y
        · rw [if_pos q] at h0 ⊢; omega
        · rw [if_neg q] at h0 ⊢; omega
      · rcases List.mem_cons.mp hz with hz | hz
        · subst hz
          by_cases q : x < z
          · rw [if_pos q] at h0 ⊢; omega
          · rw [if_neg q] at h0 ⊢; omega
        · exact h2 z (List.mem_cons_of_mem _ hz)
theorem minOf_mem : ∀ (x : Int) (xs : List Int), PySem.W.minOf x xs ∈ x :: xs ∧ ∀ y ∈ x :: xs, PySem.W.minOf x xs ≤ y
  | x, [] => ⟨by simp [PySem.W.minOf], by simp [PySem.W.minOf]⟩
  | x, y :: ys => by
    have e : PySem.W.minOf x (y :: ys) = PySem.W.minOf (if y < x then y else x) ys := by
      unfold PySem.W.minOf
      rw [List.foldl_cons]
      show List.foldl _ (if decide (y < x) = true then y else x) ys = _
      simp only [decide_eq_true_eq]
    obtain ⟨h1, h2⟩ := minOf_mem (if y < x then y else x) ys
    rw [e]
    refine ⟨?_, fun z hz => ?_⟩
    · rcases List.mem_cons.mp h1 with h | h
      · rw [h]; split <;> simp
      · simp [h]
    · have h0 := h2 _ (List.mem_cons_self ..)
      rcases List.mem_cons.mp hz with hz | hz
      · subst hz
        by_cases q : y < z
        · rw [if_pos q] at h0 ⊢; omega
        · rw [if_neg q] at h0 ⊢; omega
      · rcases List.mem_cons.mp hz with hz | hz
        · subst hz
          by_cases q : z < x
          · rw [if_pos q] at h0 ⊢; omega
          · rw [if_neg q] at h0 ⊢; omega
        · exact h2 z (List.mem_cons_of_mem _ hz)
def rMaxT (K : PySem.W.Frag) : List V → Hp → VK → Prop := fun vs H Q => ∃ (a : Addr) (ns : List Int), vs = [V.ref a] ∧ SqT K H a (ns.map V.int) ∧ 0 < ns.length ∧ ∀ m, m ∈ ns → (∀ y, y ∈ ns → y ≤ m) → Q (.int m) H
def rMinT (K : PySem.W.Frag) : List V → Hp → VK → Prop := fun vs H Q => ∃ (a : Addr) (ns : List Int), vs = [V.ref a] ∧ SqT K H a (ns.map V.int) ∧ 0 < ns.length ∧ ∀ m, m ∈ ns → (∀ y, y ∈ ns → m ≤ y) → Q (.int m) H
theorem readAll_ints (h : Heap) : ∀ {vs : List Value} {xs : List Int}, IntsAre vs xs → ∃ as, PySem.ReadsAll h vs (xs.map PyData.int) as := fun {vs xs} r => ⟨_, IntsAre.reads _ r⟩
theorem cr_maxT (hc : X.calm = true) (hu : X.A.units + 64 < cLine) : CallR X (.builtin "max") (rMaxT X.K) := by
  intro pins s σ H vs us Q I r h
  obtain ⟨a, ns, rfl, hs, hne, q⟩ := h
  obtain ⟨its, rv, ht, _⟩ := I.tuple hs
  rw [Vals.ref1 r]
  cases ns with
  | nil => cases hne
  | cons n0 ns =>
    have hdep : X.A.units + 1 + PySem.W.Datum.depth Int ≤ X.A.units + 64 := by
      have : PySem.W.Datum.depth Int ≤ 63 := by decide
      omega
    have hH : PySem.W.HoldAll s.heap its.toArray.toList (n0 :: ns) := readAll_ints s.heap (by simpa using rv.ints)
    refine PySem.W.max_tuple_datum (α := Int) (I.ok.hd hc) ht hH (Nat.lt_of_le_of_lt hdep hu) fun i v h' tk hi hh hk => ?_
    obtain ⟨bs, rr⟩ := hh
    obtain ⟨t, rfl⟩ : ∃ t, v = Value.int (PySem.W.maxOf n0 ns) t := by
      cases (show PySem.Reads h' v (.int (PySem.W.maxOf n0 ns)) bs from rr) with
      | int i t => exact ⟨t, rfl⟩
    obtain ⟨m1, m2⟩ := maxOf_mem n0 ns
    exact ⟨.int _, H, I.kept hk, ⟨_, rfl⟩, q _ m1 m2⟩
theorem cr_minT (hc : X.calm = true) (hu : X.A.units + 64 < cLine) : CallR X (.builtin "min") (rMinT X.K) := by
  intro pins s σ H vs us Q I r h
  obtain ⟨a, ns, rfl, hs, hne, q⟩ := h
  obtain ⟨its, rv, ht, _⟩ := I.tuple hs
  rw [Vals.ref1 r]
  cases ns with
  | nil => cases hne
  | cons n0 ns =>
    have hdep : X.A.units + 1 + PySem.W.Datum.depth Int ≤ X.A.units + 64 := by
      have : PySem.W.Datum.depth Int ≤ 63 := by decide
      omega
    have hH : PySem.W.HoldAll s.heap its.toArray.toList (n0 :: ns) := readAll_ints s.heap (by simpa using rv.ints)
    refine PySem.W.min_tuple_datum (α := Int) (I.ok.hd hc) ht hH (Nat.lt_of_le_of_lt hdep hu) fun i v h' tk hi hh hk => ?_
    obtain ⟨bs, rr⟩ := hh
    obtain ⟨t, rfl⟩ : ∃ t, v = Value.int (PySem.W.minOf n0 ns) t := by
      cases (show PySem.Reads h' v (.int (PySem.W.minOf n0 ns)) bs from rr) with
      | int i t => exact ⟨t, rfl⟩
    obtain ⟨m1, m2⟩ := minOf_mem n0 ns
    exact ⟨.int _, H, I.kept hk, ⟨_, rfl⟩, q _ m1 m2⟩

/-! ### t[:0:-1] -/
theorem sliceApplied_back {prog : Program} {w : World} {A : Around} {E : Value → Shared → Prop} {s : Shared} {sl : Addr} {t u : Tok} {n : Nat} {Q : Int × Int × Nat → Shared → Prop} (hs : s.heap.IsSliceOf sl .none (.int 0 t) (.int (-1) u))
    (h : Q (((n : Int) - 1), -1, n - 1) s) : wpAny (model prog w) A (Builtin.Slice.sliceApplied (.ref sl) (pure (n : Int))) Q E s := by
  obtain ⟨os, hos, hcs, hds⟩ := id hs
  unfold Builtin.Slice.sliceApplied Builtin.Slice.sliceFields
  refine wpAny_bind (wpAny_bind (wpAny_field hos hds (x := .none) rfl (wpAny_bind (wpAny_field hos hds (x := .int 0 t) rfl (wpAny_bind (wpAny_field hos hds (x := .int (-1) u) rfl (wpAny_pure ?_)))))))
  refine wpAny_bind (slicePart_int ?_)
  show wpAny _ _ (if ((-1 : Int) == 0) = true then _ else _) _ _ s
  rw [if_neg (by decide)]
  refine wpAny_bind (slicePart_none (wpAny_bind (slicePart_int (wpAny_bind (wpAny_pure ?_)))))
  show wpAny _ _ (match Builtin.Slice.sliceAdjust none (some 0) (-1) (n : Int) with | (lo, hi) => pure (lo, (-1 : Int), Builtin.Slice.slicePlaces lo hi (-1))) _ _ s
  have e : Builtin.Slice.sliceAdjust none (some 0) (-1) (n : Int) = ((n : Int) - 1, min 0 ((n : Int) - 1)) := by
    unfold Builtin.Slice.sliceAdjust
    simp
  rw [e]
  show wpAny _ _ (pure (((n : Int) - 1), (-1 : Int), Builtin.Slice.slicePlaces ((n : Int) - 1) (min 0 ((n : Int) - 1)) (-1))) _ _ s
  have e2 : Builtin.Slice.slicePlaces ((n : Int) - 1) (min 0 ((n : Int) - 1)) (-1) = n - 1 := by
    unfold Builtin.Slice.slicePlaces
    simp only [show ¬ ((-1 : Int) > 0) by omega, if_false, show (- -1 : Int) = 1 by omega, Int.ediv_one]
    split <;> omega
  rw [e2]
  exact wpAny_pure h
theorem fm_congr {α β : Type} {f g : α → Option β} : ∀ l : List α, (∀ x ∈ l, f x = g x) → l.filterMap f = l.filterMap g
  | [], _ => rfl
  | x :: l, h => by
    rw [List.filterMap_cons, List.filterMap_cons, h x (List.mem_cons_self ..), fm_congr l fun y hy => h y (List.mem_cons_of_mem _ hy)]
theorem pick_back (xs : Array Value) : ((List.range (xs.size - 1)).filterMap fun (m : Nat) => xs[(((xs.size : Int) - 1) + (m : Int) * (-1)).toNat]?).toArray = (xs.toList.drop 1).reverse.toArray := by
  congr 1
  have e : (List.range (xs.size - 1)).filterMap (fun (m : Nat) => xs[(((xs.size : Int) - 1) + (m : Int) * (-1)).toNat]?) = (List.range (xs.size - 1)).map fun m => xs.toList.getD (xs.size - 1 - m) .none := by
    rw [← List.filterMap_eq_map]
    refine fm_congr _ fun m hm => ?_
    have := List.mem_range.mp hm
    have h1 : (((xs.size : Int) - 1) + (m : Int) * (-1)).toNat = xs.size - 1 - m := by omega
    rw [h1]
    show xs[xs.size - 1 - m]? = some (xs.toList.getD (xs.size - 1 - m) .none)
    have h2 : xs.size - 1 - m < xs.size := by omega
    rw [Array.getElem?_eq_getElem h2, List.getD_eq_getElem?_getD, List.getElem?_eq_getElem (by simpa using h2)]
    simp
  rw [e]
  apply List.ext_getElem
  · simp
  · intro i h1 h2
    simp only [List.length_map, List.length_range] at h1
    rw [List.getElem_map, List.getElem_range, List.getElem_reverse, List.getElem_drop, List.getD_eq_getElem?_getD, List.getElem?_eq_getElem (by simp; omega)]
    simp only [Option.getD_some, List.length_drop, Array.length_toList]
    congr 1
    omega
theorem getItem_tuple_back {prog : Program} {w : World} {A : Around} {E : Value → Shared → Prop} {s : Shared} {t sl : Addr} {items : Array Value} {t0 u : Tok} {Q : Value → Shared → Prop} (ht : IsTup s.heap t items) (hs : s.heap.IsSliceOf sl .none (.int 0 t0) (.int (-1) u))
    (h : Q (.ref s.heap.objs.size) { s with heap := s.heap.push { cls := .type "tuple", data := .seq (items.toList.drop 1).reverse.toArray } })
    (hsz : items.size ≤ sizeLine) : wpAny (model prog w) A (getItem (.ref t) (.ref sl)) Q E s := by
  have htake : sizeOk (.seq (items.toList.drop 1).reverse.toArray) := by
    show (items.toList.drop 1).reverse.toArray.size ≤ sizeLine
    rw [List.size_toArray, List.length_reverse, List.length_drop, Array.length_toList]
    omega
  obtain ⟨os, hos, hcs, hds⟩ := id hs
  have hTs : s.TypeIs (.ref sl) "slice" := ⟨os, hos, hcs⟩
  unfold getItem
  try with_reducible refine wpAny_holding ?_
  first | refine wpAny_bind (wpAny_pure ?_) | skip
  refine wpAny_bind (wpAny_sequenceKey ht.typeIs (by decide) ?_)
  refine wpAny_bind (wpAny_callSpecial?_slot (name := Str.ofString "__getitem__") ht.typeIs PyProof.Rows.slot_tuple_getitem
    (wpAny_call_entry PyProof.Rows.slot_tuple_getitem ht.typeIs entry_tuple_getitem ?_ (args_tuple_getitem _ _)))
  show wpAny _ _ (Builtin.Tuple.tupleItemsOf (.ref t) >>= _) _ _ s
  refine wpAny_bind (tupleItemsOf_ ht ?_)
  refine wpAny_bind (wpAny_typeOf hTs ?_)
  rw [if_pos (by decide)]
  refine wpAny_bind (sliceApplied_back hs ?_)
  show wpAny _ _ (if ((((items.size : Int) - 1) == 0) && (-1 : Int) == 1 && (items.size - 1) == items.size) = true then _ else _) _ _ s
  rw [if_neg (by simp), pick_back]
  first
    | exact wpAny_bind (m := Builtin.Tuple.tupleExact _) (wpAny_newObj_type (wpAny_pure ⟨_, rfl, wpAny_pure h⟩) htake)
    | exact wpAny_bind (m := Builtin.Tuple.tupleExact _) (wpAny_newObj_type (wpAny_bind (wpAny_pure (wpAny_pure ⟨_, rfl, wpAny_pure h⟩))) htake)
    | exact wpAny_bind (wpAny_bind (m := Builtin.Tuple.tupleExact _) (wpAny_newObj_type (wpAny_pure (wpAny_pure ⟨_, rfl, wpAny_pure h⟩)) htake))
    | exact wpAny_bind (wpAny_bind (m := Builtin.Tuple.tupleExact _) (wpAny_newObj_type (wpAny_pure ⟨_, rfl, wpAny_pure h⟩) htake))
def tRevT (K : PySem.W.Frag) (te : TE) : TE := fun σ H Q => te σ H fun x H1 => ∃ a xs, x = .ref a ∧ SqT K H1 a xs ∧ ∀ p, H1 p = none → Q (.ref p) (upd H1 p (.tup (xs.drop 1).reverse))
theorem pe_revT {e : Expr} {te : TE} {k k2 : Nat} {p0 p1 p2 p3 pos : Pos} (he : PE X e te) : PE X (.Subscript e (.Slice none (some (.Constant (.int 0) k2 p0)) (some (.UnaryOp .USub (.Constant (.int 1) k p1) p2)) p3) pos) (tRevT X.K te) := by
  refine ⟨fun pins s σ H Q I h => ?_⟩
  refine Subscript_ (thn (he.run pins s σ H _ I h) fun v s1 ⟨x, H1, I1, r1, q1⟩ => ?_)
  obtain ⟨a, xs, ex, hx, q⟩ := q1
  subst ex
  cases r1
  have hst : PO X (some (.UnaryOp .USub (.Constant (.int 1) k p1) p2)) (tPart (tUn (rU fun i => .int (-i)) (tC (.int 1)))) := po_some (pe_un un_neg pe_int)
  have hup : PO X (some (.Constant (.int 0) k2 p0)) (tPart (tC (.int 0))) := po_some pe_int
  refine wpAny_Slice (thn (po_none.run pins s1 σ H1 (fun o H2 => o = none ∧ H2 = H1) I1 ⟨rfl, rfl⟩) fun vl s2 ⟨l, H2, I2, pl, el, e2⟩ => ?_)
  subst el e2
  refine thn (hup.run pins s2 σ H2 (fun o H3 => o = some 0 ∧ H3 = H2) I2 ⟨0, rfl, rfl, rfl⟩) fun vu s3 ⟨u, H3, I3, pu, eu, e3⟩ => ?_
  subst eu e3
  refine thn (hst.run pins s3 σ H3 (fun o H4 => o = some (-1) ∧ H4 = H3) I3 ⟨1, rfl, -1, rfl, rfl, rfl⟩) fun vs s4 ⟨o, H4, I4, ps, eo, e4⟩ => ?_
  subst eo e4
  cases pl
  obtain ⟨t0, rfl⟩ : ∃ t, vu = Value.int 0 t := by cases pu with | int i t => exact ⟨t, rfl⟩
  obtain ⟨t1, rfl⟩ : ∃ t, vs = Value.int (-1) t := by cases ps with | int i t => exact ⟨t, rfl⟩
  have I5 : Inv X pins σ H4 { s4 with heap := s4.heap.push { cls := .type "slice", data := .fields #[.none, .int 0 t0, .int (-1) t1] } } := I4.kept (t' := s4.toks) fun b ob q => Heap.get?_push_of_some _ q
  obtain ⟨its, r, ht, hz⟩ := I5.tuple hx
  have hlen := r.length
  show wpAny (model X.prog X.w) X.A (subscriptTail e (.Slice none (some (.Constant (.int 0) k2 p0)) (some (.UnaryOp .USub (.Constant (.int 1) k p1) p2)) p3) (.ref a) (.ref s4.heap.objs.size)) (EP X pins σ Q) X.xe { s4 with heap := s4.heap.push { cls := .type "slice", data := .fields #[.none, .int 0 t0, .int (-1) t1] } }
  refine tail_any (ops := [.ref a, .ref s4.heap.objs.size]) ht.typeIs PyProof.Rows.slot_tuple_getitem.lookup ?_ (by with_unfolding_all rfl)
  refine getItem_tuple_back ht (Heap.IsSliceOf.new _ _ _ _) ?_ (by rw [List.size_toArray]; omega)
  refine ⟨.ref _, _, I5.laid (t' := s4.toks) (o := .tup (xs.drop 1).reverse) (fun b ob q => Heap.get?_push_of_some _ q) (Nat.le_refl _) ?_, rfl, q _ (I5.hok.fresh (Nat.le_refl _))⟩
  refine ⟨by rw [List.length_reverse, List.length_drop]; omega, _, (r.drop 1).reverse, IsTup.new _ _⟩
end
theorem ne_bind (self : Value) : bindSpecial (.builtin "object.__ne__") self = pure (.builtin "object.__ne__", [self]) :=
  (Slot.of (T := "object") (name := "__ne__") (owner := "object") (n := "__ne__") (by rw [typeLookup_type, builtinLookup_eq_fast]; kernel_rfl) (by decide +kernel) (by decide +kernel) (by decide +kernel)
    (.inl (by decide +kernel)) (by rw [isSubtype_type]; kernel_rfl)).bind self
theorem ne_plain : plainId "object.__ne__" = true := by decide +kernel
section
variable {prog : Program} {w : World} {A : Around} {E : Value → Shared → Prop} {s : Shared} {K : PySem.W.Frag} {x C L f : Addr} {h₀ : Heap} {m : Str → Option Value} {ox : Obj} {od : Option Obj} {b tb : Value}
theorem ne_body (hu : A.units < cLine) (X : K.In s.heap) (I : PySem.W.InstAt s.heap x ox C od) (hs : PySem.W.findIn K (.ref C) "__eq__" = some (some (.ref f))) (hf : PySem.W.isFn K (.ref f) = true) {Q : Fin → Shared → Prop}
    (hcall : wpAny (model prog w) A (call (.ref f) [.ref x, b]) (fun v s' => ∃ k, v = .bool k ∧ Q (.done (.ret (.bool (!k)))) s') E s) :
    wpAny (model prog w) A (Builtin.«object.__ne__» ⟨[.ref x, b], []⟩) Q E s := by
  unfold Builtin.«object.__ne__»
  repeat (first
    | with_reducible refine wpAny_cRoomFor hu ?_
    | (refine wpAny_bind (m := callSpecialIfBound? (.ref x) (Str.ofString "__eq__") [b])
        (PySem.W.ifBound_K X I hs hf (wpAny_mono hcall (fun r s' hr => by
          obtain ⟨b, rfl, hq⟩ := hr
          repeat (first | exact hq | exact wpAny_pure hq | exact wpAny_truthy_bool hq | (refine wpAny_bind (m := truthy (.bool _)) (wpAny_truthy_bool ?_)) | wp_step)) fun _ _ e => e)))
    | wp_step)
theorem ne_K {Q : Value → Shared → Prop} (hu : A.units + 1 < cLine) (F : Fr h₀ L s.heap m) (X₀ : K.In h₀) (I : PySem.W.InstAt s.heap x ox C od) (hb : PySem.W.Looks (model prog w) s.heap (typeOf b) tb) (hn : PySem.W.notFirst K C tb = true)
    (hne : PySem.W.findIn K (.ref C) "__ne__" = some (some (.builtin "object.__ne__"))) (ho : PySem.W.mroIn K C (.type "object") = some true) (hs : PySem.W.findIn K (.ref C) "__eq__" = some (some (.ref f))) (hf : PySem.W.isFn K (.ref f) = true)
    (h : wpAny (model prog w) A.in1 (call (.ref f) [.ref x, b]) (fun v s' => ∃ k, v = .bool k ∧ Q (.bool (!k)) s') E s) : wpAny (model prog w) A (richCompare .NotEq (.ref x) b) Q E s := by
  have X := X₀.keeps F.keep
  have isO : PySem.W.Looks (model prog w) s.heap (isInstance (.ref x) (.type "object")) true := I.type.andThen (PySem.W.looks_mroIn X ho)
  have nb : wpAny (model prog w) A (call (.builtin "object.__ne__") [.ref x, b]) (fun v s' => ∃ k, v = .bool k ∧ Q (.bool k) s') E s := by
    refine wpAny_call (codeAny_call_builtin ne_plain PySem.F.cmpEntry_ne (PySem.W.check_slot PySem.F.cmpKind_ne PySem.F.cmpSplit_ne isO (PySem.F.cmpArgs_ne _ _) (ne_body hu X I hs hf (wpAny_mono h (fun v s' hv => ?_) fun _ _ e => e))))
    obtain ⟨k, rfl, hq⟩ := hv
    exact ⟨k, rfl, ⟨_, rfl, hq⟩⟩
  have one : wpAny (model prog w) A (tryCompare (.ref x) (cmpInfo .NotEq).2.1 b) (fun r s' => ∃ v, r = some v ∧ Q v s') E s := by
    unfold tryCompare
    refine wpAny_bind ?_
    simp only [callSpecialIfBound?, bindSpecialIfBound?]
    refine wpAny_holding (wpAny_bind (wpAny_bind (wpAny_bind (I.type.here ((PySem.W.looks_findIn X hne).here ?_)))))
    simp only [ne_bind]
    refine wpAny_bind (wpAny_askSetting (wpAny_ite ?_))
    have fin : wpAny (model prog w) A (call (.builtin "object.__ne__") ([.ref x] ++ [b]) >>= fun v => pure (some v)) (fun r s' => wpAny (model prog w) A (match r with | some .notImplemented | none => pure none | some v => pure (some v)) (fun r s' => ∃ v, r = some v ∧ Q v s') E s') E s := wpAny_bind (wpAny_mono nb (fun v s' hv => by
      obtain ⟨k, rfl, hq⟩ := hv
      exact wpAny_pure (wpAny_pure ⟨_, rfl, hq⟩)) fun _ _ h' => h')
    split
    · exact wpAny_bind (wpAny_pure (wpAny_pure fin))
    · exact wpAny_tryCatch (wpAny_bind (wpAny_pure (wpAny_pure fin)))
  unfold richCompare
  simp only [oneThing_ref]
  refine wpAny_holding (wpAny_bind (wpAny_cRoomFor (Nat.lt_of_succ_lt hu) ?_))
  refine wpAny_bind (I.type.here (wpAny_bind (hb.here ?_)))
  split
  · rename_i q
    have e : PySem.W.subIn K tb (.ref C) = some false := by
      rcases Bool.or_eq_true_iff.mp hn with e | e
      · rw [beq_iff_eq.mp e] at q; simp at q
      · exact beq_iff_eq.mp e
    refine wpAny_bind ((PySem.W.looks_subIn X e).here ?_)
    simp only [Bool.false_eq_true, if_false]
    refine wpAny_bind (wpAny_mono one (fun r s' z => ?_) fun _ _ e => e)
    obtain ⟨v, rfl, hq⟩ := z
    exact wpAny_pure hq
  · refine wpAny_bind (wpAny_pure ?_)
    simp only [Bool.false_eq_true, if_false]
    refine wpAny_bind (wpAny_mono one (fun r s' z => ?_) fun _ _ e => e)
    obtain ⟨v, rfl, hq⟩ := z
    exact wpAny_pure hq
end
/-! ### own + what is no own object -/
theorem noAddAt_ok {K : PySem.W.Frag} {c : Value} (h : noAddAt K c = true) : PySem.W.findIn K c (PySem.dunder "add") = some none ∧ PySem.W.findIn K c (dunderR "add") = some none := by
  obtain ⟨h1, h2⟩ := Bool.and_eq_true_iff.mp h
  constructor
  · show PySem.W.findIn K c "__add__" = some none
    revert h1
    cases PySem.W.findIn K c "__add__" with
    | none => intro z; cases z
    | some o => cases o with
      | none => intro _; rfl
      | some v => intro z; cases z
  · show PySem.W.findIn K c "__radd__" = some none
    revert h2
    cases PySem.W.findIn K c "__radd__" with
    | none => intro z; cases z
    | some o => cases o with
      | none => intro _; rfl
      | some v => intro z; cases z
section
variable {prog : Program} {w : World} {M : Model} {A : Around} {E : Value → Shared → Prop} {s : Shared} {K : PySem.W.Frag} {x C L f a : Addr} {h₀ : Heap} {m : Str → Option Value} {ox : Obj} {od : Option Obj} {b tb : Value}
theorem fills_any {h : Heap} (X : K.In h) {g : Value → Sem Bool} (hg : ∀ c, noAddAt K c = true → PySem.W.Looks M h (g c) false) : ∀ {l : List Value}, l.all (noAddAt K) = true → PySem.W.Looks M h (l.anyM g) false
  | [], _ => .now
  | c :: l, e => by
    obtain ⟨e1, e2⟩ := Bool.and_eq_true_iff.mp (List.all_cons ▸ e)
    rw [List.anyM_cons]
    exact (hg c e1).andThen (fills_any X hg e2)
theorem fills_no {h : Heap} (X : K.In h) (hn : noAdd K a = true) : PySem.W.Looks M h (fillsNumberSlot (.ref a) "add") false := by
  unfold noAdd at hn
  cases hc : PySem.W.clsIn K a with
  | none => rw [hc] at hn; cases hn
  | some cd =>
    rw [hc] at hn
    unfold fillsNumberSlot
    refine ((PySem.W.looks_clsIn X hc).andThen (f := fun cd => pure cd.mro) .now).andThen ?_
    refine fills_any X (fun c hc2 => ?_) hn
    obtain ⟨f1, f2⟩ := noAddAt_ok hc2
    have l1 := PySem.W.looks_findIn (M := M) X f1
    have l2 := PySem.W.looks_findIn (M := M) X f2
    cases c with
    | type n => exact l1.andThen (l2.andThen .now)
    | _ =>
      show PySem.W.Looks M h (List.anyM _ [PySem.dunder "add", dunderR "add"]) false
      rw [List.anyM_cons, List.anyM_cons]
      refine PySem.W.Looks.andThen (a := false) (l1.andThen .now) ?_
      refine PySem.W.Looks.andThen (a := false) (l2.andThen .now) ?_
      exact .now
theorem addN_K {right : Bool} {Q : Value → Shared → Prop} (F : Fr h₀ L s.heap m) (X₀ : K.In h₀) (I : PySem.W.InstAt s.heap x ox C od) (hb : PySem.W.Looks (model prog w) s.heap (typeOf b) tb) (hne : (Value.ref C == tb) = false) (hc : PySem.W.selfFirst K C = true)
    (hs : PySem.W.findIn K (.ref C) "__add__" = some (some (.ref f))) (hf : PySem.W.isFn K (.ref f) = true) (hr : PySem.W.findIn K (.ref C) "__radd__" = some none) (h1 : PySem.W.Looks (model prog w) s.heap (fillsNumberSlot tb "add") right)
    (h2 : right = true → ∃ T ro, tb = .type T ∧ PySem.W.findIn K (.type T) (dunderR "add") = some ro ∧ PySem.W.subIn K (.type T) (.ref C) = some false)
    (h : wpAny (model prog w) A (call (.ref f) [.ref x, b]) (PySem.W.CmpBack Q) E s) : wpAny (model prog w) A (binaryOp .Add (.ref x) b) Q E s := by
  have X := X₀.keeps F.keep
  obtain ⟨cd, rest, hcd, hm⟩ := PySem.W.ksp_first hc
  have one := PySem.W.ksp_try X I hs hf h
  obtain ⟨hh, g, d, tt, os⟩ := s
  have L1 : PySem.W.Looks (model prog w) hh (typeOf (.ref x)) (.ref C) := I.type
  have L3 : PySem.W.Looks (model prog w) hh (fillsNumberSlot (.ref C) "add") true := PySem.W.fills_K (nm := "add") X hcd hm hs
  have L6 : PySem.W.Looks (model prog w) hh (numberSlotInPython (.ref C) "add") true := PySem.W.ksp_inPy (nm := "add") X hs hr (.inl rfl)
  simp only [binaryOp, Operator.info]
  refine wpAny_holding (wpAny_bind ?_)
  unfold binaryOp1
  refine wpAny_bind (L1.at (wpAny_bind (hb.at (wpAny_bind (L3.at ?_)))))
  simp only [hne, Bool.false_eq_true, if_false]
  cases right with
  | false =>
    ksp_lk
    refine wpAny_mono one (fun r s' hr' => ?_) fun _ _ e => e
    obtain ⟨v, rfl, hq⟩ := hr'
    ksp_lk
    exact hq
  | true =>
    obtain ⟨T, ro, rfl, hro, hsub⟩ := h2 rfl
    have L5 : PySem.W.Looks (model prog w) hh (isSubtype (.type T) (.ref C)) false := PySem.W.looks_subIn X hsub
    have L7 : PySem.W.Looks (model prog w) hh (numberSlotInPython (.type T) "add") false := PySem.W.Looks.of_pure rfl
    have L8 : PySem.W.Looks (model prog w) hh (typeLookup (.type T) (dunderR "add")) ro := PySem.W.looks_findIn X hro
    ksp_lk
    refine wpAny_mono one (fun r s' hr' => ?_) fun _ _ e => e
    obtain ⟨v, rfl, hq⟩ := hr'
    ksp_lk
    exact hq
end
theorem plain_add : ∀ t ∈ ["NoneType", "bool", "int", "str", "tuple", "list", "dict"], ∃ fo ro, fastLookup t (PySem.dunder "add") = some fo ∧ fastLookup t (dunderR "add") = some ro := fun t ht => by
  have k : ∀ t ∈ ["NoneType", "bool", "int", "str", "tuple", "list", "dict"], (fastLookup t (PySem.dunder "add")).isSome = true ∧ (fastLookup t (dunderR "add")).isSome = true := by decide +kernel
  obtain ⟨h1, h2⟩ := k t ht
  obtain ⟨fo, e1⟩ := Option.isSome_iff_exists.mp h1
  obtain ⟨ro, e2⟩ := Option.isSome_iff_exists.mp h2
  exact ⟨fo, ro, e1, e2⟩
section
variable {prog : Program} {w : World} {M : Model} {A : Around} {E : Value → Shared → Prop} {s : Shared} {K : PySem.W.Frag} {x C L f a : Addr} {h₀ : Heap} {m : Str → Option Value} {ox : Obj} {od : Option Obj} {b tb : Value}
theorem iadd_any {h : Heap} {p : Value → Bool} {g : Value → Sem Bool} (hg : ∀ c, p c = true → PySem.W.Looks M h (g c) false) : ∀ {l : List Value}, l.all p = true → PySem.W.Looks M h (l.anyM g) false
  | [], _ => .now
  | c :: l, e => by
    obtain ⟨e1, e2⟩ := Bool.and_eq_true_iff.mp (List.all_cons ▸ e)
    rw [List.anyM_cons]
    exact (hg c e1).andThen (iadd_any hg e2)
theorem inpl_no {h : Heap} (X : K.In h) (hn : noIadd K a = true) : PySem.W.Looks M h (fillsInplaceSlot (.ref a) "add" true) false := by
  unfold noIadd at hn
  cases hc : PySem.W.clsIn K a with
  | none => rw [hc] at hn; cases hn
  | some cd =>
    rw [hc] at hn
    unfold fillsInplaceSlot
    refine ((PySem.W.looks_clsIn X hc).andThen (f := fun cd => pure cd.mro) .now).andThen ?_
    refine iadd_any (fun c hc2 => ?_) hn
    have f1 : PySem.W.findIn K c (dunderI "add") = some none := by
      show PySem.W.findIn K c "__iadd__" = some none
      revert hc2
      cases PySem.W.findIn K c "__iadd__" with
      | none => intro z; cases z
      | some o => cases o with
        | none => intro _; rfl
        | some v => intro z; cases z
    have l1 := PySem.W.looks_findIn (M := M) X f1
    exact l1.andThen .now
theorem augA_K {Q : Value → Shared → Prop} (F : Fr h₀ L s.heap m) (X₀ : K.In h₀) (I : PySem.W.InstAt s.heap x ox C od) (hb : PySem.W.Looks (model prog w) s.heap (typeOf b) (.ref C)) (hc : PySem.W.selfFirst K C = true)
    (hs : PySem.W.findIn K (.ref C) "__add__" = some (some (.ref f))) (hf : PySem.W.isFn K (.ref f) = true) (hi : noIadd K C = true)
    (h : wpAny (model prog w) A (call (.ref f) [.ref x, b]) (PySem.W.CmpBack Q) E s) : wpAny (model prog w) A (inplaceOp .Add (.ref x) b) Q E s := by
  have X := X₀.keeps F.keep
  obtain ⟨cd, rest, hcd, hm⟩ := PySem.W.ksp_first hc
  have one := PySem.W.ksp_try X I hs hf h
  obtain ⟨hh, g, d, tt, os⟩ := s
  have L1 : PySem.W.Looks (model prog w) hh (typeOf (.ref x)) (.ref C) := I.type
  have L2 : PySem.W.Looks (model prog w) hh (fillsInplaceSlot (.ref C) "add" true) false := inpl_no X hi
  have L3 : PySem.W.Looks (model prog w) hh (fillsNumberSlot (.ref C) "add") true := PySem.W.fills_K (nm := "add") X hcd hm hs
  unfold inplaceOp
  refine wpAny_holding ?_
  refine wpAny_bind (L1.at ?_)
  refine wpAny_bind (L2.at ?_)
  simp only [Bool.false_eq_true, if_false]
  refine wpAny_bind ?_
  show wpAny (model prog w) A (binaryOp1 "add" (.ref x) b) _ E _
  unfold binaryOp1
  refine wpAny_bind (L1.at (wpAny_bind (hb.at (wpAny_bind (L3.at ?_)))))
  simp only [beq_self_eq_true, if_true]
  ksp_lk
  refine wpAny_mono one (fun r s' hr' => ?_) fun _ _ e => e
  obtain ⟨v, rfl, hq⟩ := hr'
  ksp_lk
  exact hq
end
end Zk

namespace Zk
open PySem PySem.Spec PyProof.Rows L2

/-- comparisons give a truth alone -/
theorem eqP_to {x y : W} {st : Sto} {Q Q' : Bool → Prop} (h : ∀ b, Q b → Q' b) : eqP x y st Q → eqP x y st Q'
  | .inl ⟨i, j, a, b, q⟩ => .inl ⟨i, j, a, b, h _ q⟩
  | .inr (.inl ⟨i, j, a, b, q⟩) => .inr (.inl ⟨i, j, a, b, h _ q⟩)
  | .inr (.inr ⟨d, e, a, b, c, f, q⟩) => .inr (.inr ⟨d, e, a, b, c, f, h _ q⟩)
section
variable {X : Cx}
def Roomy (X : Cx) : Prop := X.A.units + 100 < cLine ∧ X.A.guards = some []
theorem Roomy.u64 (h : Roomy X) : X.A.units + 64 < cLine := Nat.lt_of_le_of_lt (Nat.add_le_add_left (by decide) _) h.1
theorem Roomy.u65 (h : Roomy X) : X.A.units + 65 < cLine := Nat.lt_of_le_of_lt (Nat.add_le_add_left (by decide) _) h.1
theorem Roomy.u0 (h : Roomy X) : X.A.units < cLine := Nat.lt_of_le_of_lt (Nat.le_add_right _ _) h.1
theorem Roomy.u1 (h : Roomy X) : X.A.units + 1 < cLine := Nat.lt_of_le_of_lt (Nat.add_le_add_left (by decide) _) h.1
def opOf : Co → CmpOp
  | .eq => .Eq | .ne => .NotEq | .lt => .Lt | .le => .LtE | .gt => .Gt | .ge => .GtE | .inS => .In | .niS => .NotIn | .inD => .In | .niD => .NotIn
/-- the reading of a comparison: c -/
def r2c (K : PySem.W.Frag) (op : Co) : R2 := fun x y H Q' => ∃ ω a b st, ∃ Q : Bool → Prop, StR K ω st H ∧ Rel K ω a x ∧ Rel K ω b y ∧ cmpP op a b st Q ∧ ∀ k, Q k → Q' (.bl k) H
theorem flatW_ok {K : PySem.W.Frag} {ω : Wd} {w : W} {v : V} (r : Rel K ω w v) (h : flatW w = true) : flatV v = true := by
  cases r <;> first | rfl | (simp only [flatW] at h; cases h)
theorem eqW_ok {K : PySem.W.Frag} {ω : Wd} {w u : W} {v y : V} (r : Rel K ω w v) (q : Rel K ω u y) (h : flatW w = true) (g : flatW u = true) : eqV v y = eqW w u := by
  cases r <;> cases q <;> first | rfl | (simp only [flatW] at h; cases h) | (simp only [flatW] at g; cases g)
theorem anyW_ok {K : PySem.W.Frag} {ω : Wd} {x : W} {y : V} (q : Rel K ω x y) (g : flatW x = true) : ∀ {l : List W} {vs : List V}, RelL K ω l vs → l.all flatW = true → vs.all flatV = true ∧ inV y vs = l.any fun z => eqW z x
  | _, _, .nil, _ => ⟨rfl, rfl⟩
  | _, _, .cons r t, h => by
    rw [List.all_cons, Bool.and_eq_true] at h
    obtain ⟨a, b⟩ := anyW_ok q g t h.2
    refine ⟨by rw [List.all_cons, flatW_ok r h.1, a]; rfl, ?_⟩
    unfold inV at b ⊢
    rw [List.any_cons, List.any_cons, b, eqW_ok r q h.1 g]
theorem or_eq (hr : Roomy X) : OpR X (compareOp .Eq) (fun x y H Q' => ∃ ω a b st, ∃ Q : Bool → Prop, StR X.K ω st H ∧ Rel X.K ω a x ∧ Rel X.K ω b y ∧ eqP a b st Q ∧ ∀ k, Q k → Q' (.bl k) H) := by
  intro pins s σ H x y v u Q' I rx ry h
  obtain ⟨ω, a, b, st, Q, S, ra, rb, q, k⟩ := h
  rcases q with ⟨i, j, rfl, rfl, q⟩ | ⟨i, j, rfl, rfl, q⟩ | ⟨d, e, e1, e2, s1, s2, q⟩
  · cases ra.int_inv; cases rb.int_inv
    refine op_eq pins s σ H _ _ v u Q' I rx ry ⟨rfl, ?_⟩
    rw [show decide (V.int i = V.int j) = decide (i = j) by simp]
    exact k _ q
  · cases ra.str_inv; cases rb.str_inv
    refine op_eq pins s σ H _ _ v u Q' I rx ry ⟨rfl, ?_⟩
    rw [show decide (V.str i = V.str j) = decide (i = j) by simp]
    exact k _ q
  · exact op_eqD hr.u64 pins s σ H _ _ v u Q' I rx ry ⟨d, e, dat_ok S ra e1, dat_ok S rb e2, s1, s2, k _ q⟩
theorem or_ne (hr : Roomy X) : OpR X (compareOp .NotEq) (fun x y H Q' => ∃ ω a b st, ∃ Q : Bool → Prop, StR X.K ω st H ∧ Rel X.K ω a x ∧ Rel X.K ω b y ∧ eqP a b st (fun b => Q (!b)) ∧ ∀ k, Q k → Q' (.bl k) H) := by
  intro pins s σ H x y v u Q' I rx ry h
  obtain ⟨ω, a, b, st, Q, S, ra, rb, q, k⟩ := h
  rcases q with ⟨i, j, rfl, rfl, q⟩ | ⟨i, j, rfl, rfl, q⟩ | ⟨d, e, e1, e2, s1, s2, q⟩
  · cases ra.int_inv; cases rb.int_inv
    refine op_ne pins s σ H _ _ v u Q' I rx ry ⟨rfl, ?_⟩
    rw [show decide (V.int i = V.int j) = decide (i = j) by simp]
    exact k _ q
  · cases ra.str_inv; cases rb.str_inv
    refine op_ne pins s σ H _ _ v u Q' I rx ry ⟨rfl, ?_⟩
    rw [show decide (V.str i = V.str j) = decide (i = j) by simp]
    exact k _ q
  · exact op_neD hr.u64 pins s σ H _ _ v u Q' I rx ry ⟨d, e, dat_ok S ra e1, dat_ok S rb e2, s1, s2, k _ q⟩
theorem DpL.of {K : PySem.W.Frag} {H : Hp} {y : V} {e : List PyData} (h : Dp K H y (.list e)) : Dp K H y (.list e) := h
/-- all comparisons but those of a dict's keys -/
theorem or_cmp (hr : Roomy X) (op : Co) (h1 : op ≠ .inD) (h2 : op ≠ .niD) : OpR X (compareOp (opOf op)) (r2c X.K op) := by
  intro pins s σ H x y v u Q' I rx ry h
  obtain ⟨ω, a, b, st, Q, S, ra, rb, q, k⟩ := h
  have ord : ∀ (o : CmpOp) (f : Int → Int → Bool), OpR X (compareOp o) (rI0 fun i j => .bl (f i j)) → ordP f a b Q → wpAny (model X.prog X.w) X.A (compareOp o v u) (EP X pins σ Q') X.xe s := fun o f ho q => by
    obtain ⟨i, j, e1, e2, q⟩ := q
    rw [e1] at ra; rw [e2] at rb
    cases ra.int_inv; cases rb.int_inv
    exact ho pins s σ H _ _ v u Q' I rx ry ⟨i, j, rfl, rfl, k _ q⟩
  cases op with
  | eq => exact or_eq hr pins s σ H x y v u Q' I rx ry ⟨ω, a, b, st, Q, S, ra, rb, q, k⟩
  | ne => exact or_ne hr pins s σ H x y v u Q' I rx ry ⟨ω, a, b, st, Q, S, ra, rb, q, k⟩
  | lt =>
    rcases q with q | ⟨l1, l2, ns, ms, rfl, rfl, e1, e2, q⟩
    · exact ord _ _ op_lt q
    · cases intsOf_eq e1
      cases intsOf_eq e2
      cases ra with
      | tup s1 r1 =>
        cases rb with
        | tup s2 r2 =>
          cases r1.ints_inv
          cases r2.ints_inv
          exact op_ltT hr.u0 pins s σ H _ _ v u Q' I rx ry ⟨_, _, ns, ms, rfl, rfl, S.tup s1, S.tup s2, k _ q⟩
  | le =>
    rcases q with q | ⟨l1, l2, ns, ms, rfl, rfl, e1, e2, q⟩
    · exact ord _ _ op_le q
    · cases intsOf_eq e1
      cases intsOf_eq e2
      cases ra with
      | tup s1 r1 =>
        cases rb with
        | tup s2 r2 =>
          cases r1.ints_inv
          cases r2.ints_inv
          exact op_leT hr.u0 pins s σ H _ _ v u Q' I rx ry ⟨_, _, ns, ms, rfl, rfl, S.tup s1, S.tup s2, k _ q⟩
  | gt => exact ord _ _ op_gt q
  | ge => exact ord _ _ op_ge q
  | inS =>
    rcases q with ⟨l, e, f1, f2, q⟩ | ⟨d, e, e1, e0, e2, s1, s2, q⟩
    · obtain ⟨p, vs, rfl, hs, r⟩ := sq_ok S rb e
      obtain ⟨g1, g2⟩ := anyW_ok ra f1 r f2
      exact op_in_seq pins s σ H _ _ v u Q' I rx ry ⟨p, vs, rfl, hs, flatW_ok ra f1, g1, by rw [if_neg (by decide), g2]; exact k _ q⟩
    · exact op_inD hr.u65 pins s σ H _ _ v u Q' I rx ry ⟨d, e, dat_ok S ra e1, dat_ok S rb e2, s1, s2, k _ q⟩
  | niS =>
    rcases q with ⟨l, e, f1, f2, q⟩ | ⟨d, e, e1, e0, e2, s1, s2, q⟩
    · obtain ⟨p, vs, rfl, hs, r⟩ := sq_ok S rb e
      obtain ⟨g1, g2⟩ := anyW_ok ra f1 r f2
      exact op_notIn_seq pins s σ H _ _ v u Q' I rx ry ⟨p, vs, rfl, hs, flatW_ok ra f1, g1, by rw [if_pos rfl, g2]; exact k _ q⟩
    · exact op_notInD hr.u65 pins s σ H _ _ v u Q' I rx ry ⟨d, e, dat_ok S ra e1, dat_ok S rb e2, s1, s2, k _ q⟩
  | inD => exact absurd rfl h1
  | niD => exact absurd rfl h2

/-! ### items and slices -/
theorem ixN_len {n m : Nat} (h : n = m) (i : Int) : ixN n i = ixN m i := by rw [h]
theorem atI_ok {K : PySem.W.Frag} {ω : Wd} {l : List W} {vs : List V} {i : Int} {w : W} (r : RelL K ω l vs) (h : atI l i = some w) : ∃ v, atI vs i = some v ∧ Rel K ω w v := by
  unfold atI at h ⊢
  rw [r.length] at h
  cases q : ixN vs.length i with
  | none => rw [q] at h; cases h
  | some j =>
    rw [q] at h
    exact r.get h
theorem ix_ok : IxR X (r2 X.K ixW) := by
  intro value slice pins s σ H x y v u Q' I rx ry h hs
  obtain ⟨ω, a, b, st, Q, S, ra, rb, q, k⟩ := h
  rcases q with ⟨l, i, w, e, rfl, ha, q⟩ | ⟨z, i, c, rfl, rfl, hz, hc, q⟩
  · obtain ⟨p, vs, rfl, hsq, r⟩ := sq_ok S ra e
    obtain ⟨z, hz, rz⟩ := atI_ok r ha
    cases rb.int_inv
    refine ix_seq value slice pins s σ H _ _ v u Q' I rx ry ?_ hs
    rcases hsq with hsq | hsq
    · exact .inl ⟨p, vs, i, z, rfl, rfl, hsq, hz, k.at S rz q⟩
    · exact .inr (.inl ⟨p, vs, i, z, rfl, rfl, hsq, hz, k.at S rz q⟩)
  · cases ra.str_inv
    cases rb.int_inv
    exact ix_seq value slice pins s σ H _ _ v u Q' I rx ry (.inr (.inr ⟨z, i, c, rfl, rfl, hz, hc, k.at S (.str _) q⟩)) hs
theorem cutX_ok {K : PySem.W.Frag} {ω : Wd} {l : List W} {vs : List V} (r : RelL K ω l vs) (lo hi : Option Int) : RelL K ω (cutX l lo hi) (cutV vs lo hi) := by
  unfold cutX cutV
  rw [r.length]
  exact (r.drop _).take _
theorem sl_ok (m : Bool) : SlR X (fun x lo hi H Q' => ∃ ω a st Q, StR X.K ω st H ∧ Rel X.K ω a x ∧ ((∃ l, ls st a = some l ∧ newL m (cutX l lo hi) st Q) ∨ (∃ ns, a = .scr ns ∧ newL m (cutX (ns.map W.int) lo hi) st Q) ∨ (∃ l, a = .tup l ∧ Q (.tup (cutX l lo hi)) st) ∨ ∃ z, a = .str z ∧ z.length ≤ sizeLine ∧ Q (.str (Txt.slice z lo hi)) st) ∧ KQ X.K ω st H Q Q') := by
  intro pins s σ H x v vl vu lo hi sl Q' I rx hs pl pu h
  obtain ⟨ω, a, st, Q, S, ra, q, k⟩ := h
  rcases q with ⟨l, e, q⟩ | ⟨ns, rfl, q⟩ | ⟨l, rfl, q⟩ | ⟨z, rfl, hz, q⟩
  · obtain ⟨p, vs, rfl, h1, r⟩ := ls_ok S ra e
    exact sl_list pins s σ H _ v vl vu lo hi sl Q' I rx hs pl pu ⟨p, vs, rfl, .inl h1, (k.newL S (cutX_ok r lo hi) q).2⟩
  · cases ra with
    | scr s1 => exact sl_list pins s σ H _ v vl vu lo hi sl Q' I rx hs pl pu ⟨_, _, rfl, S.lst s1, (k.newL S (cutX_ok (RelL.ints ns) lo hi) q).2⟩
  · cases ra with
    | tup s1 r1 =>
      refine sl_tupA pins s σ H _ v vl vu lo hi sl Q' I rx hs pl pu ⟨_, _, rfl, S.tup s1, fun hw => ?_, fun _ => k.newT S (cutX_ok r1 lo hi) q⟩
      have e : cutX l lo hi = l := by
        unfold cutX
        rw [r1.length, hw.1, hw.2]
        simp [← r1.length]
      rw [e] at q
      exact k.at S (.tup s1 r1) q
  · cases ra.str_inv
    exact C8.sl_txt pins s σ H _ v vl vu lo hi sl Q' I rx hs pl pu ⟨z, rfl, hz, k.at S (.str _) q⟩

/-! ### built-in functions -/
def rL (K : PySem.W.Frag) (f : List W → Sto → Po → Prop) : List V → Hp → VK → Prop := fun xs H Q' => ∃ ω ws st Q, StR K ω st H ∧ RelL K ω ws xs ∧ f ws st Q ∧ KQ K ω st H Q Q'
theorem RelL.one {K : PySem.W.Frag} {ω : Wd} {w : W} {vs : List V} (r : RelL K ω [w] vs) : ∃ v, vs = [v] ∧ Rel K ω w v := by
  cases r with | cons a t => cases t; exact ⟨_, rfl, a⟩
theorem RelL.two {K : PySem.W.Frag} {ω : Wd} {w u : W} {vs : List V} (r : RelL K ω [w, u] vs) : ∃ v x, vs = [v, x] ∧ Rel K ω w v ∧ Rel K ω u x := by
  cases r with | cons a t => cases t with | cons b t => cases t; exact ⟨_, _, rfl, a, b⟩
theorem call_lenR : CallR X (.builtin "len") (rL X.K (biW .len false)) := by
  intro pins s σ H xs us Q' I ru h
  obtain ⟨ω, ws, st, Q, S, r, q, k⟩ := h
  rcases q with ⟨x, l, rfl, e, q⟩ | ⟨z, rfl, hz, q⟩ | ⟨x, l, rfl, e, q⟩
  · obtain ⟨v, rfl, r1⟩ := r.one
    obtain ⟨p, vs, rfl, hs, r2⟩ := sq_ok S r1 e
    rw [r2.length] at q
    exact call_len_seq pins s σ H _ us Q' I ru ⟨p, vs, rfl, hs, k.at S (.int _) q⟩
  · obtain ⟨v, rfl, r1⟩ := r.one
    cases r1.str_inv
    exact call_len_str pins s σ H _ us Q' I ru ⟨z, rfl, hz, k.at S (.int _) q⟩
  · obtain ⟨v, rfl, r1⟩ := r.one
    obtain ⟨p, vs, rfl, hd, nd, r2⟩ := dc_ok S r1 e
    rw [r2.length] at q
    obtain ⟨u, rfl, rv⟩ := vals1 ru
    cases rv
    exact d_len I hd fun t s' I' => ⟨.int vs.length, H, I', ⟨t, rfl⟩, k.at S (.int _) q⟩
theorem dat_depth {d : PyData} {A : Around} (h : A.units + 100 < cLine) (hd : d.depth ≤ 64) : A.units + (d.depth + 1) < cLine := Nat.lt_of_le_of_lt (Nat.add_le_add_left (by omega) _) h
mutual
theorem Dp.nod {K : PySem.W.Frag} {H : Hp} : ∀ {d : PyData} {v : V}, Dp K H v d → d.hasDict = false
  | _, _, .non => rfl
  | _, _, .bl _ => rfl
  | _, _, .int _ => rfl
  | _, _, .str _ => rfl
  | _, _, .lst _ h => by simp only [PyData.hasDict]; exact Dp.nods h
  | _, _, .tup _ h => by simp only [PyData.hasDict]; exact Dp.nods h
theorem Dp.nods {K : PySem.W.Frag} {H : Hp} : ∀ {d : List PyData} {v : List V}, DpAll K H v d → PyData.hasDictAll d = false
  | _, _, .nil => rfl
  | _, _, .cons h t => by simp only [PyData.hasDictAll, Dp.nod h, Dp.nods t]; rfl
end
theorem call_repR (hr : Roomy X) : CallR X (.builtin "repr") (rL X.K (biW .rep false)) := by
  intro pins s σ H xs us Q' I ru h
  obtain ⟨ω, ws, st, Q, S, r, ⟨x, d, rfl, e, h1, h2, h3, q⟩, k⟩ := h
  obtain ⟨v, rfl, r1⟩ := r.one
  have D := dat_ok S r1 e
  obtain ⟨u, rfl, rv⟩ := vals1 ru
  have q' := k.at S (.str _) q
  have go : ∀ a, v = .ref a → d.hasDict = false → wpAny (model X.prog X.w) X.A (call (.builtin "repr") [u]) (EP X pins σ Q') X.xe s := fun a ea hn => by
    subst ea
    cases rv
    obtain ⟨as, rd⟩ := Dp.reads I d _ _ D rfl
    exact repr_of_reads' rd h1 (fun z => by rw [hn] at z; cases z) hr.2 (dat_depth hr.1 h2) (fun _ _ q => q) (fun h' u tk hk => ⟨.str _, H, I.kept hk, ⟨_, rfl⟩, q'⟩) h3
  have nod : ∀ d, (∃ v : V, Dp X.K H v d) → d.hasDict = false := fun d ⟨_, h⟩ => Dp.nod h
  cases D with
  | non => cases rv; exact PySem.P.repr_of_none ⟨.str _, H, I.tok _, ⟨_, rfl⟩, by rw [PyData.shown_none] at q'; exact q'⟩
  | bl b => cases rv; exact PySem.P.repr_of_bool ⟨.str _, H, I.tok _, ⟨_, rfl⟩, by rw [PyData.shown_bool] at q'; exact q'⟩
  | int i =>
    obtain ⟨t, rfl⟩ := rv
    refine PySem.P.repr_of_int ?_ ⟨.str _, H, I.tok _, ⟨_, rfl⟩, by rw [PyData.shown_int] at q'; exact q'⟩
    simpa [PyData.showable] using h1
  | str x =>
    obtain ⟨t, rfl⟩ := rv
    exact PySem.P.repr_of_str ⟨.str _, H, I.tok _, ⟨_, rfl⟩, by rw [PyData.shown_str] at q'; exact q'⟩ (by rw [PyData.shown_str] at h3; exact h3)
  | lst hs ha => exact go _ rfl (nod _ ⟨_, .lst hs ha⟩)
  | tup hs ha => exact go _ rfl (nod _ ⟨_, .tup hs ha⟩)
open Classical in
noncomputable def kOf (K : PySem.W.Frag) (D : Hp) (x : V) : Int × Int := if h : ∃ p : Int × Int, ∃ t, x = V.ref t ∧ SqT K D t [.int p.1, .int p.2] then h.choose else (0, 0)
theorem kOf_at {K : PySem.W.Frag} {D : Hp} {t : Addr} {p : Int × Int} (h : SqT K D t [.int p.1, .int p.2]) : ∃ t', V.ref t = V.ref t' ∧ SqT K D t' [.int (kOf K D (.ref t)).1, .int (kOf K D (.ref t)).2] := by
  have h0 : ∃ p : Int × Int, ∃ t', V.ref t = V.ref t' ∧ SqT K D t' [.int p.1, .int p.2] := ⟨p, t, rfl, h⟩
  have e : kOf K D (.ref t) = h0.choose := by unfold kOf; rw [dif_pos h0]
  rw [e]
  exact h0.choose_spec
theorem rel_pairs {K : PySem.W.Frag} {ω : Wd} (inj : ∀ t xs ys, SqT K ω.D t xs → SqT K ω.D t ys → xs = ys) : ∀ {ps : List (Int × Int)} {vs : List V}, RelL K ω (ps.map pairV) vs →
    (∀ x ∈ vs, ∃ t, x = V.ref t ∧ SqT K ω.D t [.int (kOf K ω.D x).1, .int (kOf K ω.D x).2]) ∧ vs.map (kOf K ω.D) = ps
  | [], vs, h => by
    cases h
    exact ⟨fun x hx => by simp at hx, rfl⟩
  | p :: ps, vs, h => by
    cases h with
    | @cons _ v _ vs r t =>
      obtain ⟨h1, h2⟩ := rel_pairs inj t
      cases r with
      | @tup a us _ s1 r1 =>
        have e : us = [V.int p.1, V.int p.2] := (show RelL K ω ([p.1, p.2].map W.int) us from r1).ints_inv
        subst e
        obtain ⟨t', e1, e2⟩ := kOf_at s1
        cases e1
        have e3 := inj _ _ _ e2 s1
        injection e3 with e4 e5
        injection e5 with e5 _
        injection e4 with e4
        injection e5 with e5
        refine ⟨fun x hx => ?_, by rw [List.map_cons, h2]; congr 1; exact Prod.ext e4 e5⟩
        rcases List.mem_cons.mp hx with rfl | hx
        · exact ⟨_, rfl, e2⟩
        · exact h1 x hx
theorem rel_back {K : PySem.W.Frag} {ω : Wd} {k : V → Int × Int} : ∀ {ys : List V}, (∀ x ∈ ys, ∃ t, x = V.ref t ∧ SqT K ω.D t [.int (k x).1, .int (k x).2]) → RelL K ω ((ys.map k).map pairV) ys
  | [], _ => .nil
  | y :: ys, h => by
    obtain ⟨t, e, s1⟩ := h y (List.mem_cons_self ..)
    subst e
    exact .cons (.tup s1 (.cons (.int _) (.cons (.int _) .nil))) (rel_back fun x hx => h x (List.mem_cons_of_mem _ hx))
/-- built-in functions of plain arguments -/
def biRaw : Bi → Option Value
  | .len => some (.builtin "len") | .int => some (.type "int") | .str => some (.type "str") | .abs => some (.builtin "abs") | .max2 => some (.builtin "max") | .min2 => some (.builtin "min")
  | .maxL => some (.builtin "max") | .minL => some (.builtin "min") | .sum => some (.builtin "sum") | .all => some (.builtin "all") | .any => some (.builtin "any") | .srtI => some (.builtin "sorted")
  | .srtP => some (.builtin "sorted") | .maxT => some (.builtin "max") | .minT => some (.builtin "min") | .min3 => some (.builtin "min")
  | .lst => some (.type "list") | .lstD => some (.type "list") | .tup => some (.type "tuple") | .rep => some (.builtin "repr") | .srtD => some (.builtin "sorted")
/-- data of any kind, sorted -/
theorem each_rel {K : PySem.W.Frag} {ω : Wd} : ∀ {ws : List W} {vs : List V} {us : List Value}, RelL K ω ws vs → Vals vs us → PySem.W.EachIs (fun (u : Value) (w : W) => ∃ v, RelV v u ∧ Rel K ω w v) us ws
  | _, _, _, .nil, r => by cases r; exact .nil
  | _, _, _, .cons r1 t, r => by
    cases r with
    | cons a b => exact .cons ⟨_, a, r1⟩ (each_rel t b)
theorem each_back {K : PySem.W.Frag} {ω : Wd} : ∀ {us : List Value} {ws : List W}, PySem.W.EachIs (fun (u : Value) (w : W) => ∃ v, RelV v u ∧ Rel K ω w v) us ws → ∃ vs, Vals vs us ∧ RelL K ω ws vs
  | _, _, .nil => ⟨[], .nil, .nil⟩
  | _, _, .cons ⟨v, a, b⟩ t => by
    obtain ⟨vs, c, d⟩ := each_back t
    exact ⟨v :: vs, .cons a c, .cons b d⟩
theorem call_srtD (hr : Roomy X) (m : Bool) : CallR X (.builtin "sorted") (rL X.K (biW .srtD m)) := by
  intro pins s σ H xs us Q' I ru h
  obtain ⟨ω, ws, st, Q, S, r, ⟨x, l, rfl, e, hd, hal, hk, hdep, hsz, q⟩, k⟩ := h
  obtain ⟨v, rfl, r1⟩ := r.one
  obtain ⟨p, vs, rfl, hs, r2⟩ := ls_ok S r1 e
  rw [Vals.ref1 ru]
  obtain ⟨its, rv, hl, hz⟩ := I.list (.inl hs)
  have hits : its.toArray.toList = its := by simp
  refine PySem.W.sorted_data (vs := its) (bs := l) (enc := dOf) (R := fun (u : Value) (w : W) => ∃ v, RelV v u ∧ Rel X.K ω w v) hl.isList (each_rel r2 rv) ?_ hal hk hsz (fun w hw => by
    have := hdep w hw
    have := hr.1
    omega) fun out ho eo => ?_
  · have go : ∀ {ws : List W} {vs : List V} {us : List Value}, RelL X.K ω ws vs → Vals vs us → (∀ w ∈ ws, dat0 w ≠ none) → PySem.W.EachIs (fun (v : Value) (b : W) => ∃ as, Reads s.heap v (dOf b) as) us ws := by
      intro ws
      induction ws with
      | nil => intro vs us a b _; cases a; cases b; exact .nil
      | cons w ws ih =>
        intro vs us a b c
        cases a with
        | cons a1 a2 =>
          cases b with
          | cons b1 b2 =>
            refine .cons ?_ (ih a2 b2 fun z hz => c z (List.mem_cons_of_mem _ hz))
            cases hd0 : dat0 w with
            | none => exact absurd hd0 (c w (List.mem_cons_self ..))
            | some d =>
              have : dOf w = d := by unfold dOf; rw [hd0]; rfl
              rw [this]
              exact Dp.reads I d _ _ (dat0_ok S a1 hd0) b1
    exact go r2 rv hd
  · obtain ⟨vs', v1, v2⟩ := each_back eo
    obtain ⟨hz', q'⟩ := k.newL S v2 q
    obtain ⟨ep, he'⟩ := PyProof.Rows.sortedAll_at s.heap its (List.toArray out)
    refine ⟨.ref _, upd H (s.heap.objs.size + 1) (.lst vs'), I.laid (t' := s.toks) (fun _ _ => PyProof.Rows.sortedAll_old) (Nat.le_succ _) ⟨hz', out, ep, v1, by simpa using he'⟩, rfl, q' _ (I.hok.fresh (Nat.le_succ _))⟩
/-- list of a dict, locked or not -/
theorem call_list_dR (hc : X.calm = true) : CallR X (.type "list") (fun xs H Q => ∃ p kvs, xs = [.ref p] ∧ Rd H p (.dK kvs) ∧ ∀ q, H q = none → Q (.ref q) (upd H q (.lst (kvs.map fun kv => kV kv.1)))) := by
  intro pins s σ H xs us Q I r h
  obtain ⟨p, kvs, e, hk, q⟩ := h
  subst e
  obtain ⟨u, eu, rx⟩ := vals1 r
  subst eu
  obtain rfl : u = Value.ref p := rx
  obtain ⟨z, lo, vs, rk, hd⟩ : kvs.length ≤ sizeLine ∧ (p == sysModules) = false ∧ ∃ vs, KV kvs vs ∧ s.heap.DictOf (mixKind X.prog X.w) p vs := by
    rcases hk with hk | ⟨o, hk⟩
    · exact I.hok p _ hk
    · exact (show ObjOk X.prog X.w H s.heap p (.frz o (.dK kvs)) from I.hok p _ hk).2
  obtain ⟨ep, hat⟩ := hd.dictAt
  have hl : kvs.length = vs.length := Paired.length rk
  refine PySem.W.kdl_call (PySem.W.kdl_dict (knd := mixKind X.prog X.w) (kvs := vs) (ep := ep) lo) (I.ok.hd hc) hat (by rw [← hl]; exact z) fun h' tk acc' c' hkeep hS hacc => ?_
  refine ⟨.ref s.heap.objs.size, upd H s.heap.objs.size (.lst (kvs.map fun kv => kV kv.1)), I.laid hkeep (Nat.le_refl _) (show ObjOk X.prog X.w _ _ _ (.lst (kvs.map fun kv => kV kv.1)) from ⟨?_, acc'.toList, c', ?_, ?_⟩), rfl, q _ (I.hok.fresh (Nat.le_refl _))⟩
  · rw [List.length_map]; exact z
  · have el : acc'.toList.length = acc'.size := by simp
    refine vals_of_at (by rw [List.length_map, el, hacc.1, hl]) fun j x w h1 h2 => ?_
    obtain ⟨k, y, hky, hi⟩ := hacc.2 j w (by rw [← Array.getElem?_toList]; exact h2)
    have e1 : (kvs.map (·.1))[j]? = some k := by
      rw [KV.keys rk, List.getElem?_map, hky] <;> rfl
    have e2 : (kvs.map fun kv => kV kv.1)[j]? = some (kV k) := by
      have e3 : (kvs.map fun kv => kV kv.1) = (kvs.map (·.1)).map kV := by rw [List.map_map] <;> rfl
      rw [e3, List.getElem?_map, e1] <;> rfl
    rw [e2] at h1
    cases h1
    exact keyIs_rel hi
  · rw [Array.toArray_toList]; exact hS
theorem RelK.kl {K : PySem.W.Frag} {ω : Wd} : ∀ {ws : List (Key × W)} {vs : List (Key × V)}, RelK K ω ws vs → RelL K ω (ws.map fun p => ofKey p.1) (vs.map fun kv => kV kv.1)
  | _, _, .nil => .nil
  | _, _, .cons (k := k) _ t => .cons (ofKey_ok k) (RelK.kl t)
theorem call_bi (hr : Roomy X) (hc : X.calm = true) (f : Bi) (m : Bool) {u : Value} (hu : biRaw f = some u) : CallR X u (rL X.K (biW f m)) := by
  intro pins s σ H xs us Q' I ru h
  obtain ⟨ω, ws, st, Q, S, r, q, k⟩ := h
  cases f <;> simp only [biRaw, Option.some.injEq] at hu <;> subst hu
  · exact call_lenR pins s σ H xs us Q' I ru ⟨ω, ws, st, Q, S, r, q, k⟩
  · rcases q with ⟨i, rfl, q⟩ | ⟨i, rfl, q⟩
    · obtain ⟨v, rfl, r1⟩ := r.one
      cases r1.int_inv
      exact call_int1 pins s σ H _ us Q' I ru (.inl ⟨i, rfl, k.at S (.int _) q⟩)
    · obtain ⟨v, rfl, r1⟩ := r.one
      cases r1.bl_inv
      exact call_int1 pins s σ H _ us Q' I ru (.inr ⟨i, rfl, k.at S (.int _) q⟩)
  · obtain ⟨i, rfl, hz, q⟩ := q
    obtain ⟨v, rfl, r1⟩ := r.one
    cases r1.int_inv
    exact call_str_int pins s σ H _ us Q' I ru ⟨i, rfl, hz, k.at S (.str _) q⟩
  · obtain ⟨i, rfl, q⟩ := q
    obtain ⟨v, rfl, r1⟩ := r.one
    cases r1.int_inv
    exact call_abs pins s σ H _ us Q' I ru ⟨i, rfl, k.at S (.int _) q⟩
  · obtain ⟨i, j, rfl, q⟩ := q
    obtain ⟨v, x, rfl, r1, r2⟩ := r.two
    cases r1.int_inv; cases r2.int_inv
    exact call_max2 hc pins s σ H _ us Q' I ru ⟨i, j, rfl, k.at S (.int _) q⟩
  · obtain ⟨i, j, rfl, q⟩ := q
    obtain ⟨v, x, rfl, r1, r2⟩ := r.two
    cases r1.int_inv; cases r2.int_inv
    exact call_min2 hc pins s σ H _ us Q' I ru ⟨i, j, rfl, k.at S (.int _) q⟩
  · obtain ⟨x, l, ns, rfl, e, e2, hn, q⟩ := q
    obtain ⟨v, rfl, r1⟩ := r.one
    obtain ⟨p, vs, rfl, hs, r2⟩ := ls_ok S r1 e
    cases intsOf_eq e2
    cases r2.ints_inv
    exact cr_max hc pins s σ H _ us Q' I ru ⟨p, ns, rfl, .inl hs, hn, fun m h1 h2 => k.at S (.int _) (q m h1 h2)⟩
  · obtain ⟨x, l, ns, rfl, e, e2, hn, q⟩ := q
    obtain ⟨v, rfl, r1⟩ := r.one
    obtain ⟨p, vs, rfl, hs, r2⟩ := ls_ok S r1 e
    cases intsOf_eq e2
    cases r2.ints_inv
    exact cr_min hc pins s σ H _ us Q' I ru ⟨p, ns, rfl, .inl hs, hn, fun m h1 h2 => k.at S (.int _) (q m h1 h2)⟩
  · obtain ⟨x, l, ns, rfl, e, e2, q⟩ := q
    obtain ⟨v, rfl, r1⟩ := r.one
    obtain ⟨p, vs, rfl, hs, r2⟩ := ls_ok S r1 e
    cases intsOf_eq e2
    cases r2.ints_inv
    exact cr_sum hc pins s σ H _ us Q' I ru ⟨p, ns, rfl, .inl hs, k.at S (.int _) q⟩
  · obtain ⟨x, l, ns, rfl, e, e2, q⟩ := q
    obtain ⟨v, rfl, r1⟩ := r.one
    obtain ⟨p, vs, rfl, hs, r2⟩ := ls_ok S r1 e
    cases blsOf_eq e2
    cases r2.bls_inv
    exact cr_all hc pins s σ H _ us Q' I ru ⟨p, ns, rfl, .inl hs, k.at S (.bl _) q⟩
  · obtain ⟨x, l, ns, rfl, e, e2, q⟩ := q
    obtain ⟨v, rfl, r1⟩ := r.one
    obtain ⟨p, vs, rfl, hs, r2⟩ := ls_ok S r1 e
    cases blsOf_eq e2
    cases r2.bls_inv
    exact cr_any hc pins s σ H _ us Q' I ru ⟨p, ns, rfl, .inl hs, k.at S (.bl _) q⟩
  · rcases q with ⟨x, l, ns, rfl, e, e2, q⟩ | ⟨ns, rfl, hn, q⟩
    · obtain ⟨v, rfl, r1⟩ := r.one
      obtain ⟨p, vs, rfl, hs, r2⟩ := ls_ok S r1 e
      cases intsOf_eq e2
      cases r2.ints_inv
      exact cr_sortedI pins s σ H _ us Q' I ru ⟨p, ns, rfl, .inl hs, fun ns' a h1 h2 ha => (k.newL S (RelL.ints ns') (q ns' h1 h2)).2 a ha⟩
    · obtain ⟨v, rfl, r1⟩ := r.one
      cases r1 with
      | tup s1 r2 =>
        cases r2.ints_inv
        exact cr_srtT pins s σ H _ us Q' I ru ⟨_, ns, rfl, S.tup s1, by rw [sizeLine_eq]; omega, fun ns' a h1 h2 ha => (k.newL S (RelL.ints ns') (q ns' h1 h2)).2 a ha⟩
  · obtain ⟨x, l, rfl, e, q⟩ := q
    obtain ⟨v, rfl, r1⟩ := r.one
    obtain ⟨p, vs, rfl, hs, r2⟩ := sq_ok S r1 e
    exact call_list_of pins s σ H _ us Q' I ru ⟨p, vs, rfl, hs, (k.newL S r2 q).2⟩
  · obtain ⟨x, l, rfl, e, q⟩ := q
    obtain ⟨v, rfl, r1⟩ := r.one
    rcases e with e | rfl
    · obtain ⟨p, vs, rfl, hs, r2⟩ := ls_ok S r1 e
      exact call_tuple_of pins s σ H _ us Q' I ru ⟨p, vs, rfl, .inl ⟨.inl hs, k.newT S r2 q⟩⟩
    · cases r1 with
      | tup s1 r1 => exact call_tuple_of pins s σ H _ us Q' I ru ⟨_, _, rfl, .inr ⟨S.tup s1, k.at S (.tup s1 r1) q⟩⟩
  · exact call_repR hr pins s σ H xs us Q' I ru ⟨ω, ws, st, Q, S, r, q, k⟩
  · obtain ⟨x, ps, rfl, e, q⟩ := q
    obtain ⟨v, rfl, r1⟩ := r.one
    obtain ⟨p, vs, rfl, hs, r2⟩ := ls_ok S r1 e
    obtain ⟨h1, h2⟩ := rel_pairs (fun t xs ys a b => I.tuple_inj (S.tup a) (S.tup b)) r2
    refine cr_srtP pins s σ H _ us Q' I ru ⟨p, vs, kOf X.K ω.D, rfl, .inl hs, fun x hx => ?_, fun ys a so sb ha => ?_⟩
    · obtain ⟨t, e1, e2⟩ := h1 x hx
      exact ⟨t, e1, S.tup e2⟩
    · have h3 : ∀ x ∈ ys, ∃ t, x = V.ref t ∧ SqT X.K ω.D t [.int (kOf X.K ω.D x).1, .int (kOf X.K ω.D x).2] := fun x hx => h1 x (sb.perm.mem_iff.mp hx)
      refine (k.newL S (rel_back h3) (q (ys.map (kOf X.K ω.D)) (by rw [← h2]; exact sb.perm.map _) ?_)).2 a ha
      refine List.pairwise_map.mpr (List.Pairwise.imp (fun {a b} z => ?_) so)
      have z' := SrtO.lexB_no.mp z
      unfold leP
      omega
  · obtain ⟨ns, rfl, hn, q⟩ := q
    obtain ⟨v, rfl, r1⟩ := r.one
    cases r1 with
    | tup s1 r1 =>
      cases r1.ints_inv
      exact cr_maxT hc hr.u64 pins s σ H _ us Q' I ru ⟨_, ns, rfl, S.tup s1, hn, fun m h1 h2 => k.at S (.int _) (q m h1 h2)⟩
  · obtain ⟨ns, rfl, hn, q⟩ := q
    obtain ⟨v, rfl, r1⟩ := r.one
    cases r1 with
    | tup s1 r1 =>
      cases r1.ints_inv
      exact cr_minT hc hr.u64 pins s σ H _ us Q' I ru ⟨_, ns, rfl, S.tup s1, hn, fun m h1 h2 => k.at S (.int _) (q m h1 h2)⟩
  · obtain ⟨i, j, l, rfl, q⟩ := q
    cases r with
    | cons r1 r =>
      cases r with
      | cons r2 r =>
        cases r with
        | cons r3 r =>
          cases r
          cases r1.int_inv; cases r2.int_inv; cases r3.int_inv
          refine call_min3Nu hc pins s σ H _ us Q' I ru ⟨_, _, _, .int (if l < (if j < i then j else i) then l else (if j < i then j else i)), rfl, ?_, k.at S (.int _) q⟩
          by_cases h1 : j < i <;> by_cases h2 : l < i <;> by_cases h3 : l < j <;> simp [nuMin3, nuMin2, nuLt, nuCB, h1, h2, h3]
  · obtain ⟨x, l, rfl, e, q⟩ := q
    obtain ⟨v, rfl, r1⟩ := r.one
    obtain ⟨p, vs, rfl, hd, nd, r2⟩ := dc_ok S r1 e
    exact call_list_dR hc pins s σ H _ us Q' I ru ⟨p, vs, rfl, hd, (k.newL S r2.kl q).2⟩
  · exact call_srtD hr m pins s σ H xs us Q' I ru ⟨ω, ws, st, Q, S, r, q, k⟩
end
end Zk

namespace Zk
open PySem PySem.Spec PyProof.Rows L2

/-! ### room for calls, and nothing being shown -/
def RoomG (k : Nat) (A : Around) : Prop := Room k A ∧ A.guards = some []
theorem RoomG.mono {j k : Nat} {A : Around} (h : RoomG k A) (l : j ≤ k) : RoomG j A := ⟨h.1.mono l, h.2⟩
theorem RoomG.roomy {k : Nat} {X : Cx} (h : RoomG k X.A) : Roomy X := ⟨by have := h.1.un; omega, h.2⟩
/-- a def's promise where nothing is being shown -/
structure FnG (P : Program) (w : World) (K : PySem.W.Frag) (mg : Str → Option Value) (base : Heap) (k : Nat) (f : Addr) (fd : FuncData) (ps : List Str) (sp : Sp) : Prop where
  len : ∀ vs H Q E, sp vs H Q E → vs.length = ps.length
  run : ∀ (A : Around) (out : List Env) (s : Shared) (H : Hp) (ar : Args) (us : List Value) (vs : List V) (Q : VK) (E : XK), RoomG k A → Env0 P w K mg base A out s H → BindsTo s fd ar (ps.zip us) → Vals vs us → sp vs H Q E →
    codeAny (model P w) A (.call (.ref f) ar) (CR (L2.CX P w) out P w H s Q E) s

/-! ### the table of a law's text -/
structure Fd where
  nm : Str
  ps : List Str
  at_ : Addr
  fd : FuncData
structure Gb where
  nm : Str
  w : W
  v : V
  val : Value
structure Cl where
  ci : Ci
  at_ : Addr
/-- a table of the top with text keys -/
structure Ta where
  nm : Str
  at_ : Addr
  kvs : List (Str × Int)
/-- a table of the top from texts to texts -/
structure Tas where
  nm : Str
  at_ : Addr
  kvs : List (Str × Str)
structure Tb where
  fns : List Fd
  gbs : List Gb
  kws : List Kw
  exs : List (Str × Addr)
  em : List (List Nat)
  cls : List Cl
  sup : List (List Nat)
  tas : List Ta
  tss : List Tas
  gcd : Bool
  kit : Bool
def Tb.A (T : Tb) (j : Nat) : Addr := ((T.cls[j]?).map (·.at_)).getD 0
def Tb.exA (T : Tb) (i : Nat) : Addr := ((T.exs[i]?).map (·.2)).getD 0
def Tb.G (T : Tb) : Gx := ⟨fun i => (T.gbs[i]?).map (·.w), T.A, T.cls.length, supB T.sup, fun t => ((T.tas[t]?).map (·.kvs)).getD [], T.exA, if T.kit then T.exs.length else 0, fun j => (T.em[j]?).getD [], fun t => ((T.tss[t]?).map (·.kvs)).getD []⟩
def picked {α : Type} (perm : List Nat) (us ws : List α) : List α := us ++ perm.filterMap fun i => ws[i]?

/-- an error's wish -/
def KX (T : Tb) (K : PySem.W.Frag) (ω : Wd) (st : Sto) (H : Hp) (Ex : XPo) (E : XK) : Prop :=
  ∀ ω' x st' H' d, Stp ω st H ω' st' H' → StR K ω' st' H' → Ex x st' → (x.2 = none → d = none) → E (.ref (T.exA x.1)) d H'
/-- what the small language says of a def is what it promises -/
def spOf (T : Tb) (K : PySem.W.Frag) (C : Calls) (i n : Nat) : Sp := fun vs H Q' E' => vs.length = n ∧ ∃ ω ws st Q Ex, StR K ω st H ∧ RelL K ω ws vs ∧ C i ws st Ex Q ∧ KQ K ω st H Q Q' ∧ KX T K ω st H Ex E'

/-- an error's class, as a value's class -/
structure ExOk (K : PySem.W.Frag) (T : Tb) (i : Nat) (a : Addr) : Prop where
  ex : ExcC K a
  kt : ∀ t ∈ plainTys, PySem.W.kitOne K (.ref a) (.type t) = some false ∧ PySem.W.kitOne K (.type t) (.ref a) = some false
  kc : ∀ (j : Nat) (q : Cl), T.cls[j]? = some q → PySem.W.kitOne K (.ref a) (.ref q.at_) = some false ∧ PySem.W.kitOne K (.ref q.at_) (.ref a) = some false ∧ PySem.W.notFirst K q.at_ (.ref a) = true
  na : noAdd K a = true
  kx : ∀ (j : Nat) (b : Str × Addr) (cs : List Nat), T.exs[j]? = some b → T.em[j]? = some cs → PySem.W.kitOne K (.ref a) (.ref b.2) = some (decide (i ∈ cs))
structure ClOk (K : PySem.W.Frag) (mg : Str → Option Value) (T : Tb) (j : Nat) (q : Cl) : Prop where
  gm : mg q.ci.nm = some (.ref q.at_)
  kp : PySem.W.keepIn K (.ref q.at_) = true
  cl : Cls K q.at_
  mks : PySem.W.makesIn K q.at_ = true
  fl : ∀ f ∈ q.ci.flds, NoAttr K q.at_ f
  pr : ∀ p ∈ q.ci.prps, ∀ f, T.fns[p.2]? = some f → ∃ a, PropOf K q.at_ p.1 a f.at_
  me : ∀ p ∈ q.ci.mets, ∀ f, T.fns[p.2]? = some f → PySem.W.findIn K (.ref q.at_) p.1 = some (some (.ref f.at_)) ∧ PySem.W.isFn K (.ref f.at_) = true
  sf : PySem.W.selfFirst K q.at_ = true
  nf : ∀ t ∈ plainTys, PySem.W.notFirst K q.at_ (.type t) = true
  nc : ∀ (i : Nat) (r : Cl), T.cls[i]? = some r → PySem.W.notFirst K q.at_ (.ref r.at_) = true
  ki : ∀ t ∈ plainTys, PySem.W.kitOne K (.type t) (.ref q.at_) = some false
  kj : ∀ t ∈ plainTys, PySem.W.kitOne K (.ref q.at_) (.type t) = some false
  kc : ∀ (i : Nat) (r : Cl), T.cls[i]? = some r → PySem.W.kitOne K (.ref r.at_) (.ref q.at_) = some (supB T.sup i j)
  ow : PySem.W.findIn K (.ref q.at_) "__class__" = some (some (.builtin "object.__class__")) ∧ PySem.W.specialIn K (.builtin "object.__class__") "__get__" = some (some (.builtin "getset_descriptor.__get__")) ∧
    PySem.W.takesIn K (.builtin "object.__class__") = some true ∧ PySem.W.mroIn K q.at_ (.type "object") = some true
  ne : PySem.W.findIn K (.ref q.at_) "__ne__" = some (some (.builtin "object.__ne__"))
  ra : PySem.W.findIn K (.ref q.at_) "__radd__" = some none
  ia : noIadd K q.at_ = true
structure TaOk (K : PySem.W.Frag) (w : World) (mg : Str → Option Value) (q : Ta) : Prop where
  gm : mg q.nm = some (.ref q.at_)
  kd : ∃ es n, KDict K w q.at_ es n
  vl : ∀ p ∈ q.kvs, ∃ u, PySem.W.nsIn K q.at_ p.1 = some (some u) ∧ RelV (.int p.2) u
structure TasOk (K : PySem.W.Frag) (w : World) (mg : Str → Option Value) (q : Tas) : Prop where
  gm : mg q.nm = some (.ref q.at_)
  kd : ∃ es n, KDict K w q.at_ es n
  vl : ∀ p ∈ q.kvs, ∃ u, PySem.W.nsIn K q.at_ p.1 = some (some u) ∧ RelV (.str p.2) u
/-- the table holds in X, n levels deep, the defs' meaning being C -/
structure TbOk (T : Tb) (n : Nat) (C : Calls) (X : Cx) : Prop where
  fn : ∀ i f, T.fns[i]? = some f → FnG X.prog X.w X.K X.mg X.base (2 * n) f.at_ f.fd f.ps (spOf T X.K C i f.ps.length) ∧ (f.nm ≠ Str.empty → X.mg f.nm = some (.ref f.at_)) ∧ PySem.W.keepIn X.K (.ref f.at_) = true ∧ Binds X.K f.fd f.ps []
  gb : ∀ (i : Nat) (g : Gb), T.gbs[i]? = some g → X.mg g.nm = some g.val ∧ RelV g.v g.val ∧ ∀ ω, Rel X.K ω g.w g.v
  kw : ∀ (i : Nat) (q : Kw) (f : Fd), T.kws[i]? = some q → T.fns[q.f]? = some f → KBn X.K f.fd f.ps q.n q.ks (picked q.perm) (picked q.perm)
  bl : ∀ x ∈ bltNames, X.mg x = none
  ex : ∀ (i : Nat) (x : Str) (a : Addr), T.exs[i]? = some (x, a) → X.mg x = some (.ref a) ∧ PySem.W.excIn X.K a He.veBase "ValueError.__new__" = true ∧ PySem.W.keepIn X.K (.ref a) = true ∧ PySem.W.subIn X.K (.ref a) (.type "BaseException") = some true ∧ PySem.W.typeIn X.K (.ref a) = some (.type "type")
  em : ∀ (i j : Nat) (a b : Str × Addr) (cs : List Nat), T.exs[i]? = some a → T.exs[j]? = some b → T.em[j]? = some cs → PySem.W.exmOne X.K (.ref a.2) (.ref b.2) = some (decide (i ∈ cs))
  ar : ∀ (i : Nat) (f : Fd) ws st Ex Q, T.fns[i]? = some f → C i ws st Ex Q → ws.length = f.ps.length
  no : ∀ (i : Nat) ws st Ex Q, T.fns[i]? = none → ¬ C i ws st Ex Q
  cl : ∀ (j : Nat) (q : Cl), T.cls[j]? = some q → ClOk X.K X.mg T j q
  ta : ∀ (t : Nat) (q : Ta), T.tas[t]? = some q → TaOk X.K X.w X.mg q
  xo : ∀ (i : Nat) (x : Str) (a : Addr), T.kit = true → T.exs[i]? = some (x, a) → ExOk X.K T i a
  ts : ∀ (t : Nat) (q : Tas), T.tss[t]? = some q → TasOk X.K X.w X.mg q
  gc : T.gcd = true → X.mg "gcd" = some (.builtin "math.gcd")

/-! ### the context of a text -/
structure Cz where
  N : List Str
  sc : Scope
  cl : Str → Bool
  calm : Bool
  fns : List (Str × Nat)
  gbs : List Str
  kws : List Kw
  exs : List Str
  em : List (List Nat)
  cls : List Ci
  tas : List Str
  tss : List Str
  gcd : Bool
  kit : Bool
def Cz.has (c : Cz) (j : Nat) (p : Ci → Bool) : Bool := match c.cls[j]? with
  | some q => p q
  | none => false
structure Good (T : Tb) (n : Nat) (C : Calls) (c : Cz) (Wx : WX) (X : Cx) : Prop where
  tb : TbOk T n C X
  fns : c.fns = T.fns.map fun f => (f.nm, f.ps.length)
  gbs : c.gbs = T.gbs.map (·.nm)
  kws : c.kws = T.kws
  exs : c.exs = T.exs.map (·.1)
  em : c.em = T.em
  cls : c.cls = T.cls.map (·.ci)
  tas : c.tas = T.tas.map (·.nm)
  tss : c.tss = T.tss.map (·.nm)
  gcd : c.gcd = T.gcd
  kit : c.kit = T.kit
  N : X.N = c.N
  nd : c.N.Nodup
  sc : X.env.scope = c.sc
  calm : c.calm = true → X.calm = true
  room : c.calm = true → RoomG (2 * n + 1) X.A
  big : Roomy X
  tk : Takes X Wx
  fnl : ∀ x, c.cl x = true → X.fn x = true

/-! ### small checks of syntax -/
def nk : Option NameKind → Nat
  | some .local => 1 | some .cell => 2 | some .free => 3 | some .globalImplicit => 4 | _ => 0
def visB (sc : Scope) (x : Str) : Bool := match sc.names.lookup x with
  | some .local => true | some .cell => true | some .free => true | _ => false
def locB (sc : Scope) (x : Str) : Bool := match sc.names.lookup x with
  | some .local => true | some .cell => true | _ => false
def stB (c : Cz) (x : Str) : Bool := match c.sc.names.lookup x with
  | some .local => true | some .cell => c.cl x | _ => false
def glB (sc : Scope) (x : Str) : Bool := match sc.names.lookup x with
  | some .globalImplicit => true | _ => false
def plB (x : Str) : Bool := !(x == ("__debug__" : Str)) && !(x == ("__classdict__" : Str)) && !(x == ("__name__" : Str)) && !(x == Str.empty)
theorem visB_ok {sc : Scope} {x : Str} (h : visB sc x = true) : Vis sc x := by
  unfold visB at h
  split at h
  · exact .inl (by assumption)
  · exact .inr (.inl (by assumption))
  · exact .inr (.inr (by assumption))
  · cases h
theorem locB_ok {sc : Scope} {x : Str} (h : locB sc x = true) : Loc sc x := by
  unfold locB at h
  split at h
  · exact .inl (by assumption)
  · exact .inr (by assumption)
  · cases h
theorem stB_ok {c : Cz} {x : Str} (h : stB c x = true) : Loc c.sc x ∧ (c.cl x = true ∨ c.sc.names.lookup x = some .local) := by
  unfold stB at h
  split at h
  · exact ⟨.inl (by assumption), .inr (by assumption)⟩
  · exact ⟨.inr (by assumption), .inl h⟩
  · cases h
theorem glB_ok {sc : Scope} {x : Str} (h : glB sc x = true) : sc.names.lookup x = some .globalImplicit := by
  unfold glB at h
  split at h
  · assumption
  · cases h
theorem plB_1 {x : Str} (h : plB x = true) : (x == ("__debug__" : Str)) = false := by
  unfold plB at h; simp only [Bool.and_eq_true, Bool.not_eq_true'] at h; exact h.1.1.1
theorem plB_2 {x : Str} (h : plB x = true) : (x == ("__classdict__" : Str)) = false := by
  unfold plB at h; simp only [Bool.and_eq_true, Bool.not_eq_true'] at h; exact h.1.1.2
theorem plB_3 {x : Str} (h : plB x = true) : x ≠ ("__name__" : Str) := by
  unfold plB at h; simp only [Bool.and_eq_true, Bool.not_eq_true'] at h; exact fun z => by rw [z] at h; exact absurd h.1.2 (by decide)
theorem plB_4 {x : Str} (h : plB x = true) : x ≠ Str.empty := by
  unfold plB at h; simp only [Bool.and_eq_true, Bool.not_eq_true'] at h; exact fun z => by rw [z] at h; exact absurd h.2 (by decide)
def notStar : Expr → Bool
  | .Starred .. => false | _ => true
theorem starEach_of {e : Expr} {es : List Expr} {env : Env} (h : notStar e = true) : starEach (e :: es) env = (false, eval e env) :: starEach es env := by
  cases e <;> first | rfl | cases h
theorem star_any {pos : Pos} {env : Env} : ∀ {es : List Expr}, es.all notStar = true → (backTo pos (starEach es env)).any (·.1) = false
  | [], _ => rfl
  | e :: es, h => by
    rw [List.all_cons, Bool.and_eq_true] at h
    rw [starEach_of h.1]
    show (false || (backTo pos (starEach es env)).any (·.1)) = false
    rw [star_any h.2]; rfl
theorem star_all {pos : Pos} {env : Env} : ∀ {es : List Expr}, es.all notStar = true → (backTo pos (starEach es env)).all (fun x => !x.1) = true
  | [], _ => rfl
  | e :: es, h => by
    rw [List.all_cons, Bool.and_eq_true] at h
    rw [starEach_of h.1]
    show (true && (backTo pos (starEach es env)).all (fun x => !x.1)) = true
    rw [star_all h.2]; rfl
def plainT : Expr → Bool
  | .UnaryOp .Not _ _ => false | .BoolOp .. => false | .IfExp .. => false | .Compare .. => false | _ => true
theorem isTrue_of {e : Expr} {env : Env} (h : plainT e = true) (whole : Sem Value) : isTrue e env whole = (do let v ← whole; standAt e.pos; holding [v] (truthy v)) := by
  cases e with
  | UnaryOp op a p => cases op <;> first | rfl | cases h
  | BoolOp => cases h
  | IfExp => cases h
  | Compare => cases h
  | _ => rfl
def notSet : Expr → Bool
  | .Set .. => false | _ => true
theorem mark_of {op : CmpOp} {e : Expr} (h : notSet e = true) : behindInMarks op e = false := by
  cases e <;> first | rfl | cases h
theorem fold_of {e : Expr} {env : Env} (h : notSet e = true) (x : Value) : foldedSetIterable e env x = pure x := by
  cases e <;> first | rfl | cases h
def notSlice : Expr → Bool
  | .Slice .. => false | _ => true
theorem plainIx_of {e : Expr} (h : notSlice e = true) : PlainIx e := fun o i => by
  cases e <;> first | rfl | cases h
theorem noSl_of {e : Expr} (h : notSlice e = true) : NoSl e := fun o i => by
  cases e <;> first | rfl | cases h
def notSuper : Expr → Bool
  | .Call (.Name _ _) [] [] _ => false | _ => true
theorem base_of {e : Expr} {m : Str} {env : Env} {whole : Sem Value} (h : notSuper e = true) : attributeBase e m env whole = whole := by
  unfold attributeBase
  split
  · cases h
  · rfl
def notComp : Expr → Bool
  | .ListComp .. => false | .SetComp .. => false | .DictComp .. => false | _ => true
theorem swaps_of {e : Expr} {t : Option Expr} {l : Nat} {env : Env} (h : notComp e = true) : swapsWith e t l env = pure false := by
  cases e <;> first | rfl | cases h

/-! ### a text and its small form -/
def bopOf : Bo → Operator
  | .add => .Add | .sub => .Sub | .mul => .Mult | .fdiv => .FloorDiv | .mod => .Mod | .pow => .Pow | .shl => .LShift
def isBop : Bo → Operator → Bool
  | .add, .Add => true | .sub, .Sub => true | .mul, .Mult => true | .fdiv, .FloorDiv => true | .mod, .Mod => true | .pow, .Pow => true | .shl, .LShift => true | _, _ => false
def isCop : Co → CmpOp → Bool
  | .eq, .Eq => true | .ne, .NotEq => true | .lt, .Lt => true | .le, .LtE => true | .gt, .Gt => true | .ge, .GtE => true | .inS, .In => true | .niS, .NotIn => true | .inD, .In => true | .niD, .NotIn => true | _, _ => false
def Co.plain : Co → Bool
  | .inD => false | .niD => false | _ => true
def biName : Bi → Str
  | .len => "len" | .int => "int" | .str => "str" | .abs => "abs" | .max2 => "max" | .min2 => "min" | .maxL => "max" | .minL => "min" | .sum => "sum" | .all => "all" | .any => "any" | .srtI => "sorted"
  | .srtP => "sorted" | .maxT => "max" | .minT => "min" | .min3 => "min"
  | .lst => "list" | .lstD => "list" | .tup => "tuple" | .rep => "repr" | .srtD => "sorted"
def mtArity : Mt → Nat → Bool
  | .app, 1 => true | .popA, 1 => true | .join, 1 => true | .rev, 0 => true | .clr, 0 => true | .upr, 0 => true | .get, 2 => true | _, _ => false
def mtName : Mt → Str
  | .popA => "pop" | .app => "append" | .rev => "reverse" | .clr => "clear" | .get => "get" | .upr => "upper" | .join => "join"
def tgB (c : Cz) : Tg → Expr → Bool
  | .one i, .Name x _ => decide (c.N[i]? = some x) && stB c x
  | .tup is, .Tuple es _ _ => decide (is.length = es.length) && (is.zip es).all fun p => match p.2 with
    | .Name x _ => decide (c.N[p.1]? = some x) && stB c x
    | _ => false
  | _, _ => false
/-- the context of a comprehension's block -/
def Cz.blk (c : Cz) (scope : Scope) : Cz := { c with sc := relS scope c.sc, cl := fun x => match scope.names.lookup x with | some .cell => true | _ => false }
def blkB (c : Cz) (scope : Scope) (own : List (Str × Nat)) (t : Tg) : Bool :=
  blkC c.N c.sc scope own && t.slots.all (fun i => (own.map (·.2)).contains i)
def argB (es : List Expr) : Bool := es.all notStar
/-- may stand where a test is asked -/
def tT : Ex → Bool
  | .nt a => tT a | .an a b => tT a && tT b | .or a b => tT a && tT b | .ite .. => false | .frz _ => false | _ => true
def tL : Ex → Bool
  | .nil => true | .cons a .nil => tT a | _ => false
/-- a display of texts and numbers -/
def dctB : List (Str × Int) → List (Option Expr) → List Expr → Bool
  | [], [], [] => true
  | (k, i) :: l, some (.Constant (.str k') _ _) :: ks, v :: vs => decide (k = k') && (match v with
    | .Constant (.int j) _ _ => decide (i = j)
    | .UnaryOp .USub (.Constant (.int j) _ _) _ => decide (i = -j)
    | _ => false) && dctB l ks vs
  | _, _, _ => false
/-- a display of texts -/
def dctC : List (Str × Str) → List (Option Expr) → List Expr → Bool
  | [], [], [] => true
  | (k, i) :: l, some (.Constant (.str k') _ _) :: ks, .Constant (.str j) _ _ :: vs => decide (k = k') && decide (i = j) && dctC l ks vs
  | _, _, _ => false
/-- a class by its name -/
def cnB (c : Cz) : Cn → Expr → Bool
  | .ty t, .Name nm _ => decide (nm = (t.name : Str)) && glB c.sc nm
  | .own j, .Name nm _ => c.has j (fun q => decide (q.nm = nm)) && glB c.sc nm && plB nm
  | .err j, .Name nm _ => c.kit && decide (c.exs[j]? = some nm) && glB c.sc nm && plB nm && (c.em[j]?).isSome
  | _, _ => false
def cnsB (c : Cz) : List Cn → List Expr → Bool
  | [], [] => true
  | q :: qs, x :: xs => cnB c q x && cnsB c qs xs
  | _, _ => false
/-- a class, or a tuple of classes -/
def cnT (c : Cz) : List Cn → Expr → Bool
  | qs, .Tuple xs _ _ => decide (qs.length ≤ 50) && cnsB c qs xs
  | [q], x => cnB c q x
  | _, _ => false
/-- pairs are made as the loop goes: into a tuple of names alone -/
def tupT : Ex → Expr → Bool
  | .its _, .Tuple .. => true
  | .enm _, .Tuple .. => true
  | .zp .., .Tuple .. => true
  | .its _, _ => false
  | .enm _, _ => false
  | .zp .., _ => false
  | _, _ => true
mutual
/-- e is the small form of the text x -/
def chkE (c : Cz) : Ex → Expr → Bool
  | .var i, x => match x with | .Name x _ => decide (c.N[i]? = some x) && visB c.sc x && plB x | _ => false
  | .int i, x => match x with | .Constant (.int j) _ _ => decide (i = j) | _ => false
  | .bl b, x => match x with | .Constant (.bool d) _ _ => b == d | _ => false
  | .non, x => match x with | .Constant .none _ _ => true | _ => false
  | .str x, y => match y with | .Constant (.str y) _ _ => decide (x = y) | _ => false
  | .glb g, x => match x with | .Name x _ => decide (c.gbs[g]? = some x) && glB c.sc x && plB x | _ => false
  | .bin op _ a b, x => match x with | .BinOp l o r _ => isBop op o && chkE c a l && chkE c b r | _ => false
  | .neg a, x => match x with | .UnaryOp .USub x _ => chkE c a x | _ => false
  | .nt a, x => match x with | .UnaryOp .Not x _ => chkE c a x | _ => false
  | .an a b, x => match x with | .BoolOp .And (x :: y :: r) p => chkE c a x && chkE c b (if r.isEmpty then y else .BoolOp .And (y :: r) p) | _ => false
  | .or a b, x => match x with | .BoolOp .Or (x :: y :: r) p => chkE c a x && chkE c b (if r.isEmpty then y else .BoolOp .Or (y :: r) p) | _ => false
  | .cmp op a b, x => match x with | .Compare x [o] [y] _ => isCop op o && notSet y && chkE c a x && chkE c b y | _ => false
  | .cm2 op op' a b d, x => match x with | .Compare x [o, o'] [y, z] _ => isCop op o && isCop op' o' && op.plain && op'.plain && notSet y && notSet z && chkE c a x && chkE c b y && chkE c d z | _ => false
  | .isN neg a, x => match x with | .Compare x [o] [.Constant .none _ _] _ => (match o with | .Is => !neg | .IsNot => neg | _ => false) && chkE c a x | _ => false
  | .ite a b d, x => match x with | .IfExp x y z _ => tT a && chkE c a x && chkE c b y && chkE c d z | _ => false
  | .lst _ es, x => match x with | .List xs _ => argB xs && chkL c es xs | _ => false
  | .tup es, x => match x with | .Tuple xs _ _ => argB xs && chkL c es xs | _ => false
  | .dct _ es, x => match x with | .Dict [] [] _ => true | _ => false
  | .dct1 _ k v, x => match x with | .Dict [some a] [b] _ => chkE c k a && chkE c v b | _ => false
  | .ix a b, x => match x with | .Subscript x y _ => notSlice y && chkE c a x && chkE c b y | _ => false
  | .dix a b, x => match x with | .Subscript x y _ => notSlice y && chkE c a x && chkE c b y | _ => false
  | .sl _ a lo hi, x => match x with | .Subscript x (.Slice l h none _) _ => chkE c a x && chkP c lo l && chkP c hi h | _ => false
  | .cal f es, x => match x with | .Call (.Name x _) args [] _ => c.calm && decide (c.fns[f]? = some (x, args.length)) && glB c.sc x && plB x && argB args && chkL c es args | _ => false
  | .calK f k n nk perm es ks', x => match x with
    | .Call (.Name x _) args kws _ => c.calm && (match c.kws[k]? with
      | some w => decide (w.f = f) && decide (w.perm = perm) && decide (w.n = n) && decide (args.length = n) && decide (kws.length = nk) && decide (kws.map (·.arg) = w.ks.map some)
      | none => false) && decide ((c.fns[f]?).map (·.1) = some x) && glB c.sc x && plB x && argB args && chkL c es args && chkL c ks' (kws.map (·.value))
    | _ => false
  | .lrg1 _ a, x => match x with | .Call (.Name l _) [.Call (.Name r _) [x] [] _] [] _ => c.calm && decide (l = ("list" : Str)) && decide (r = ("range" : Str)) && glB c.sc l && glB c.sc r && notStar x && chkE c a x | _ => false
  | .lrg2 _ a b, x => match x with | .Call (.Name l _) [.Call (.Name r _) [x, y] [] _] [] _ => c.calm && decide (l = ("list" : Str)) && decide (r = ("range" : Str)) && glB c.sc l && glB c.sc r && notStar x && notStar y && chkE c a x && chkE c b y | _ => false
  | .bi f _ es, x => match x with | .Call (.Name x _) (y :: ys) [] _ => c.calm && decide (x = biName f) && glB c.sc x && argB (y :: ys) && chkL c es (y :: ys) | _ => false
  | .mt f o es, x => match x with
    | .Call (.Attribute ox m ap) args [] cp => decide (m = mtName f) && (ap.endLine == cp.line) && notSuper ox && argB args && mtArity f args.length && chkE c o ox && chkL c es args
    | _ => false
  | .lc _ own t it cs e, x => match x with
    | .ListComp elt [⟨tg, ix, ifs, 0⟩] scope _ => c.calm && notSet ix && blkB c scope own t && (tgB (c.blk scope) t tg && tupT it tg) && chkI c it ix && chkL (c.blk scope) cs ifs && tL cs && chkE (c.blk scope) e elt
    | _ => false
  | .frz a, x => chkE c a x
  | .dc _ own t it cs k e, x => match x with
    | .DictComp kx elt [⟨tg, ix, ifs, 0⟩] scope _ => c.calm && notSet ix && blkB c scope own t && (tgB (c.blk scope) t tg && tupT it tg) && chkI c it ix && chkL (c.blk scope) cs ifs && tL cs && chkE (c.blk scope) k kx && chkE (c.blk scope) e elt
    | _ => false
  | .rvs a, x => match x with | .Subscript y (.Slice none (some (.Constant (.int 0) _ _)) (some (.UnaryOp .USub (.Constant (.int 1) _ _) _)) _) _ => chkE c a y | _ => false
  | .inO j i a b, x => match x with | .Compare x [.In] [y] _ => c.calm && c.has j (fun q => q.mets.contains ("__eq__", i)) && notSet y && chkE c a x && chkE c b y | _ => false
  | .rgv a, x => match x with | .Call (.Name r _) [x] [] _ => c.calm && decide (r = ("range" : Str)) && glB c.sc r && notStar x && chkE c a x | _ => false
  | .wrg _, _ => false
  | .rg1 _, _ => false
  | .rg2 .., _ => false
  | .its _, _ => false
  | .vls _, _ => false
  | .tyI neg a t, x => match x with
    | .Compare (.Call (.Name ty _) [x] [] _) [o] [.Name nm _] _ => c.calm && (match o with | .Is => !neg | .IsNot => neg | _ => false) && decide (ty = ("type" : Str)) && decide (nm = (t.name : Str)) && glB c.sc ty && glB c.sc nm && notStar x && chkE c a x
    | _ => false
  | .isI a t, x => match x with | .Call (.Name f _) [y, .Name nm _] [] _ => c.calm && decide (f = ("isinstance" : Str)) && decide (nm = (t.name : Str)) && glB c.sc f && glB c.sc nm && notStar y && chkE c a y | _ => false
  | .fld j a f, x => match x with | .Attribute y g _ => decide (f = g) && c.has j (fun q => q.flds.contains f) && notSuper y && chkE c a y | _ => false
  | .prp j i a f, x => match x with | .Attribute y g _ => c.calm && decide (f = g) && c.has j (fun q => q.prps.contains (f, i)) && notSuper y && chkE c a y | _ => false
  | .mk j i es, x => match x with | .Call (.Name x _) (y :: ys) [] _ => c.calm && c.has j (fun q => decide (q.nm = x) && q.mets.contains ("__init__", i)) && glB c.sc x && plB x && argB (y :: ys) && chkL c es (y :: ys) | _ => false
  | .mkK j i k n nk perm es ks', x => match x with
    | .Call (.Name x _) args kws _ => c.calm && (match c.kws[k]? with
      | some w => decide (w.f = i) && decide (w.perm = perm) && decide (w.n = n + 1) && decide (args.length = n) && decide (kws.length = nk) && decide (kws.map (·.arg) = w.ks.map some)
      | none => false) && c.has j (fun q => decide (q.nm = x) && q.mets.contains ("__init__", i)) && glB c.sc x && plB x && argB args && chkL c es args && chkL c ks' (kws.map (·.value))
    | _ => false
  | .lenO j i a, x => match x with | .Call (.Name l _) [y] [] _ => c.calm && decide (l = ("len" : Str)) && c.has j (fun q => q.mets.contains ("__len__", i)) && glB c.sc l && notStar y && chkE c a y | _ => false
  | .eqO neg j i a b, x => match x with | .Compare x [o] [y] _ => c.calm && (match o with | .Eq => !neg | .NotEq => neg | _ => false) && c.has j (fun q => q.mets.contains ("__eq__", i)) && notSet y && chkE c a x && chkE c b y | _ => false
  | .addO j i a b, x => match x with | .BinOp l .Add r _ => c.calm && c.has j (fun q => q.mets.contains ("__add__", i)) && chkE c a l && chkE c b r | _ => false
  | .addN j i a b, x => match x with | .BinOp l .Add r _ => c.calm && c.has j (fun q => q.mets.contains ("__add__", i)) && chkE c a l && chkE c b r | _ => false
  | .isO a j, x => match x with | .Call (.Name f _) [y, .Name nm _] [] _ => c.calm && decide (f = ("isinstance" : Str)) && c.has j (fun q => decide (q.nm = nm)) && glB c.sc f && glB c.sc nm && plB nm && notStar y && chkE c a y | _ => false
  | .lset a, x => match x with | .Call (.Name l _) [.Call (.Name s _) [y] [] _] [] _ => c.calm && decide (l = ("len" : Str)) && decide (s = ("set" : Str)) && glB c.sc l && glB c.sc s && notStar y && chkE c a y | _ => false
  | .dctI _ l, x => match x with | .Dict ks vs _ => !l.isEmpty && decide (l.length ≤ 15) && dctB l ks vs | _ => false
  | .gdx t e, x => match x with | .Subscript (.Name x _) y _ => decide (c.tas[t]? = some x) && glB c.sc x && plB x && notSlice y && chkE c e y | _ => false
  | .excv j, x => match x with | .Call (.Name y _) [.Constant (.str _) _ _] [] _ => decide (c.exs[j]? = some y) && glB c.sc y && plB y | _ => false
  | .isC a cs, x => match x with | .Call (.Name f _) [y, z] [] _ => c.calm && decide (f = ("isinstance" : Str)) && glB c.sc f && notStar y && cnT c cs z && chkE c a y | _ => false
  | .gdxS t e, x => match x with | .Subscript (.Name x _) y _ => decide (c.tss[t]? = some x) && glB c.sc x && plB x && notSlice y && chkE c e y | _ => false
  | .dctS _ l, x => match x with | .Dict ks vs _ => !l.isEmpty && decide (l.length ≤ 15) && dctC l ks vs | _ => false
  | .gcd2 a b, x => match x with | .Call (.Name f _) [y, z] [] _ => c.gcd && decide (f = ("gcd" : Str)) && glB c.sc f && notStar y && notStar z && chkE c a y && chkE c b z | _ => false
  | .rvL _ a, x => match x with | .Subscript y (.Slice none none (some (.UnaryOp .USub (.Constant (.int 1) _ _) _)) _) _ => chkE c a y | _ => false
  | .enm _, _ => false
  | .zp .., _ => false
  | .lc2 _ own t it cs t1 it1 cs1 e, x => match x with
    | .ListComp elt [⟨tg, ix, ifs, 0⟩, ⟨tg1, ix1, ifs1, 0⟩] scope _ => c.calm && notSet ix && notSet ix1 && blkB c scope own t && t1.slots.all (fun i => (own.map (·.2)).contains i) && (tgB (c.blk scope) t tg && tupT it tg) && (tgB (c.blk scope) t1 tg1 && tupT it1 tg1) && chkI c it ix && chkI (c.blk scope) it1 ix1 && chkL (c.blk scope) cs ifs && tL cs && chkL (c.blk scope) cs1 ifs1 && tL cs1 && chkE (c.blk scope) e elt
    | _ => false
  | .no, _ => false
  | .nil, _ => false
  | .cons .., _ => false
def chkL (c : Cz) : Ex → List Expr → Bool
  | .nil, xs => xs.isEmpty
  | .cons a r, xs => match xs with | x :: xs => chkE c a x && chkL c r xs | [] => false
  | _, _ => false
/-- a part of a slice -/
def chkP (c : Cz) : Ex → Option Expr → Bool
  | .no, x => x.isNone
  | e, x => match x with | some y => chkE c e y | none => false
/-- what a loop walks -/
def chkI (c : Cz) : Ex → Expr → Bool
  | .wrg a, x => match x with | .Name n p => chkE c a (.Name n p) | _ => false
  | .rg1 a, x => match x with | .Call (.Name r _) [x] [] _ => decide (r = ("range" : Str)) && glB c.sc r && notStar x && chkE c a x | _ => false
  | .rg2 a b, x => match x with | .Call (.Name r _) [x, y] [] _ => decide (r = ("range" : Str)) && glB c.sc r && notStar x && notStar y && chkE c a x && chkE c b y | _ => false
  | .its d, x => match x with | .Call (.Attribute y m ap) [] [] cp => decide (m = ("items" : Str)) && (ap.endLine == cp.line) && notSuper y && chkE c d y | _ => false
  | .vls d, x => match x with | .Call (.Attribute y m ap) [] [] cp => decide (m = ("values" : Str)) && (ap.endLine == cp.line) && notSuper y && chkE c d y | _ => false
  | .enm a, x => match x with | .Call (.Name r _) [x] [] _ => decide (r = ("enumerate" : Str)) && glB c.sc r && notStar x && chkE c a x | _ => false
  | .zp a b, x => match x with | .Call (.Name r _) [x, y] [] _ => decide (r = ("zip" : Str)) && glB c.sc r && notStar x && notStar y && chkE c a x && chkE c b y | _ => false
  | e, x => chkE c e x
end
end Zk

namespace Zk
open PySem PySem.Spec PyProof.Rows L2

/-- the slots -/
def EnvR (K : PySem.W.Frag) (ω : Wd) (env : Env') (σ : L2.St) : Prop := env.length = σ.length ∧ ∀ (i : Nat) (w : W), env[i]? = some (some w) → ∃ v, σ[i]? = some (some v) ∧ Rel K ω w v
theorem EnvR.up {K : PySem.W.Frag} {ω ω' : Wd} {env : Env'} {σ : L2.St} (h : EnvR K ω env σ) (l : ω.le ω') : EnvR K ω' env σ := ⟨h.1, fun i w e => let ⟨v, a, b⟩ := h.2 i w e; ⟨v, a, b.up l⟩⟩
theorem EnvR.set {K : PySem.W.Frag} {ω : Wd} {env : Env'} {σ : L2.St} (h : EnvR K ω env σ) {w : W} {v : V} (r : Rel K ω w v) (i : Nat) : EnvR K ω (env.set i (some w)) (σ.set i (some v)) := by
  refine ⟨by rw [List.length_set, List.length_set]; exact h.1, fun j u e => ?_⟩
  by_cases hj : i = j
  · subst hj
    have hl : i < env.length := by have := (List.getElem?_eq_some_iff.mp e).1; simpa using this
    rw [List.getElem?_set_self hl] at e
    rw [List.getElem?_set_self (by rw [← h.1]; exact hl)]
    simp at e; subst e
    exact ⟨v, rfl, r⟩
  · rw [List.getElem?_set_ne hj] at e
    rw [List.getElem?_set_ne hj]
    exact h.2 j u e
theorem EnvR.wipe {K : PySem.W.Frag} {ω : Wd} {env : Env'} {σ : L2.St} (h : EnvR K ω env σ) : ∀ vs : List Nat, EnvR K ω (wipeE env vs) (L2.wipe σ vs)
  | [] => h
  | v :: vs => by
    have ih := EnvR.wipe h vs
    show EnvR K ω ((wipeE env vs).set v none) ((L2.wipe σ vs).set v none)
    refine ⟨by rw [List.length_set, List.length_set]; exact ih.1, fun j u e => ?_⟩
    by_cases hj : v = j
    · subst hj
      have hl : v < (wipeE env vs).length := by have := (List.getElem?_eq_some_iff.mp e).1; simpa using this
      rw [List.getElem?_set_self hl] at e
      simp at e
    · rw [List.getElem?_set_ne hj] at e
      rw [List.getElem?_set_ne hj]
      exact ih.2 j u e

section
variable (T : Tb) (K : PySem.W.Frag) (Wx : WX)
/-- the reading that a meaning gives -/
def TO (m : Env' → Sto → XPo → Po → Prop) : TE := fun σ H Q' => ∃ ω env st Q Ex, EnvR K ω env σ ∧ StR K ω st H ∧ m env st Ex Q ∧ KQ K ω st H Q Q' ∧ KX T K ω st H Ex fun c d H' => Wx c d σ H'
/-- .. of a test -/
def TB (m : Env' → Sto → XPo → Po → Prop) : TT := fun σ H Q' => ∃ ω env st Ex, ∃ Q : Bool → Sto → Prop, EnvR K ω env σ ∧ StR K ω st H ∧ m env st Ex (fun w s => ∃ b, truth s w = some b ∧ Q b s) ∧
  (∀ ω' b st' H', Stp ω st H ω' st' H' → StR K ω' st' H' → Q b st' → Q' b H') ∧ KX T K ω st H Ex fun c d H' => Wx c d σ H'
/-- .. of a list of arguments -/
def TL (m : Env' → Sto → XPo → Po → Prop) : TA := fun σ H Q' => ∃ ω env st Q Ex, EnvR K ω env σ ∧ StR K ω st H ∧ m env st Ex Q ∧
  (∀ ω' w st' H', Stp ω st H ω' st' H' → StR K ω' st' H' → Q w st' → ∀ ws vs, w = .tup ws → RelL K ω' ws vs → Q' vs H') ∧ KX T K ω st H Ex fun c d H' => Wx c d σ H'
end
section
variable {T : Tb} {K : PySem.W.Frag} {Wx : WX} {ω ω' : Wd} {st st' : Sto} {H H' : Hp}
theorem KX.on {Ex : XPo} {E : XK} (k : KX T K ω st H Ex E) (s : Stp ω st H ω' st' H') : KX T K ω' st' H' Ex E := fun _ _ _ _ _ t => k _ _ _ _ _ (s.trans t)
/-- an operand, then what follows -/
theorem TO.step {m : Env' → Sto → XPo → Po → Prop} {σ : L2.St} {env : Env'} {Ex : XPo} {f : W → Sto → Prop} {Q' : VK} (E : EnvR K ω env σ) (S : StR K ω st H) (h : m env st Ex f) (kx : KX T K ω st H Ex fun c d H' => Wx c d σ H')
    (n : ∀ ω' w v st' H', Stp ω st H ω' st' H' → StR K ω' st' H' → EnvR K ω' env σ → Rel K ω' w v → f w st' → KX T K ω' st' H' Ex (fun c d H' => Wx c d σ H') → Q' v H') : TO T K Wx m σ H Q' :=
  ⟨ω, env, st, f, Ex, E, S, h, fun _ _ _ _ _ t S' r q => n _ _ _ _ _ t S' (E.up t.le) r q (kx.on t), kx⟩
theorem truth_ok (S : StR K ω st H) {w : W} {v : V} {b : Bool} (r : Rel K ω w v) (h : truth st w = some b) : TruV K v H b := by
  cases r with
  | non => simp only [truth] at h; cases h; rfl
  | bl b => simp only [truth] at h; cases h; rfl
  | int i => simp only [truth] at h; cases h; rfl
  | str x =>
    simp only [truth] at h
    split at h
    · cases h
      refine ⟨by assumption, ?_⟩
      show (x.length != 0) = ((x.length : Int) != 0)
      cases q : x.length with
      | zero => rfl
      | succ n => simp [bne]; omega
    · cases h
  | tup s r =>
    simp only [truth] at h; cases h
    refine .inr (.inl ⟨_, S.tup s, ?_⟩)
    cases r <;> rfl
  | lst s r =>
    simp only [truth] at h; cases h
    refine .inl ⟨_, .inl (S.sub _ _ s), ?_⟩
    cases r <;> rfl
  | dct s n r => simp only [truth] at h; cases h
  | obj s r => simp only [truth] at h; cases h
  | dtt s n r => simp only [truth] at h; cases h
  | rng s => simp only [truth] at h; cases h
  | exc s r => simp only [truth] at h; cases h
  | scr s =>
    simp only [truth] at h; cases h
    exact .inl ⟨_, S.lst s, by simp⟩
  | ref e1 =>
    rename_i n a
    simp only [truth] at h
    cases q : st[n]? with
    | none => rw [q] at h; cases h
    | some bc =>
      obtain ⟨b', c⟩ := bc
      rcases S.cell e1 q with ⟨ws, vs, rfl, hh, rl⟩ | ⟨ws, vs, rfl, _⟩ | ⟨ws, vs, rfl, _⟩ | ⟨_, _, rfl⟩
      · rw [q] at h; cases h
        refine .inl ⟨_, .inl hh, ?_⟩
        cases rl <;> rfl
      · rw [q] at h; cases h
      · rw [q] at h; cases h
      · rw [q] at h; cases h
theorem truth_bl {b c : Bool} (h : truth st (.bl b) = some c) : c = b := by simp only [truth] at h; exact (Option.some.inj h).symm
end

/-! ### the reading of each construct -/
section
variable {T : Tb} {n : Nat} {C : Calls} {c : Cz} {Wx : WX} {X : Cx}
theorem isBop_ok {op : Bo} {o : Operator} (h : isBop op o = true) : o = bopOf op := by
  cases op <;> cases o <;> first | rfl | cases h
theorem isCop_ok {op : Co} {o : CmpOp} (h : isCop op o = true) : o = opOf op := by
  cases op <;> cases o <;> first | rfl | cases h
theorem Good.gl (g : Good T n C c Wx X) {x : Str} (h : glB c.sc x = true) : Gl X x := by
  show X.env.scope.names.lookup x = _
  rw [g.sc]; exact glB_ok h
theorem Good.vis (g : Good T n C c Wx X) {x : Str} (h : visB c.sc x = true) : Vis X.env.scope x := by
  rw [g.sc]; exact visB_ok h
/-- an expression, and one thing locked behind it, if wanted -/
theorem pe_lk {e : Expr} {t : TE} (h : PE X e t) : PE X e (fun σ H Q => t σ H (LkQ Q)) := by
  refine ⟨fun pins s σ H Q I z => ?_⟩
  refine thn (h.run pins s σ H _ I z) fun v s1 ⟨x, H1, I1, r, q⟩ => ?_
  rcases q with q | ⟨d, u, hd, mu, q⟩
  · exact ⟨x, H1, I1, r, q⟩
  · obtain ⟨od, I2⟩ := I1.lock hd mu
    exact ⟨x, _, I2, r, q od⟩
theorem pe_imp {e : Expr} {t t' : TE} (h : PE X e t) (w : ∀ σ H Q, t' σ H Q → t σ H Q) : PE X e t' := ⟨fun pins s σ H Q I q => h.run pins s σ H Q I (w σ H Q q)⟩
theorem pt_imp {e : Expr} {t t' : TT} (h : PT X e t) (w : ∀ σ H Q, t' σ H Q → t σ H Q) : PT X e t' := ⟨fun pins s σ H Q I q => h.run pins s σ H Q I (w σ H Q q)⟩
theorem pw_imp {e : Expr} {t t' : TT} (h : PW X e t) (w : ∀ σ H Q, t' σ H Q → t σ H Q) : PW X e t' := ⟨fun wh pins s σ H Q I q => h.run wh pins s σ H Q I (w σ H Q q)⟩
theorem pa_imp {e : List Expr} {t t' : TA} (h : PA X e t) (w : ∀ σ H Q, t' σ H Q → t σ H Q) : PA X e t' := ⟨fun p pins s σ H Q I q => h.run p pins s σ H Q I (w σ H Q q)⟩

/-- a test by its value's truth -/
theorem pt_of {e : Expr} {m : Env' → Sto → XPo → Po → Prop} (h : PE X e (TO T X.K Wx m)) (hp : plainT e = true) : PT X e (TB T X.K Wx m) := by
  refine pt_imp (pt_truth h fun w => isTrue_of hp w) fun σ H Q' q => ?_
  obtain ⟨ω, env, st, Ex, Q, E, S, hm, k, kx⟩ := q
  refine TO.step E S hm kx fun ω' w v st' H' t S' E' r q kx' => ?_
  obtain ⟨b, hb, q⟩ := q
  exact ⟨b, truth_ok S' r hb, k _ _ _ _ t S' q⟩
/-- a comparison by value -/
theorem cmp_val {op : Co} {a b : Expr} {pos : Pos} {ma mb : Env' → Sto → XPo → Po → Prop} (hp : op.plain = true) (hb : Roomy X) (ha : PE X a (TO T X.K Wx ma)) (hbb : PE X b (TO T X.K Wx mb)) (hs : notSet b = true) :
    PE X (.Compare a [opOf op] [b] pos) (TO T X.K Wx fun env st Ex Q => ma env st Ex fun x st1 => mb env st1 Ex fun y st2 => cmpP op x y st2 fun k => Q (.bl k) st2) := by
  refine pe_imp (pe_cmpR (or_cmp hb op (fun z => by rw [z] at hp; cases hp) (fun z => by rw [z] at hp; cases hp)) ha hbb (mark_of hs)) fun σ H Q' q => ?_
  obtain ⟨ω, env, st, Q, Ex, E, S, hm, k, kx⟩ := q
  refine TO.step E S hm kx fun ω1 x v st1 H1 t1 S1 E1 r1 q1 kx1 => ?_
  refine TO.step E1 S1 q1 kx1 fun ω2 y u st2 H2 t2 S2 E2 r2 q2 kx2 => ?_
  exact ⟨ω2, x, y, st2, _, S2, r1.up t2.le, r2, q2, fun b q => (k.on (t1.trans t2)).at S2 (.bl b) q⟩
theorem cmp_tst {op : Co} {a b : Expr} {pos : Pos} {ma mb : Env' → Sto → XPo → Po → Prop} (hp : op.plain = true) (hb : Roomy X) (ha : PE X a (TO T X.K Wx ma)) (hbb : PE X b (TO T X.K Wx mb)) (hs : notSet b = true) :
    PT X (.Compare a [opOf op] [b] pos) (TB T X.K Wx fun env st Ex Q => ma env st Ex fun x st1 => mb env st1 Ex fun y st2 => cmpP op x y st2 fun k => Q (.bl k) st2) := by
  refine pt_imp (pt_cmpR (or_cmp hb op (fun z => by rw [z] at hp; cases hp) (fun z => by rw [z] at hp; cases hp)) ha hbb (mark_of hs)) fun σ H Q' q => ?_
  obtain ⟨ω, env, st, Ex, Q, E, S, hm, k, kx⟩ := q
  refine TO.step E S hm kx fun ω1 x v st1 H1 t1 S1 E1 r1 q1 kx1 => ?_
  refine TO.step E1 S1 q1 kx1 fun ω2 y u st2 H2 t2 S2 E2 r2 q2 kx2 => ?_
  exact ⟨ω2, x, y, st2, _, S2, r1.up t2.le, r2, q2, fun b q => let ⟨b', e, q⟩ := q; ⟨b, rfl, by cases truth_bl e; exact k _ _ _ _ (t1.trans t2) S2 q⟩⟩
/-- .. of a dict's keys -/
def dinOp (neg : Bool) : Co := if neg then .niD else .inD
theorem din_core {neg : Bool} {a b : Expr} {ma mb : Env' → Sto → XPo → Po → Prop} (hb : Roomy X) (ha : PE X a (TO T X.K Wx ma)) (hbb : PE X b (TO T X.K Wx mb)) :
    PC X (opOf (dinOp neg)) a b (TO T X.K Wx fun env st Ex Q => ma env st Ex fun x st1 => mb env st1 Ex fun y st2 => cmpP (dinOp neg) x y st2 fun k => Q (.bl k) st2) := by
  have hu := hb.u1
  cases neg with
  | false =>
    refine ⟨fun pins s σ H Q' I q => (pc_din hu ha hbb).run pins s σ H Q' I ?_⟩
    obtain ⟨ω, env, st, Q, Ex, E, S, hm, k, kx⟩ := q
    refine TO.step E S hm kx fun ω1 x v st1 H1 t1 S1 E1 r1 q1 kx1 => ?_
    refine TO.step E1 S1 q1 kx1 fun ω2 y u st2 H2 t2 S2 E2 r2 q2 kx2 => ?_
    obtain ⟨ky, l, e1, e2, q2⟩ := q2
    obtain ⟨p, vs, rfl, hd, nd, rl⟩ := dc_ok S2 r2 e2
    refine ⟨p, valV vs ky, rfl, .inl ⟨vs, ky, hd, keyOf_ok e1 (r1.up t2.le), rfl⟩, ?_⟩
    have : (valV vs ky).isSome = (Zk.look l ky).isSome := by
      rcases RelK.look ky rl with ⟨z1, z2⟩ | ⟨_, _, z1, z2, _⟩ <;> rw [z1, z2] <;> rfl
    rw [this]
    exact (k.on (t1.trans t2)).at S2 (.bl _) q2
  | true =>
    refine ⟨fun pins s σ H Q' I q => (pc_dnotin hu ha hbb).run pins s σ H Q' I ?_⟩
    obtain ⟨ω, env, st, Q, Ex, E, S, hm, k, kx⟩ := q
    refine TO.step E S hm kx fun ω1 x v st1 H1 t1 S1 E1 r1 q1 kx1 => ?_
    refine TO.step E1 S1 q1 kx1 fun ω2 y u st2 H2 t2 S2 E2 r2 q2 kx2 => ?_
    obtain ⟨ky, l, e1, e2, q2⟩ := q2
    obtain ⟨p, vs, rfl, hd, nd, rl⟩ := dc_ok S2 r2 e2
    refine ⟨p, valV vs ky, rfl, .inl ⟨vs, ky, hd, keyOf_ok e1 (r1.up t2.le), rfl⟩, ?_⟩
    have : (valV vs ky).isSome = (Zk.look l ky).isSome := by
      rcases RelK.look ky rl with ⟨z1, z2⟩ | ⟨_, _, z1, z2, _⟩ <;> rw [z1, z2] <;> rfl
    rw [this]
    exact (k.on (t1.trans t2)).at S2 (.bl _) q2
end
end Zk

namespace Zk
open PySem PySem.Spec PyProof.Rows L2

section
variable {T : Tb} {n : Nat} {C : Calls} {c : Cz} {Wx : WX} {X : Cx}
/-! ### targets -/
def TGo (K : PySem.W.Frag) (t : Tg) : TG := fun v σ H Q' => ∃ ω env st w, ∃ Q : Env' → Prop, EnvR K ω env σ ∧ StR K ω st H ∧ Rel K ω w v ∧ tgP t w env Q ∧ ∀ env' σ', EnvR K ω env' σ' → (∀ j, j ∉ t.slots → σ'[j]? = σ[j]?) → σ'.length = σ.length → Q env' → Q' σ' H
theorem pg_imp {e : Expr} {t t' : TG} (h : PG X e t) (w : ∀ v σ H Q, t' v σ H Q → t v σ H Q) : PG X e t' := ⟨fun pins s σ H v u Q I r q => h.run pins s σ H v u Q I r (w v σ H Q q)⟩
theorem pg_one (g : Good T n C c Wx X) {i : Nat} {x : Str} {p : Pos} (h1 : c.N[i]? = some x) (h2 : stB c x = true) : PG X (.Name x p) (TGo X.K (.one i)) := by
  obtain ⟨hl, hf⟩ := stB_ok h2
  refine pg_imp (pg_name (i := i) (by rw [g.N]; exact g.nd) (by rw [g.N]; exact h1) (by rw [g.sc]; exact hl) (by rw [g.sc]; exact hf.imp (g.fnl x) id)) fun v σ H Q' q => ?_
  obtain ⟨ω, env, st, w, Q, E, S, r, q, k⟩ := q
  exact k _ _ (E.set r i) (fun j hj => List.getElem?_set_ne (fun z => hj (by simp [Tg.slots, z]))) (List.length_set ..) q
def isNm (c : Cz) (p : Nat × Expr) : Bool := match p.2 with
  | .Name x _ => decide (c.N[p.1]? = some x) && stB c x
  | _ => false
theorem pgs_names (g : Good T n C c Wx X) : ∀ (is : List Nat) (es : List Expr), is.length = es.length → (is.zip es).all (isNm c) = true →
    PGs X es (fun vs σ H Q' => ∃ ω env ws, EnvR X.K ω env σ ∧ RelL X.K ω ws vs ∧ ws.length = is.length ∧ ∀ σ', EnvR X.K ω (setAll env is ws) σ' → (∀ j, j ∉ is → σ'[j]? = σ[j]?) → σ'.length = σ.length → Q' σ' H) ∧ (assignEach es X.env).length = es.length ∧ (assignEach es X.env).findIdx? (·.1) = none
  | [], [], _, _ => ⟨⟨fun pins s σ H vs us Q I r q => by
      obtain ⟨ω, env, ws, E, rl, hl, k⟩ := q
      cases ws with
      | cons _ _ => cases hl
      | nil =>
        cases rl
        exact pgs_nil.run pins s σ H [] us Q I r ⟨rfl, k _ E (fun _ _ => rfl) rfl⟩⟩, rfl, rfl⟩
  | [], _ :: _, h, _ => by cases h
  | _ :: _, [], h, _ => by cases h
  | i :: is, e :: es, hl, h => by
    rw [List.zip_cons_cons, List.all_cons, Bool.and_eq_true] at h
    obtain ⟨h1, h2⟩ := h
    obtain ⟨ih, l1, l2⟩ := pgs_names g is es (by simpa using hl) h2
    unfold isNm at h1
    cases e with
    | Name x p =>
      simp only [Bool.and_eq_true, decide_eq_true_eq] at h1
      refine ⟨⟨fun pins s σ H vs us Q I r q => ?_⟩, by show _ + 1 = _ + 1; rw [l1], by show List.findIdx? _ ((false, assign (.Name x p) X.env) :: assignEach es X.env) = _; rw [List.findIdx?_cons, l2]; rfl⟩
      obtain ⟨ω, env, ws, E, rl, hl, k⟩ := q
      cases ws with
      | nil => cases hl
      | cons w ws =>
        cases rl with
        | cons r1 rt =>
          obtain ⟨hl', hf⟩ := stB_ok h1.2
          refine (pgs_cons (pg_name (i := i) (by rw [g.N]; exact g.nd) (by rw [g.N]; exact h1.1) (by rw [g.sc]; exact hl') (by rw [g.sc]; exact hf.imp (g.fnl x) id)) ih).run pins s σ H _ us Q I r ⟨_, _, rfl, ?_⟩
          exact ⟨ω, env.set i (some w), ws, E.set r1 i, rt, by simpa using hl, fun σ' E' ho hl => k σ' E' (fun j hj => by
            rw [ho j (fun z => hj (List.mem_cons_of_mem _ z))]
            exact List.getElem?_set_ne (fun z => hj (by simp [z]))) (by rw [hl, List.length_set])⟩
    | _ => cases h1
theorem pg_of (g : Good T n C c Wx X) (hc : X.calm = true) {t : Tg} {e : Expr} (h : tgB c t e = true) : PG X e (TGo X.K t) := by
  cases t with
  | one i =>
    unfold tgB at h
    cases e with
    | Name x p => simp only [Bool.and_eq_true, decide_eq_true_eq] at h; exact pg_one g h.1 h.2
    | _ => cases h
  | tup is =>
    unfold tgB at h
    cases e with
    | Tuple es k p =>
      simp only [Bool.and_eq_true, decide_eq_true_eq] at h
      obtain ⟨hl, h2⟩ := h
      obtain ⟨P, l1, l2⟩ := pgs_names g is es hl h2
      refine pg_imp (pg_tup hc P l1 l2) fun v σ H Q' q => ?_
      obtain ⟨ω, env, st, w, Q, E, S, r, ⟨ws, rfl, hw, q⟩, k⟩ := q
      cases r with
      | tup s1 r1 =>
        exact ⟨_, _, rfl, S.tup s1, by rw [← r1.length, hw, hl], ω, env, ws, E, r1, hw, fun σ' E' ho hl => k _ _ E' ho hl q⟩
    | _ => cases h
theorem tgP_mono {t : Tg} {w : W} {env : Env'} {Q Q' : Env' → Prop} (h : ∀ e, Q e → Q' e) (q : tgP t w env Q) : tgP t w env Q' := by
  cases t with
  | one i => exact h _ q
  | tup is => obtain ⟨ws, a, b, q⟩ := q; exact ⟨ws, a, b, h _ q⟩

/-! ### what a loop walks -/
theorem pi_imp {tg e : Expr} {t t' : TI} (h : PI X tg e t) (w : ∀ σ H R, t' σ H R → t σ H R) : PI X tg e t' := ⟨fun pins s σ H R I q => h.run pins s σ H R I (w σ H R q)⟩
theorem pi_seq {tg l : Expr} {tl : TE} (hl : PE X l tl) : PI X tg l (fun σ H R => tl σ H fun x H1 => ∃ a, x = .ref a ∧ (((∃ xs, SqL X.K H1 a xs) ∧ R (Itl X.K a) H1) ∨ ((∃ xs, SqT X.K H1 a xs) ∧ R (Itt X.K a) H1))) := by
  refine ⟨fun pins s σ H R I h => ?_⟩
  refine thn (hl.run pins s σ H _ I h) fun v s1 ⟨x, H1, I1, r1, a, e, q⟩ => ?_
  subst e
  cases r1
  have nw : ∀ {ob : Obj} (b : Addr), b ∈ [s1.heap.objs.size] → FpOk X pins H1 b := fun {ob} b hb => by
    have e : b = s1.heap.objs.size := by simpa using hb
    rw [e]
    exact I1.fpOk (Nat.le_refl _) (I1.hok.fresh (Nat.le_refl _))
  have kp : ∀ ob : Obj, Inv X pins σ H1 { s1 with heap := s1.heap.push ob } := fun ob => I1.kept (t' := s1.toks) fun b o e => Heap.get?_push_of_some _ e
  rcases q with ⟨⟨xs, hq⟩, q⟩ | ⟨⟨xs, hq⟩, q⟩
  · obtain ⟨its, rv, p, hz⟩ := I1.list hq
    exact wpAny_pyIter_list p.isList ⟨s1.heap.objs.size, [s1.heap.objs.size], _, Itl X.K a, H1, rfl, kp _, turn_list a _, ⟨_, Heap.get?_push_size _ rfl, rfl, rfl⟩, nw (ob := default), q⟩
  · obtain ⟨its, rv, p, hz⟩ := I1.tuple hq
    exact wpAny_pyIter_tuple (show s1.heap.IsTuple a its.toArray from p) ⟨s1.heap.objs.size, [s1.heap.objs.size], _, Itt X.K a, H1, rfl, kp _, turn_tuple a _, ⟨_, Heap.get?_push_size _ rfl, rfl, rfl⟩, nw (ob := default), q⟩
/-- the iterator gives these, whatever becomes of the rest -/
def ItR (K : PySem.W.Frag) (ω : Wd) (J : It) (items : List W) (g : Sto → Prop) : Prop := ∀ ω' st' H', ω.le ω' → StR K ω' st' H' → g st' → ∀ i : Nat,
  (i < items.length → J.go i H' ∧ ∀ x H'', J.yld i H' x H'' → ∃ ω'', Stp ω' st' H' ω'' st' H'' ∧ StR K ω'' st' H'' ∧ ∃ w, items[i]? = some w ∧ Rel K ω'' w x) ∧ (items.length ≤ i → J.stop i H')
theorem ItR.up {K : PySem.W.Frag} {ω ω' : Wd} {J : It} {items : List W} {g : Sto → Prop} (h : ItR K ω J items g) (l : ω.le ω') : ItR K ω' J items g := fun ω2 st H l2 S y => h ω2 st H (l.trans l2) S y
theorem itR_lst {K : PySem.W.Frag} {ω : Wd} {a : Addr} {vs : List V} {ws : List W} (h : SqL K ω.D a vs) (r : RelL K ω ws vs) {g : Sto → Prop} : ItR K ω (Itl K a) ws g := fun ω' st' H' l S _ i => by
  have h' := S.lst (SqL.up l.2 h)
  have r' := r.up l
  refine ⟨fun hi => ?_, fun hi => ⟨vs, h', by rw [← r.length]; exact hi⟩⟩
  obtain ⟨v, hv, rv⟩ := r'.get (i := i) (List.getElem?_eq_getElem hi)
  refine ⟨⟨vs, v, h', hv⟩, fun x H'' y => ?_⟩
  have := y.2 vs h'
  rw [hv] at this; cases this
  rw [y.1]
  exact ⟨ω', .refl, S, _, List.getElem?_eq_getElem hi, rv⟩
theorem itR_tup {K : PySem.W.Frag} {ω : Wd} {a : Addr} {vs : List V} {ws : List W} (h : SqT K ω.D a vs) (r : RelL K ω ws vs) {g : Sto → Prop} : ItR K ω (Itt K a) ws g := fun ω' st' H' l S _ i => by
  have h' := S.tup (SqT.up l.2 h)
  have r' := r.up l
  refine ⟨fun hi => ?_, fun hi => ⟨vs, h', by rw [← r.length]; exact hi⟩⟩
  obtain ⟨v, hv, rv⟩ := r'.get (i := i) (List.getElem?_eq_getElem hi)
  refine ⟨⟨vs, v, h', hv⟩, fun x H'' y => ?_⟩
  have := y.2 vs h'
  rw [hv] at this; cases this
  rw [y.1]
  exact ⟨ω', .refl, S, _, List.getElem?_eq_getElem hi, rv⟩
theorem itR_alv {K : PySem.W.Frag} {ω : Wd} {n : Nat} {a : Addr} {l : List W} (e : ω.ρ[n]? = some a) : ItR K ω (Itl K a) l (fun s => s[n]? = some (true, .lst l)) := fun ω' st' H' le S hg i => by
  obtain ⟨vs, hh, r⟩ := S.cel n a _ (le.at e) hg
  have h' : SqL K H' a vs := .inl (.inl hh)
  refine ⟨fun hi => ?_, fun hi => ⟨vs, h', by rw [← r.length]; exact hi⟩⟩
  obtain ⟨v, hv, rv⟩ := r.get (i := i) (List.getElem?_eq_getElem hi)
  refine ⟨⟨vs, v, h', hv⟩, fun x H'' y => ?_⟩
  have := y.2 vs h'
  rw [hv] at this; cases this
  rw [y.1]
  exact ⟨ω', .refl, S, _, List.getElem?_eq_getElem hi, rv⟩
theorem itR_rng {K : PySem.W.Frag} {ω : Wd} {lo : Int} {m : Nat} {g : Sto → Prop} : ItR K ω (Itr lo m) ((List.range m).map fun k => W.int (lo + (k : Nat))) g := fun ω' st' H' l S _ i => by
  simp only [List.length_map, List.length_range]
  refine ⟨fun hi => ⟨hi, fun x H'' y => ?_⟩, fun hi => hi⟩
  rw [y.1, y.2]
  exact ⟨ω', .refl, S, .int (lo + (i : Nat)), by simp [hi], .int _⟩
theorem RelK.getK {K : PySem.W.Frag} {ω : Wd} : ∀ {ws : List (Key × W)} {vs : List (Key × V)}, RelK K ω ws vs → ∀ {i : Nat} {k : Key} {v : V}, vs[i]? = some (k, v) → ∃ w, ws[i]? = some (k, w) ∧ Rel K ω w v
  | _, _, .nil, _, _, _, e => by simp at e
  | _, _, .cons r _, 0, _, _, e => by simp at e; obtain ⟨rfl, rfl⟩ := e; exact ⟨_, rfl, r⟩
  | _, _, .cons _ s, i + 1, _, _, e => by
    obtain ⟨w, a, b⟩ := RelK.getK s (i := i) (by simpa using e)
    exact ⟨w, by simpa using a, b⟩
/-- a dict's keys, values, pairs: it is locked for good -/
theorem itR_keys {K : PySem.W.Frag} {ω : Wd} {a : Addr} {o : Obj} {vs : List (Key × V)} {ws : List (Key × W)} (h : ω.D a = some (.frz o (.dK vs))) (r : RelK K ω ws vs) {g : Sto → Prop} : ItR K ω (Itk a o vs) (ws.map fun p => ofKey p.1) g := fun ω' st' H' l S _ i => by
  have h' := S.fz _ _ _ (l.2 _ _ h)
  have r' := r.up l
  have hl := RelK.length r
  rw [List.length_map]
  refine ⟨fun hi => ⟨⟨h', by rw [← hl]; exact hi⟩, fun x H'' y => ?_⟩, fun hi => ⟨h', by rw [← hl]; exact hi⟩⟩
  obtain ⟨rfl, k, v, hkv, rfl⟩ := y
  obtain ⟨w, hw, _⟩ := r'.getK hkv
  exact ⟨ω', .refl, S, ofKey k, by rw [List.getElem?_map, hw]; rfl, ofKey_ok k⟩
theorem itR_vals {K : PySem.W.Frag} {ω : Wd} {a : Addr} {o : Obj} {vs : List (Key × V)} {ws : List (Key × W)} (h : ω.D a = some (.frz o (.dK vs))) (r : RelK K ω ws vs) {g : Sto → Prop} : ItR K ω (Itd a o vs) (ws.map fun p => p.2) g := fun ω' st' H' l S _ i => by
  have h' := S.fz _ _ _ (l.2 _ _ h)
  have r' := r.up l
  have hl := RelK.length r
  rw [List.length_map]
  refine ⟨fun hi => ⟨⟨h', by rw [← hl]; exact hi⟩, fun x H'' y => ?_⟩, fun hi => ⟨h', by rw [← hl]; exact hi⟩⟩
  obtain ⟨rfl, k, hkv⟩ := y
  obtain ⟨w, hw, rw'⟩ := r'.getK hkv
  exact ⟨ω', .refl, S, w, by rw [List.getElem?_map, hw]; rfl, rw'⟩
theorem itR_items {K : PySem.W.Frag} {ω : Wd} {a : Addr} {o : Obj} {vs : List (Key × V)} {ws : List (Key × W)} (h : ω.D a = some (.frz o (.dK vs))) (r : RelK K ω ws vs) {g : Sto → Prop} : ItR K ω (Iti a o vs) (ws.map fun p => .tup [ofKey p.1, p.2]) g := fun ω' st' H' l S _ i => by
  have h' := S.fz _ _ _ (l.2 _ _ h)
  have r' := r.up l
  have hl := RelK.length r
  rw [List.length_map]
  refine ⟨fun hi => ⟨⟨h', by rw [← hl]; exact hi⟩, fun x H'' y => ?_⟩, fun hi => ⟨h', by rw [← hl]; exact hi⟩⟩
  obtain ⟨p, k, v, hkv, rfl, hp, rfl⟩ := y
  obtain ⟨w, hw, rw'⟩ := r'.getK hkv
  obtain ⟨S', t⟩ := S.laid hp (.tup [kV k, v])
  exact ⟨_, t, S', .tup [ofKey k, w], by rw [List.getElem?_map, hw]; rfl, .tup (.inl (.inl upd_same)) (.cons (ofKey_ok k) (.cons (rw'.up t.le) .nil))⟩
theorem set_self {α : Type} {l : List α} {i : Nat} {x : α} (h : l[i]? = some x) : l.set i x = l := by
  obtain ⟨hi, e⟩ := List.getElem?_eq_some_iff.mp h
  rw [← e]; exact List.set_getElem_self hi
theorem frz_ok {K : PySem.W.Frag} {ω : Wd} {st : Sto} {H : Hp} (S : StR K ω st H) {k : Nat} {a : Addr} {b : Bool} {d : Cell} (e1 : ω.ρ[k]? = some a) (e2 : st[k]? = some (b, d)) (hc : (∃ l, d = .lst l) ∨ ∃ C l, d = .ins C l) :
    ∃ ω', Stp ω st H ω' (st.set k (false, d)) H ∧ StR K ω' (st.set k (false, d)) H ∧ SRel K ω' a d := by
  cases b with
  | true =>
    obtain ⟨ω', S', t, r⟩ := S.freeze e1 e2 hc
    exact ⟨_, t, S', r⟩
  | false =>
    rw [set_self e2]
    exact ⟨ω, .refl, S, S.stl k a d e1 e2⟩
/-- a dict that is locked, or may be locked now -/
theorem lock_ok {K : PySem.W.Frag} {ω : Wd} {st : Sto} {H : Hp} (S : StR K ω st H) {w : W} {v : V} (r : Rel K ω w v) {Q : List (Key × W) → Sto → Prop} (q : frzD w st Q) :
    ∃ a vs l st', v = .ref a ∧ Q l st' ∧ ((∃ ω' o, Stp ω st H ω' st' H ∧ StR K ω' st' H ∧ H a = some (.frz o (.dK vs)) ∧ ω'.D a = some (.frz o (.dK vs)) ∧ (l.map (·.1)).Nodup ∧ RelK K ω' l vs) ∨
      (H a = some (.dK vs) ∧ ∀ o, ∃ ω', Stp ω st H ω' st' (upd H a (.frz o (.dK vs))) ∧ StR K ω' st' (upd H a (.frz o (.dK vs))) ∧ ω'.D a = some (.frz o (.dK vs)) ∧ (l.map (·.1)).Nodup ∧ RelK K ω' l vs)) := by
  rcases q with ⟨l, rfl, q⟩ | ⟨n, l, b, rfl, e, q⟩
  · cases r with
    | dct s nd r => exact ⟨_, _, l, st, rfl, q, .inl ⟨ω, _, .refl, S, S.fz _ _ _ s, s, nd, r⟩⟩
  · cases r with
    | ref e1 =>
      cases b with
      | false =>
        obtain ⟨o, vs, s, nd, r⟩ := S.stl _ _ _ e1 e
        rw [set_self e] at q
        exact ⟨_, vs, l, st, rfl, q, .inl ⟨ω, o, .refl, S, S.fz _ _ _ s, s, nd, r⟩⟩
      | true =>
        obtain ⟨vs, hh, go⟩ := S.freezeD e1 e
        refine ⟨_, vs, l, _, rfl, q, .inr ⟨hh, fun o => ?_⟩⟩
        obtain ⟨ω', S', t, o', vs', hd, nd, rl⟩ := go o
        have e2 := S'.fz _ _ _ hd
        rw [upd_same] at e2
        cases e2
        exact ⟨ω', t, S', hd, nd, rl⟩
theorem walk_ok {K : PySem.W.Frag} {ω : Wd} {st : Sto} {H : Hp} (S : StR K ω st H) {w : W} {v : V} (r : Rel K ω w v) {Q : List W → (Sto → Prop) → Sto → Prop} (q : walkP w st Q) :
    (∃ ω' st' items g a, Stp ω st H ω' st' H ∧ StR K ω' st' H ∧ v = .ref a ∧ (((∃ vs, SqL K H a vs) ∧ ItR K ω' (Itl K a) items g) ∨ ((∃ vs, SqT K H a vs) ∧ ItR K ω' (Itt K a) items g)) ∧ Q items g st') ∨
    ∃ l, frzD w st fun l' st' => l' = l ∧ Q (l.map fun p => ofKey p.1) gT st' := by
  rcases q with ⟨l, rfl, q⟩ | ⟨l, rfl, q⟩ | ⟨ns, rfl, q⟩ | ⟨k, l, b, rfl, e, q⟩ | ⟨k, l, rfl, e, q⟩ | ⟨l, rfl, q⟩ | ⟨k, l, b, rfl, e, q⟩
  · cases r with | lst s r => exact .inl ⟨ω, st, l, gT, _, .refl, S, rfl, .inl ⟨⟨_, S.lst (.inl s)⟩, itR_lst (.inl s) r⟩, q⟩
  · cases r with | tup s r => exact .inl ⟨ω, st, l, gT, _, .refl, S, rfl, .inr ⟨⟨_, S.tup s⟩, itR_tup s r⟩, q⟩
  · cases r with | scr s => exact .inl ⟨ω, st, _, gT, _, .refl, S, rfl, .inl ⟨⟨_, S.lst s⟩, itR_lst s (RelL.ints ns)⟩, q⟩
  · cases r with
    | ref e1 =>
      obtain ⟨ω', t, S', vs, hd, rl⟩ := frz_ok S e1 e (.inl ⟨_, rfl⟩)
      exact .inl ⟨ω', _, l, gT, _, t, S', rfl, .inl ⟨⟨vs, S'.lst (.inl (.inl hd))⟩, itR_lst (.inl (.inl hd)) rl⟩, q⟩
  · cases r with
    | ref e1 =>
      obtain ⟨vs, hh, rl⟩ := S.cel k _ _ e1 e
      exact .inl ⟨ω, st, l, _, _, .refl, S, rfl, .inl ⟨⟨vs, .inl (.inl hh)⟩, itR_alv e1⟩, q⟩
  · exact .inr ⟨l, .inl ⟨l, rfl, rfl, q⟩⟩
  · exact .inr ⟨l, .inr ⟨k, l, b, rfl, e, rfl, q⟩⟩
def TIo (T : Tb) (K : PySem.W.Frag) (Wx : WX) (m : Env' → Sto → XPo → Po → Prop) : TI := fun σ H R => ∃ ω env st Ex, ∃ Q : List W → (Sto → Prop) → Sto → Prop, EnvR K ω env σ ∧ StR K ω st H ∧ m env st Ex (fun w s => walkP w s Q) ∧
  (∀ ω' items g st' H' J, Stp ω st H ω' st' H' → StR K ω' st' H' → ItR K ω' J items g → Q items g st' → R J H') ∧ KX T K ω st H Ex fun c d H' => Wx c d σ H'
/-- a list, a tuple, or a dict's keys -/
theorem pi_any {tg l : Expr} {tl : TE} (hl : PE X l tl) : PI X tg l (fun σ H R => tl σ H fun x H1 => (∃ a, x = .ref a ∧ (((∃ xs, SqL X.K H1 a xs) ∧ R (Itl X.K a) H1) ∨ ((∃ xs, SqT X.K H1 a xs) ∧ R (Itt X.K a) H1))) ∨
    ∃ a o kvs, x = .ref a ∧ ((H1 a = some (.frz o (.dK kvs)) ∧ R (Itk a o kvs) H1) ∨ (H1 a = some (.dK kvs) ∧ ∀ o, R (Itk a o kvs) (upd H1 a (.frz o (.dK kvs)))))) := by
  refine ⟨fun pins s σ H R I h => ?_⟩
  have hl' := hl.run pins s σ H _ I h
  refine thn hl' fun v s1 ⟨x, H1, I1, r1, q⟩ => ?_
  rcases q with ⟨a, e, q⟩ | ⟨a, o, kvs, e, q⟩
  · subst e
    cases r1
    have nw : ∀ {ob : Obj} (b : Addr), b ∈ [s1.heap.objs.size] → FpOk X pins H1 b := fun {ob} b hb => by
      have e : b = s1.heap.objs.size := by simpa using hb
      rw [e]
      exact I1.fpOk (Nat.le_refl _) (I1.hok.fresh (Nat.le_refl _))
    have kp : ∀ ob : Obj, Inv X pins σ H1 { s1 with heap := s1.heap.push ob } := fun ob => I1.kept (t' := s1.toks) fun b o e => Heap.get?_push_of_some _ e
    rcases q with ⟨⟨xs, hq⟩, q⟩ | ⟨⟨xs, hq⟩, q⟩
    · obtain ⟨its, rv, p, hz⟩ := I1.list hq
      exact wpAny_pyIter_list p.isList ⟨s1.heap.objs.size, [s1.heap.objs.size], _, Itl X.K a, H1, rfl, kp _, turn_list a _, ⟨_, Heap.get?_push_size _ rfl, rfl, rfl⟩, nw (ob := default), q⟩
    · obtain ⟨its, rv, p, hz⟩ := I1.tuple hq
      exact wpAny_pyIter_tuple (show s1.heap.IsTuple a its.toArray from p) ⟨s1.heap.objs.size, [s1.heap.objs.size], _, Itt X.K a, H1, rfl, kp _, turn_tuple a _, ⟨_, Heap.get?_push_size _ rfl, rfl, rfl⟩, nw (ob := default), q⟩
  · subst e
    obtain rfl : v = Value.ref a := r1
    have go : ∀ {H2 : Hp} {o : Obj}, Inv X pins σ H2 s1 → H2 a = some (.frz o (.dK kvs)) → R (Itk a o kvs) H2 → wpAny (model X.prog X.w) X.A (pyIter (.ref a)) (PIE X pins σ tg R) X.xe s1 := fun {H2 o} I2 hd q => by
      obtain ⟨hs, hgd, hx, es, ep, vs, hdt, hsz, kv, hm⟩ := I2.frzK hd
      refine iter_keys hs hgd hx hdt (pi_one (tk := s1.toks) I2 _ (turn_keys _ hdt) ⟨_, Heap.get?_push_size _ rfl, rfl, ?_⟩ q)
      rw [hsz] <;> rfl
    rcases q with ⟨hd, q⟩ | ⟨hd, q⟩
    · exact go I1 hd q
    · obtain ⟨od, I2⟩ := I1.lock hd trivial
      exact go I2 upd_same (q od)
theorem pi_val {tg e : Expr} {m : Env' → Sto → XPo → Po → Prop} (h : PE X e (TO T X.K Wx m)) : PI X tg e (TIo T X.K Wx m) := by
  refine pi_imp (pi_any h) fun σ H R q => ?_
  obtain ⟨ω, env, st, Ex, Q, E, S, hm, k, kx⟩ := q
  refine TO.step E S hm kx fun ω' w v st' H' t S' E' r q kx' => ?_
  rcases walk_ok S' r q with ⟨ω2, st2, items, g, a, t2, S2, rfl, hs, q⟩ | ⟨l, q⟩
  · refine .inl ⟨a, rfl, ?_⟩
    rcases hs with ⟨hs, ir⟩ | ⟨hs, ir⟩
    · exact .inl ⟨hs, k _ _ _ _ _ _ (t.trans t2) S2 ir q⟩
    · exact .inr ⟨hs, k _ _ _ _ _ _ (t.trans t2) S2 ir q⟩
  · obtain ⟨a, vs, l', st2, rfl, ⟨rfl, q⟩, hs⟩ := lock_ok S' r q
    rcases hs with ⟨ω2, o, t2, S2, hd, hD, nd, rl⟩ | ⟨hd, go⟩
    · exact .inr ⟨a, o, vs, rfl, .inl ⟨hd, k _ _ _ _ _ _ (t.trans t2) S2 (itR_keys hD rl) q⟩⟩
    · refine .inr ⟨a, default, vs, rfl, .inr ⟨hd, fun o => ?_⟩⟩
      obtain ⟨ω2, t2, S2, hD, nd, rl⟩ := go o
      exact k _ _ _ _ _ _ (t.trans t2) S2 (itR_keys hD rl) q
end
end Zk

namespace Zk
open PySem PySem.Spec PyProof.Rows L2

section
variable {T : Tb} {n : Nat} {C : Calls} {c : Cz} {Wx : WX} {X : Cx}
/-! ### calls -/
theorem run_g {k : Nat} {f : Addr} {fd : FuncData} {ps : List Str} {sp : Sp} {E : XK} {pins : List (Addr × Obj)} {σ : L2.St} {H : Hp} {s : Shared} {Q : VK} {us bs : List Value} {kw : List (Str × Value)} {vs : List V}
    (F : FnG X.prog X.w X.K X.mg X.base k f fd ps sp) (hr : RoomG k X.A) (hb : bs.length = ps.length → BindsTo s fd ⟨us, kw⟩ (ps.zip bs)) (hx : PassesAt (L2.CX X.prog X.w) X σ E) (I : Inv X pins σ H s) (r : Vals vs bs) (h : sp vs H Q E) :
    wpAny (model X.prog X.w) X.A (call (.ref f) us kw) (EP X pins σ Q) X.xe s := by
  have hl : bs.length = ps.length := by rw [← r.length]; exact F.len _ _ _ _ h
  refine wpAny_call (codeAny_mono (F.run X.A X.stack s H ⟨us, kw⟩ bs vs Q E hr I.env0 (hb hl) r h) fun rr s' hq => ?_)
  match rr, hq with
  | .error e, hq => exact hx pins H s e s' I hq
  | .ok (.ret u), hq => exact I.after hq
  | .ok .next, hq => exact False.elim hq
  | .ok .brk, hq => exact False.elim hq
  | .ok .cont, hq => exact False.elim hq
theorem Good.fnAt (g : Good T n C c Wx X) {i : Nat} {x : Str} {k : Nat} (hf : c.fns[i]? = some (x, k)) : ∃ f, T.fns[i]? = some f ∧ f.nm = x ∧ f.ps.length = k := by
  rw [g.fns, List.getElem?_map] at hf
  cases hf' : T.fns[i]? with
  | none => rw [hf'] at hf; cases hf
  | some f =>
    rw [hf'] at hf
    simp only [Option.map_some, Option.some.injEq, Prod.mk.injEq] at hf
    exact ⟨f, rfl, hf.1, hf.2⟩
/-- a def's meaning at the values, its promise -/
theorem sp_of (g : Good T n C c Wx X) {i : Nat} {f : Fd} (hf : T.fns[i]? = some f) {σ : L2.St} {ω ω1 : Wd} {st st1 : Sto} {H H1 : Hp} {ws : List W} {vs : List V} {Ex : XPo} {Q : Po} {Q' : VK}
    (t : Stp ω st H ω1 st1 H1) (S : StR X.K ω1 st1 H1) (r : RelL X.K ω1 ws vs) (q : C i ws st1 Ex Q) (k : KQ X.K ω st H Q Q') (kx : KX T X.K ω st H Ex fun cls d H' => Wx cls d σ H') :
    spOf T X.K C i f.ps.length vs H1 Q' fun cls d H' => Wx cls d σ H' := ⟨by rw [← r.length]; exact g.tb.ar i f ws st1 Ex Q hf q, ω1, ws, st1, Q, Ex, S, r, q, k.on t, kx.on t⟩
theorem pe_cal0 (g : Good T n C c Wx X) (hc : c.calm = true) {i : Nat} {x : Str} {p pos : Pos} (hf0 : c.fns[i]? = some (x, 0)) (hg : glB c.sc x = true) (hp : plB x = true) :
    PE X (.Call (.Name x p) [] [] pos) (TO T X.K Wx fun env st Ex Q => C i [] st Ex Q) := by
  obtain ⟨f, hf, rfl, hl⟩ := g.fnAt hf0
  obtain ⟨F, hm, hk, hb⟩ := g.tb.fn i f hf
  refine ⟨fun pins s σ H Q' I q => wpAny_Call_Name_kw (ld_glob I (g.gl hg) (hm (plB_4 hp)) ?_ (plB_1 hp))⟩
  obtain ⟨ω, env, st, Q, Ex, E, S, q, k, kx⟩ := q
  refine PySem.W.callWith_K0 I.kIn hk (run_g (bs := []) (kw := []) F ((g.room hc).mono (Nat.le_succ _)) (fun z => ?_) (passAt g.tk σ) I .nil (sp_of g hf .refl S .nil q k kx))
  have := hb s [] I.kIn z
  rwa [List.append_nil] at this
theorem pe_cal (g : Good T n C c Wx X) (hc : c.calm = true) {i : Nat} {x : Str} {p pos : Pos} {e : Expr} {es : List Expr} {k : Nat} {m : Env' → Sto → XPo → Po → Prop} (hf0 : c.fns[i]? = some (x, k)) (hg : glB c.sc x = true) (hp : plB x = true)
    (hs : argB (e :: es) = true) (ha : PA X (e :: es) (TL T X.K Wx m)) : PE X (.Call (.Name x p) (e :: es) [] pos) (TO T X.K Wx fun env st Ex Q => m env st Ex fun w st1 => ∃ ws, w = .tup ws ∧ C i ws st1 Ex Q) := by
  obtain ⟨f, hf, rfl, hl⟩ := g.fnAt hf0
  obtain ⟨F, hm, hk, hb⟩ := g.tb.fn i f hf
  simp only [argB, List.all_cons, Bool.and_eq_true] at hs
  refine ⟨fun pins s σ H Q' I q => wpAny_Call_Name_kw (ld_glob I (g.gl hg) (hm (plB_4 hp)) ?_ (plB_1 hp))⟩
  refine PySem.W.callWith_K (h₀ := X.base) I.ok.mod.kin hk (thn (ha.run pos pins s σ H (fun vs H1 => spOf T X.K C i f.ps.length vs H1 Q' fun cls d H' => Wx cls d σ H') I ?_) fun us s1 ⟨vs, H1, I1, r, q1⟩ => ⟨I1.kIn, ?_⟩) (starEach_of hs.1) (star_any hs.2)
  · obtain ⟨ω, env, st, Q, Ex, E, S, hm, k, kx⟩ := q
    refine ⟨ω, env, st, _, Ex, E, S, hm, fun ω1 w st1 H1 t1 S1 ⟨ws', e', q⟩ ws vs ew r => ?_, kx⟩
    subst e'
    cases ew
    exact sp_of g hf t1 S1 r q k kx
  · refine run_g (bs := us) (kw := []) F ((g.room hc).mono (Nat.le_succ _)) (fun z => ?_) (passAt g.tk σ) I1 r q1
    have := hb s1 us I1.kIn (by rw [List.append_nil]; exact z)
    rwa [List.append_nil] at this
/-! keywords -/
theorem kw_all {pos : Pos} {env : Env} : ∀ {kws : List Keyword} {ks : List Str}, kws.map (·.arg) = ks.map some →
    (backToKw pos (keywordEach kws env)).all (·.1.isSome) = true ∧ (backToKw pos (keywordEach kws env)).filterMap (·.1) = ks ∧ (backToKw pos (keywordEach kws env)).any (·.1.isNone) = false
  | [], [], _ => ⟨rfl, rfl, rfl⟩
  | [], _ :: _, h => by cases h
  | _ :: _, [], h => by cases h
  | ⟨a, v, p⟩ :: kws, k :: ks, h => by
    simp only [List.map_cons, List.cons.injEq] at h
    obtain ⟨h1, h2⟩ := h
    obtain ⟨a1, a2, a3⟩ := kw_all (pos := pos) (env := env) h2
    subst h1
    refine ⟨?_, ?_, ?_⟩
    · show (true && _) = true; rw [Bool.true_and]; exact a1
    · show k :: _ = k :: ks; rw [← a2]; rfl
    · show (false || _) = false; rw [Bool.false_or]; exact a3
theorem picked_ok {vs zs : List V} {us ws : List Value} (perm : List Nat) (r : Vals vs us) (q : Vals zs ws) : Vals (picked perm vs zs) (picked perm us ws) := by
  unfold picked
  refine r.append ?_
  induction perm with
  | nil => exact .nil
  | cons i is ih =>
    rw [List.filterMap_cons, List.filterMap_cons]
    cases e : zs[i]? with
    | none => rw [q.none_of e]; exact ih
    | some x =>
      obtain ⟨u, hu, ru⟩ := q.get e
      rw [hu]
      exact .cons ru ih
theorem RelL.picked {K : PySem.W.Frag} {ω : Wd} {a b : List W} {vs zs : List V} (perm : List Nat) (r : RelL K ω a vs) (q : RelL K ω b zs) : RelL K ω (a ++ perm.filterMap fun i => b[i]?) (Zk.picked perm vs zs) := by
  unfold Zk.picked
  refine r.append ?_
  induction perm with
  | nil => exact .nil
  | cons i is ih =>
    rw [List.filterMap_cons, List.filterMap_cons]
    cases e : b[i]? with
    | none =>
      have : zs[i]? = none := by
        rw [List.getElem?_eq_none_iff] at e ⊢
        rw [← q.length]; exact e
      rw [this]; exact ih
    | some x =>
      obtain ⟨u, hu, ru⟩ := q.get e
      rw [hu]
      exact .cons ru ih
theorem pe_calK (g : Good T n C c Wx X) (hc : c.calm = true) {i j : Nat} {x : Str} {p pos : Pos} {args : List Expr} {kws : List Keyword} {q : Kw} {m mk : Env' → Sto → XPo → Po → Prop} (hq : c.kws[j]? = some q) (hqf : q.f = i) (hqn : q.n = args.length) (hqa : kws.map (·.arg) = q.ks.map some)
    (hf0 : (c.fns[i]?).map (·.1) = some x) (hg : glB c.sc x = true) (hp : plB x = true) (hs : argB args = true) (hn : args = [] → ∀ env st Ex Q, m env st Ex Q → Q (.tup []) st)
    (ha : PA X args (TL T X.K Wx m)) (hk0 : PK X kws (TL T X.K Wx mk)) : PE X (.Call (.Name x p) args kws pos) (TO T X.K Wx fun env st Ex Q => m env st Ex fun w st1 => ∃ ws, w = .tup ws ∧ ws.length = args.length ∧ mk env st1 Ex fun w' st2 => ∃ ws', w' = .tup ws' ∧ ws'.length = kws.length ∧ C i (ws ++ q.perm.filterMap fun i => ws'[i]?) st2 Ex Q) := by
  cases hff : c.fns[i]? with
  | none => rw [hff] at hf0; cases hf0
  | some xn =>
    obtain ⟨x', nn⟩ := xn
    rw [hff] at hf0
    have ex : x' = x := by simpa using hf0
    subst ex
    obtain ⟨f, hf, rfl, hl⟩ := g.fnAt hff
    obtain ⟨F, hm, hk, hb⟩ := g.tb.fn i f hf
    have hB := g.tb.kw j q f (by rw [← g.kws]; exact hq) (by rw [hqf]; exact hf)
    obtain ⟨a1, a2, a3⟩ := kw_all (pos := pos) (env := X.env) hqa
    have hkl : kws.length = q.ks.length := by have := congrArg List.length hqa; simpa using this
    -- the keywords' values and the call
    have tail : ∀ (pins : List (Addr × Obj)) (σ : L2.St) (Q' : VK) (ω ω1 : Wd) (env : Env') (st st1 : Sto) (H H1 : Hp) (s1 : Shared) (us : List Value) (vs : List V) (ws : List W) (Q : Po) (Ex : XPo),
        Inv X pins σ H1 s1 → Vals vs us → RelL X.K ω1 ws vs → ws.length = args.length → EnvR X.K ω1 env σ → Stp ω st H ω1 st1 H1 → StR X.K ω1 st1 H1 → KQ X.K ω st H Q Q' → KX T X.K ω st H Ex (fun cls d H' => Wx cls d σ H') →
        mk env st1 Ex (fun w' st2 => ∃ ws', w' = .tup ws' ∧ ws'.length = kws.length ∧ C i (ws ++ q.perm.filterMap fun i => ws'[i]?) st2 Ex Q) →
        wpAny (model X.prog X.w) X.A (evalAll ((backToKw pos (keywordEach kws X.env)).map (·.2))) (fun ks s₂ => X.K.In s₂.heap ∧ wpAny (model X.prog X.w) X.A (call (.ref f.at_) us (q.ks.zip ks)) (EP X pins σ Q') X.xe s₂) X.xe s1 :=
      fun pins σ Q' ω ω1 env st st1 H H1 s1 us vs ws Q Ex I1 r rl hwl E t S k kx h => by
        refine thn (hk0.run pos pins s1 σ H1 (fun zs H2 => zs.length = q.ks.length ∧ ∃ ω2 st2 ws', Stp ω st H ω2 st2 H2 ∧ StR X.K ω2 st2 H2 ∧ RelL X.K ω2 ws vs ∧ RelL X.K ω2 ws' zs ∧ C i (ws ++ q.perm.filterMap fun i => ws'[i]?) st2 Ex Q) I1 ?_) fun bs s2 ⟨zs, H2, I2, rz, hzl, ω2, st2, ws', t2, S2, rl2, rz2, hC⟩ => ⟨I2.kIn, ?_⟩
        · refine ⟨ω1, env, st1, _, Ex, E, S, h, fun ω2 w st2 H2 t2 S2 ⟨ws', e1, l1, hC⟩ ws2 zs ew rz => ?_, kx.on t⟩
          subst e1
          cases ew
          exact ⟨by rw [← rz.length, l1, hkl], ω2, st2, _, t.trans t2, S2, rl.up t2.le, rz, hC⟩
        · have sp := sp_of (Wx := Wx) g hf (σ := σ) t2 S2 (RelL.picked q.perm rl2 rz2) hC k kx
          refine run_g (kw := q.ks.zip bs) F ((g.room hc).mono (Nat.le_succ _)) (fun _ => hB.to s2 us bs I2.kIn (by rw [← r.length, ← rl2.length, hwl, hqn]) (by rw [← rz.length, hzl])) (passAt g.tk σ) I2 (picked_ok q.perm r rz) sp
    cases args with
    | nil =>
      refine ⟨fun pins s σ H Q' I z => wpAny_Call_Name_kw (ld_glob I (g.gl hg) (hm (plB_4 hp)) ?_ (plB_1 hp))⟩
      refine PySem.W.callWith_KW0 (h₀ := X.base) I.ok.mod.kin hk a1 ?_ (by show (false || _) = false; rw [Bool.false_or]; exact a3)
      rw [a2]
      obtain ⟨ω, env, st, Q, Ex, E, S, h, k, kx⟩ := z
      obtain ⟨ws, ew, _, h⟩ := hn rfl _ _ _ _ h
      cases ew
      exact tail pins σ Q' ω ω env st st H H s [] [] [] Q Ex I .nil .nil rfl E .refl S k kx h
    | cons e es =>
      simp only [argB, List.all_cons, Bool.and_eq_true] at hs
      refine ⟨fun pins s σ H Q' I z => wpAny_Call_Name_kw (ld_glob I (g.gl hg) (hm (plB_4 hp)) ?_ (plB_1 hp))⟩
      obtain ⟨ω, env, st, Q, Ex, E, S, h, k, kx⟩ := z
      refine PySem.W.callWith_KW (h₀ := X.base) I.ok.mod.kin hk a1 (thn (ha.run pos pins s σ H (fun vs H1 => ∃ ω1 st1 ws, ws.length = (e :: es).length ∧ Stp ω st H ω1 st1 H1 ∧ StR X.K ω1 st1 H1 ∧ EnvR X.K ω1 env σ ∧ RelL X.K ω1 ws vs ∧ mk env st1 Ex (fun w' st2 => ∃ ws', w' = .tup ws' ∧ ws'.length = kws.length ∧ C i (ws ++ q.perm.filterMap fun i => ws'[i]?) st2 Ex Q)) I ?_) fun us s1 ⟨vs, H1, I1, r, ω1, st1, ws, hwl, t, S1, E1, rl, h⟩ => ?_) ?_ (starEach_of hs.1)
      · refine ⟨ω, env, st, _, Ex, E, S, h, fun ω1 w st1 H1 t1 S1 ⟨ws', e0, l0, h⟩ ws vs ew r => ?_, kx⟩
        subst e0
        cases ew
        exact ⟨ω1, st1, _, l0, t1, S1, E.up t1.le, r, h⟩
      · rw [a2]
        exact tail pins σ Q' ω ω1 env st st1 H H1 s1 us vs ws Q Ex I1 r rl hwl E1 t S1 k kx h
      · rw [a3, Bool.or_false]
        exact star_any (by simp only [List.all_cons, Bool.and_eq_true]; exact hs)

/-! ### list comprehensions -/
theorem wipe_in {σ : L2.St} {i : Nat} : ∀ {vs : List Nat}, i ∈ vs → (L2.wipe σ vs)[i]? = if i < σ.length then some none else none
  | [], h => by simp at h
  | v :: vs, h => by
    show ((L2.wipe σ vs).set v none)[i]? = _
    by_cases e : v = i
    · subst e
      by_cases hl : v < (L2.wipe σ vs).length
      · rw [List.getElem?_set_self hl]; rw [wipe_length] at hl; rw [if_pos hl]
      · rw [List.getElem?_eq_none (by simpa using hl)]; rw [wipe_length] at hl; rw [if_neg hl]
    · rw [List.getElem?_set_ne e]
      rcases List.mem_cons.mp h with z | z
      · exact absurd z.symm e
      · exact wipe_in z
theorem wipe_eq {σ σ' : L2.St} {vs : List Nat} (hl : σ'.length = σ.length) (h : ∀ j, j ∉ vs → σ'[j]? = (L2.wipe σ vs)[j]?) : L2.wipe σ' vs = L2.wipe σ vs := by
  apply List.ext_getElem?
  intro j
  by_cases hj : j ∈ vs
  · rw [wipe_in hj, wipe_in hj, hl]
  · rw [wipe_out hj, h j hj]
theorem KQ.take {K : PySem.W.Frag} {ω0 ω : Wd} {st0 st : Sto} {H0 H : Hp} {Q : Po} {Q' : VK} (k : KQ K ω0 st0 H0 Q Q') (t : Stp ω0 st0 H0 ω st H) (S : StR K ω st H) {D : Addr} {ws : List W} {vs : List V}
    (h0 : H0 D = none) (h : H D = some (.lst vs)) (hd : ω.D D = none) (ha : ¬ Alive ω st D) (r : RelL K ω ws vs) {m : Bool} (q : Zk.newL m ws st Q) : Q' (.ref D) H := by
  cases m with
  | true =>
    obtain ⟨S', t'⟩ := S.takeM t h0 (c := .lst ws) ⟨vs, h, r.up Wd.le_more⟩ hd ha
    refine k _ _ _ _ _ t' S' (.ref (n := st.length) ?_) (q.2.1 rfl)
    show (ω.ρ ++ [D])[st.length]? = some D
    rw [← S.len]; simp
  | false =>
    obtain ⟨S', t'⟩ := S.take t h0 h hd ha
    exact k _ _ _ _ _ t' S' (.lst (.inl upd_same) (r.up (Wd.le_still hd))) (q.2.2 rfl)
/-- a test's clause list, by its meaning: nothing or one test -/
def TTs (T : Tb) (K : PySem.W.Frag) (Wx : WX) (m : Env' → Sto → XPo → Po → Prop) : TT := fun σ H Q' => ∃ ω env st Ex, ∃ Q : Bool → Sto → Prop, EnvR K ω env σ ∧ StR K ω st H ∧
  m env st Ex (fun cw s => (cw = .tup [] ∧ Q true s) ∨ ∃ x b, cw = .tup [x] ∧ truth s x = some b ∧ Q b s) ∧
  (∀ ω' b st' H', Stp ω st H ω' st' H' → StR K ω' st' H' → Q b st' → Q' b H') ∧ KX T K ω st H Ex fun c d H' => Wx c d σ H'
def blkCx (X : Cx) (scope : Scope) (s : Shared) (H : Hp) (C : Addr) (cl : List (Str × Addr)) (fp : List Addr) : Cx := X.blk s H scope (compEnvC scope cl C X.env) fp
def WF : WX := fun _ _ _ _ => False
theorem Good.blk (g : Good T n C c Wx X) (scope : Scope) (s : Shared) (H : Hp) (D : Addr) (cl : List (Str × Addr)) (fp : List Addr) : Good T n C (c.blk scope) WF (blkCx X scope s H D cl fp) where
  tb := ⟨g.tb.fn, g.tb.gb, g.tb.kw, g.tb.bl, g.tb.ex, g.tb.em, g.tb.ar, g.tb.no, g.tb.cl, g.tb.ta, g.tb.xo, g.tb.ts, g.tb.gc⟩
  fns := g.fns
  gbs := g.gbs
  kws := g.kws
  exs := g.exs
  em := g.em
  cls := g.cls
  tas := g.tas
  tss := g.tss
  gcd := g.gcd
  kit := g.kit
  N := g.N
  nd := g.nd
  sc := by
    have e : (blkCx X scope s H D cl fp).env.scope = relS scope X.env.scope := rfl
    rw [e, g.sc]; rfl
  calm := g.calm
  room := g.room
  big := g.big
  tk := takes0
  fnl := fun x h => by
    have h : (match scope.names.lookup x with | some .cell => true | _ => false) = true := h
    show (scope.names.lookup x == some .cell) = true
    split at h
    · rename_i e; rw [e]; rfl
    · cases h
/-- one turn's meaning -/
def lcF (t : Tg) (vs : List Nat) (env : Env') (mc me : Env' → Sto → XPo → Po → Prop) : W → Sto → (Option W → Sto → Prop) → Prop := fun x s K =>
  tgP t x (wipeE env vs) fun env1 => mc env1 s noX fun cw s1 => (cw = .tup [] ∧ me env1 s1 noX fun y s2 => K (some y) s2) ∨
    ∃ x b, cw = .tup [x] ∧ truth s1 x = some b ∧ ((b = true → me env1 s1 noX fun y s2 => K (some y) s2) ∧ (b = false → K none s1))
theorem pe_lcG (g : Good T n C c Wx X) (hc : c.calm = true) {m : Bool} {own : List (Str × Nat)} {t : Tg} {elt tg iter : Expr} {ifs : List Expr} {scope : Scope} {pos : Pos} {mi mc me : Env' → Sto → XPo → Po → Prop}
    (hns : notSet iter = true) (hb : blkB c scope own t = true) (ht : tgB (c.blk scope) t tg = true) (hi : PI X tg iter (TIo T X.K Wx mi))
    (hcs : ∀ (s : Shared) (H : Hp) (D : Addr) (cl : List (Str × Addr)) (fp : List Addr), PTs (blkCx X scope s H D cl fp) ifs (TTs T X.K WF mc))
    (he : ∀ (s : Shared) (H : Hp) (D : Addr) (cl : List (Str × Addr)) (fp : List Addr), PE (blkCx X scope s H D cl fp) elt (TO T X.K WF me)) :
    ∃ R : TE, (∀ (Y : TE → Prop), Y (tLc (TIo T X.K Wx mi) (TGo X.K t) (TTs T X.K WF mc) (TO T X.K WF me) (own.map (·.2))) → Y R) ∧ ∀ σ H Q', TO T X.K Wx (fun env st Ex Q => mi env st Ex fun w st1 => walkP w st1 fun items grd st2 => items.length ≤ sizeLine ∧
      lcP (lcF t (own.map (·.2)) env mc me) grd items [] st2 fun ws st3 => newL m ws st3 Q) σ H Q' → R σ H Q' := by
  refine ⟨_, fun Y h => h, fun σ H Q' q => ?_⟩
  simp only [blkB, Bool.and_eq_true, List.all_eq_true] at hb
  obtain ⟨hb1, hb2⟩ := hb
  have slots : ∀ j, j ∉ own.map (·.2) → j ∉ t.slots := fun j hj hm => hj (by have := hb2 j hm; simpa using this)
  obtain ⟨ω, env, st, Q, Ex, E, S, hm, k, kx⟩ := q
  refine ⟨ω, env, st, Ex, _, E, S, hm, fun ω1 items grd st1 H1 J t1 S1 it ⟨hz, hq⟩ D hD => ?_, kx⟩
  have E1 := E.up t1.le
  have hdD := S1.dfree hD
  have haD : ¬ Alive ω1 st1 D := fun z => by obtain ⟨o, e⟩ := S1.alive_some z; rw [hD] at e; cases e
  refine ⟨fun i mm H => mm = items.length - i ∧ i ≤ items.length ∧ ∃ ω2 st2 accW accV, Stp ω1 st1 H1 ω2 st2 H ∧ StR X.K ω2 st2 H ∧ H D = some (.lst accV) ∧ ω2.D D = none ∧ ¬ Alive ω2 st2 D ∧ RelL X.K ω2 accW accV ∧ accV.length ≤ i ∧
      lcP (lcF t (own.map (·.2)) env mc me) grd (items.drop i) accW st2 fun ws st3 => newL m ws st3 Q,
    ⟨_, rfl, Nat.zero_le _, ω1, st1, [], [], Stp.refl.outside hD, S1.outside hdD haD, upd_same, hdD, haD, .nil, Nat.le_refl _, hq⟩, ?_⟩
  rintro i mm H2 ⟨rfl, hil, ω2, st2, accW, accV, t2, S2, hD2, hd2, ha2, ra, hal, hq2⟩
  have hgrd : grd st2 := by
    cases e : items.drop i with
    | nil => rw [e] at hq2; exact hq2.1
    | cons => rw [e] at hq2; exact hq2.1
  obtain ⟨itg, its⟩ := it ω2 st2 H2 t2.le S2 hgrd i
  by_cases hlt : i < items.length
  · refine .inr ⟨(itg hlt).1, fun H' => (items.length - (i + 1)) = items.length - (i + 1) ∧ i + 1 ≤ items.length ∧ ∃ ω2 st2 accW accV, Stp ω1 st1 H1 ω2 st2 H' ∧ StR X.K ω2 st2 H' ∧ H' D = some (.lst accV) ∧ ω2.D D = none ∧ ¬ Alive ω2 st2 D ∧ RelL X.K ω2 accW accV ∧ accV.length ≤ i + 1 ∧
      lcP (lcF t (own.map (·.2)) env mc me) grd (items.drop (i + 1)) accW st2 fun ws st3 => newL m ws st3 Q, fun H' h => ⟨_, by omega, h⟩, fun x H'' y => ?_⟩
    obtain ⟨ω2', t2', S2', w, hw, rw'⟩ := (itg hlt).2 x H'' y
    obtain ⟨hD2', ha2'⟩ := t2'.keep D _ hD2 ha2
    have hd2' := t2'.kd D _ hD2 ha2 hd2
    have ra' := ra.up t2'.le
    have t2n := t2.trans t2'
    have hdrop : items.drop i = w :: items.drop (i + 1) := by
      rw [List.drop_eq_getElem_cons hlt]
      rw [List.getElem?_eq_getElem hlt] at hw
      cases hw; rfl
    rw [hdrop] at hq2
    replace hq2 := hq2.2
    have hq3 : tgP t w (wipeE env (own.map (·.2))) fun env1 => mc env1 st2 noX fun cw s1 => (cw = .tup [] ∧ me env1 s1 noX fun y s2 => lcP (lcF t (own.map (·.2)) env mc me) grd (items.drop (i + 1)) (accW ++ [y]) s2 fun ws st3 => newL m ws st3 Q) ∨
      ∃ x b, cw = .tup [x] ∧ truth s1 x = some b ∧ ((b = true → me env1 s1 noX fun y s2 => lcP (lcF t (own.map (·.2)) env mc me) grd (items.drop (i + 1)) (accW ++ [y]) s2 fun ws st3 => newL m ws st3 Q) ∧ (b = false → lcP (lcF t (own.map (·.2)) env mc me) grd (items.drop (i + 1)) accW s1 fun ws st3 => newL m ws st3 Q)) := hq2
    -- the target
    refine ⟨ω2', wipeE env (own.map (·.2)), st2, w, _, (E1.up t2n.le).wipe _, S2', rw', hq3, fun env1 σ1 E2 ho hsl q1 => ⟨wipe_eq (by rw [hsl, wipe_length]) fun j hj => ho j (slots j hj), ?_⟩⟩
    -- the test
    refine ⟨ω2', env1, st2, noX, fun b s1 => (b = true → me env1 s1 noX fun y s2 => lcP (lcF t (own.map (·.2)) env mc me) grd (items.drop (i + 1)) (accW ++ [y]) s2 fun ws st3 => newL m ws st3 Q) ∧ (b = false → lcP (lcF t (own.map (·.2)) env mc me) grd (items.drop (i + 1)) accW s1 fun ws st3 => newL m ws st3 Q), E2, S2', ?_, ?_, fun _ _ _ _ _ _ _ z => False.elim z⟩
    · refine Eq.mp (congrArg (mc env1 st2 noX) ?_) q1
      funext cw s1
      refine propext ⟨fun h => ?_, fun h => ?_⟩
      · rcases h with ⟨e, h⟩ | ⟨x, b, e1, e2, h⟩
        · exact .inl ⟨e, fun _ => h, fun z => by cases z⟩
        · exact .inr ⟨x, b, e1, e2, h⟩
      · rcases h with ⟨e, h⟩ | ⟨x, b, e1, e2, h⟩
        · exact .inl ⟨e, h.1 rfl⟩
        · exact .inr ⟨x, b, e1, e2, h⟩
    · intro ω3 b st3 H3 t3 S3 ⟨h1, h2⟩
      obtain ⟨hD3, ha3⟩ := t3.keep D _ hD2' ha2'
      have hd3 := t3.kd D _ hD2' ha2' hd2'
      cases b with
      | false =>
        rw [if_neg Bool.false_ne_true]
        exact ⟨rfl, hlt, ω3, st3, accW, accV, t2n.trans t3, S3, hD3, hd3, ha3, ra'.up t3.le, by omega, h2 rfl⟩
      | true =>
        rw [if_pos rfl]
        refine ⟨ω3, env1, st3, _, noX, E2.up t3.le, S3, h1 rfl, fun ω4 z v st4 H4 t4 S4 r4 q4 => ?_, fun _ _ _ _ _ _ _ z => False.elim z⟩
        obtain ⟨hD4, ha4⟩ := t4.keep D _ hD3 ha3
        have hd4 := t4.kd D _ hD3 ha3 hd3
        exact ⟨accV, hD4, by omega, rfl, hlt, ω4, st4, accW ++ [z], accV ++ [v], ((t2n.trans t3).trans t4).outside hD, S4.outside hd4 ha4, upd_same, hd4, ha4, (ra'.up (t3.le.trans t4.le)).append (.cons r4 .nil), by simp; omega, q4⟩
  · have hi : i = items.length := by omega
    subst hi
    rw [List.drop_length] at hq2
    replace hq2 := hq2.2
    exact .inl ⟨its (Nat.le_refl _), KQ.take (k.on t1) t2 S2 hD hD2 hd2 ha2 ra hq2⟩
end
end Zk

namespace Zk
open PySem PySem.Spec PyProof.Rows L2

section
variable {T : Tb} {n : Nat} {C : Calls} {c : Cz} {Wx : WX} {X : Cx}
/-- a meaning that gives a truth alone -/
def mB (M : Env' → Sto → XPo → (Bool → Sto → Prop) → Prop) : Env' → Sto → XPo → Po → Prop := fun env st Ex Q => M env st Ex fun k s => Q (.bl k) s
theorem tB_of {M : Env' → Sto → XPo → (Bool → Sto → Prop) → Prop} {K : PySem.W.Frag} {σ : L2.St} {H : Hp} {Q' : Bool → Hp → Prop} (h : TB T K Wx (mB M) σ H Q') : TO T K Wx (mB M) σ H fun v H1 => ∃ b, v = .bl b ∧ Q' b H1 := by
  obtain ⟨ω, env, st, Ex, Q, E, S, h, k, kx⟩ := h
  refine ⟨ω, env, st, fun w s => ∃ b, w = .bl b ∧ Q b s, Ex, E, S, ?_, fun ω' w v st' H' t S' r ⟨b, e, q⟩ => ?_, kx⟩
  · refine Eq.mp (congrArg (M env st Ex) ?_) h
    funext k s
    refine propext ⟨fun ⟨b, e, q⟩ => ⟨b, ?_, q⟩, fun ⟨b, e, q⟩ => ⟨b, ?_, q⟩⟩
    · simp only [truth] at e; cases e; rfl
    · cases e; rfl
  · subst e
    exact ⟨b, r.bl_inv, k _ _ _ _ t S' q⟩
theorem pc_of {op : CmpOp} {r : R2} {a b : Expr} {ta tb : TE} (ho : OpR X (compareOp op) r) (ha : PE X a ta) (hb : PE X b tb) : PC X op a b (tOp r ta tb) := ⟨fun pins s σ H Q I h => bin ha hb I h fun v u s2 x y H2 I2 rx ry q => ho pins s2 σ H2 x y v u Q I2 rx ry q⟩
theorem pc_imp {op : CmpOp} {a b : Expr} {t t' : TE} (h : PC X op a b t) (w : ∀ σ H Q, t' σ H Q → t σ H Q) : PC X op a b t' := ⟨fun pins s σ H Q I q => h.run pins s σ H Q I (w σ H Q q)⟩
/-- from a comparison: as a value, as a test -/
theorem both {op : CmpOp} {a b : Expr} {pos : Pos} {M : Env' → Sto → XPo → (Bool → Sto → Prop) → Prop} (h : PC X op a b (TO T X.K Wx (mB M))) (hs : notSet b = true) :
    PE X (.Compare a [op] [b] pos) (TO T X.K Wx (mB M)) ∧ PT X (.Compare a [op] [b] pos) (TB T X.K Wx (mB M)) :=
  ⟨pe_cmp h (mark_of hs), pt_imp (pt_cmp h (mark_of hs)) fun σ H Q' q => tB_of q⟩
def mCmp (op : Co) (ma mb : Env' → Sto → XPo → Po → Prop) : Env' → Sto → XPo → (Bool → Sto → Prop) → Prop := fun env st Ex K => ma env st Ex fun x st1 => mb env st1 Ex fun y st2 => cmpP op x y st2 fun k => K k st2
theorem pc_cmp {op : Co} {a b : Expr} {ma mb : Env' → Sto → XPo → Po → Prop} (hb : Roomy X) (ha : PE X a (TO T X.K Wx ma)) (hbb : PE X b (TO T X.K Wx mb)) : PC X (opOf op) a b (TO T X.K Wx (mB (mCmp op ma mb))) := by
  have go : op ≠ .inD → op ≠ .niD → PC X (opOf op) a b (TO T X.K Wx (mB (mCmp op ma mb))) := fun h1 h2 => by
    refine pc_imp (pc_of (or_cmp hb op h1 h2) ha hbb) fun σ H Q' q => ?_
    obtain ⟨ω, env, st, Q, Ex, E, S, hm, k, kx⟩ := q
    refine TO.step E S hm kx fun ω1 x v st1 H1 t1 S1 E1 r1 q1 kx1 => ?_
    refine TO.step E1 S1 q1 kx1 fun ω2 y u st2 H2 t2 S2 E2 r2 q2 kx2 => ?_
    exact ⟨ω2, x, y, st2, _, S2, r1.up t2.le, r2, q2, fun b q => (k.on (t1.trans t2)).at S2 (.bl b) q⟩
  by_cases h1 : op = .inD
  · subst h1; exact din_core (neg := false) hb ha hbb
  · by_cases h2 : op = .niD
    · subst h2; exact din_core (neg := true) hb ha hbb
    · exact go h1 h2
def mCm2 (op op' : Co) (ma mb mc : Env' → Sto → XPo → Po → Prop) : Env' → Sto → XPo → (Bool → Sto → Prop) → Prop := fun env st Ex K => ma env st Ex fun x st1 => mb env st1 Ex fun y st2 => cmpP op x y st2 fun k =>
      (k = true → mc env st2 Ex fun z st3 => cmpP op' y z st3 fun k' => K k' st3) ∧ (k = false → K false st2)
theorem cm2_ok {op op' : Co} {a b d : Expr} {pos : Pos} {ma mb mc : Env' → Sto → XPo → Po → Prop} (h1 : op.plain = true) (h2 : op'.plain = true) (hb : Roomy X) (ha : PE X a (TO T X.K Wx ma)) (hbb : PE X b (TO T X.K Wx mb)) (hd : PE X d (TO T X.K Wx mc)) (hs : notSet d = true) :
    PE X (.Compare a [opOf op, opOf op'] [b, d] pos) (TO T X.K Wx (mB (mCm2 op op' ma mb mc))) ∧ PT X (.Compare a [opOf op, opOf op'] [b, d] pos) (TB T X.K Wx (mB (mCm2 op op' ma mb mc))) := by
  have o1 := or_cmp hb op (fun z => by rw [z] at h1; cases h1) (fun z => by rw [z] at h1; cases h1)
  have o2 := or_cmp hb op' (fun z => by rw [z] at h2; cases h2) (fun z => by rw [z] at h2; cases h2)
  have hl : lastMarks [opOf op, opOf op'] [b, d] = false := mark_of hs
  have red : ∀ σ H (Q' : VK), TO T X.K Wx (mB (mCm2 op op' ma mb mc)) σ H Q' → tChain (r2c X.K op) (r2c X.K op') (TO T X.K Wx ma) (TO T X.K Wx mb) (TO T X.K Wx mc) σ H Q' := fun σ H Q' q => by
    obtain ⟨ω, env, st, Q, Ex, E, S, hm, k, kx⟩ := q
    refine TO.step E S hm kx fun ω1 x v st1 H1 t1 S1 E1 r1 q1 kx1 => ?_
    refine TO.step E1 S1 q1 kx1 fun ω2 y u st2 H2 t2 S2 E2 r2 q2 kx2 => ?_
    refine ⟨ω2, x, y, st2, _, S2, r1.up t2.le, r2, q2, fun b q => ⟨b, rfl, ?_⟩⟩
    cases b with
    | false => exact iteF ((k.on (t1.trans t2)).at S2 (.bl false) (q.2 rfl))
    | true =>
      refine iteT (TO.step E2 S2 (q.1 rfl) kx2 fun ω3 z v' st3 H3 t3 S3 E3 r3 q3 kx3 => ?_)
      exact ⟨ω3, y, z, st3, _, S3, r2.up t3.le, r3, q3, fun b q => (k.on ((t1.trans t2).trans t3)).at S3 (.bl b) q⟩
  exact ⟨pe_imp (pe_chain o1 o2 ha hbb hd hl) red, pt_imp (pt_chain o1 o2 ha hbb hd hl) fun σ H Q' q => red _ _ _ (tB_of q)⟩
def mIsN (neg : Bool) (ma : Env' → Sto → XPo → Po → Prop) : Env' → Sto → XPo → (Bool → Sto → Prop) → Prop := fun env st Ex K => ma env st Ex fun x st1 => ∀ k, (k = true ↔ x = .non) → K (if neg then !k else k) st1
theorem isN_ok {neg : Bool} {a : Expr} {p : Pos} {j : Nat} {o : CmpOp} (ho : (match o with | .Is => !neg | .IsNot => neg | _ => false) = true) {ma : Env' → Sto → XPo → Po → Prop} (ha : PE X a (TO T X.K Wx ma)) : PC X o a (.Constant .none j p) (TO T X.K Wx (mB (mIsN neg ma))) := by
  have nn : ∀ {K : PySem.W.Frag} {ω : Wd} {w : W} {v : V}, Rel K ω w v → (decide (v = V.non) = true ↔ w = W.non) := fun {K ω w v} r => by
    cases r <;> simp
  cases o <;> cases neg <;> simp only [Bool.false_eq_true, Bool.not_false, Bool.not_true] at ho
  · refine pc_imp (pc_isN ha) fun σ H Q' q => ?_
    obtain ⟨ω, env, st, Q, Ex, E, S, hm, k, kx⟩ := q
    refine TO.step E S hm kx fun ω1 x v st1 H1 t1 S1 E1 r1 q1 kx1 => ?_
    exact (k.on t1).at S1 (.bl _) (q1 _ (nn r1))
  · refine pc_imp (pc_notN ha) fun σ H Q' q => ?_
    obtain ⟨ω, env, st, Q, Ex, E, S, hm, k, kx⟩ := q
    refine TO.step E S hm kx fun ω1 x v st1 H1 t1 S1 E1 r1 q1 kx1 => ?_
    exact (k.on t1).at S1 (.bl _) (q1 _ (nn r1))
def mTy (T : Tb) (neg : Bool) (t : Ty) (ma : Env' → Sto → XPo → Po → Prop) : Env' → Sto → XPo → (Bool → Sto → Prop) → Prop := fun env st Ex K => ma env st Ex fun x st1 => (x = .non ∧ K neg st1) ∨ (∃ t', tyOf st1 x = some t' ∧ K (if neg then !decide (t' = t) else decide (t' = t)) st1) ∨
  (((∃ i fs, i < T.G.n ∧ x = .obj (T.G.A i) fs) ∨ ∃ i, i < T.G.ne ∧ x = .exc (T.G.e i)) ∧ K neg st1)
/-- an error's object, as an instance -/
theorem exInst {pins : List (Addr × Obj)} {σ : L2.St} {H : Hp} {s : Shared} (I : Inv X pins σ H s) {a D : Addr} {φ : Heap → Prop} (h : Rd H a (.ext φ)) (hx : ∀ h, φ h → ExH D a h) : ∃ oe, PySem.W.InstAt s.heap a oe D none := by
  have hφ : φ s.heap := by
    rcases h with h | ⟨o, h⟩
    · exact (show ObjOk X.prog X.w H s.heap a (.ext φ) from I.hok a _ h).1
    · exact (show ObjOk X.prog X.w H s.heap a (.ext φ) from (I.hok a _ h).2).1
  obtain ⟨oe, vs, hget, hz, hv⟩ := hx _ hφ
  obtain ⟨oc, od, oda, osl⟩ := oe
  obtain ⟨h1, h2⟩ := hz
  dsimp only at h1 h2 hv
  subst h1 h2 hv
  exact ⟨_, hget, rfl, rfl, trivial⟩
def rTyp2 (K : PySem.W.Frag) : List V → Hp → VK → Prop := fun xs H Q => rTyp K xs H Q ∨ ∃ a D, xs = [.ref a] ∧ ((∃ dx fs, H a = some (.ins D dx fs)) ∨ ∃ φ, Rd H a (.ext φ) ∧ ∀ h, φ h → ExH D a h) ∧ Q (.ref D) H
theorem call_type2 : CallR X (.type "type") (rTyp2 X.K) := by
  intro pins s σ H xs us Q I r h
  rcases h with h | ⟨a, D, rfl, h, q⟩
  · exact call_type1 pins s σ H xs us Q I r h
  · rw [Vals.ref1 r]
    rcases h with ⟨dx, fs, ha⟩ | ⟨φ, ha, hx⟩
    · obtain ⟨mA, O, _⟩ := ins_get I.hok ha
      obtain ⟨od, J, _⟩ := O.look
      exact PySem.W.kto_own J ⟨.ref D, H, I, rfl, q⟩
    · obtain ⟨oe, J⟩ := exInst I ha hx
      exact PySem.W.kto_own J ⟨.ref D, H, I, rfl, q⟩
theorem op_isTy2 : OpR X (compareOp .Is) (fun x y H Q => (∃ a b, x = .ty a ∧ y = .ty b ∧ Q (.bl (decide (a = b))) H) ∨ ∃ a b, x = .ref a ∧ y = .ty b ∧ Q (.bl false) H) := by
  intro pins s σ H x y v u Q I rx ry h
  rcases h with h | ⟨a, b, rfl, rfl, q⟩
  · exact op_isTyB pins s σ H x y v u Q I rx ry h
  · cases (show v = Value.ref a from rx)
    cases (show u = Value.type b from ry)
    exact wpAny_is_plain rfl (fin_bl I q rfl)
theorem op_notTy2 : OpR X (compareOp .IsNot) (fun x y H Q => (∃ a b, x = .ty a ∧ y = .ty b ∧ Q (.bl (!decide (a = b))) H) ∨ ∃ a b, x = .ref a ∧ y = .ty b ∧ Q (.bl true) H) := by
  intro pins s σ H x y v u Q I rx ry h
  rcases h with h | ⟨a, b, rfl, rfl, q⟩
  · exact op_notTyB pins s σ H x y v u Q I rx ry h
  · cases (show v = Value.ref a from rx)
    cases (show u = Value.type b from ry)
    exact wpAny_isNot_plain rfl (fin_bl I q rfl)
/-- an own object or an error, its class -/
theorem ownTy {K : PySem.W.Frag} {ω : Wd} {st : Sto} {H : Hp} (S : StR K ω st H) {x : W} {v : V} (r : Rel K ω x v) (h : (∃ C fs, x = .obj C fs) ∨ ∃ C, x = .exc C) : ∃ a D, v = .ref a ∧ ((∃ dx fs, H a = some (.ins D dx fs)) ∨ ∃ φ, Rd H a (.ext φ) ∧ ∀ h, φ h → ExH D a h) := by
  rcases h with ⟨C, fs, rfl⟩ | ⟨C, rfl⟩
  · cases r with
    | obj e r => exact ⟨_, _, rfl, .inl ⟨_, _, S.ob _ _ _ _ e⟩⟩
  · cases r with
    | exc e hx => exact ⟨_, _, rfl, .inr ⟨_, S.sub _ _ e, hx⟩⟩
theorem tyOf_ok {K : PySem.W.Frag} {ω : Wd} {st : Sto} {H : Hp} (S : StR K ω st H) {w : W} {v : V} {t : Ty} (r : Rel K ω w v) (h : tyOf st w = some t) : TyB K H v t.name := by
  cases r with
  | non => simp only [tyOf] at h; cases h
  | bl b => simp only [tyOf] at h; cases h; exact .bl b
  | int b => simp only [tyOf] at h; cases h; exact .int b
  | str b => simp only [tyOf] at h; cases h; exact .str b
  | tup s r => simp only [tyOf] at h; cases h; exact .tup (S.tup s)
  | lst s r => simp only [tyOf] at h; cases h; exact .lst (.inl (S.sub _ _ s))
  | dct s _ r => simp only [tyOf] at h; cases h
  | obj s r => simp only [tyOf] at h; cases h
  | dtt s _ r => simp only [tyOf] at h; cases h
  | rng s => simp only [tyOf] at h; cases h
  | exc s r => simp only [tyOf] at h; cases h
  | scr s => simp only [tyOf] at h; cases h; exact .lst (S.lst s)
  | ref e1 =>
    rename_i n a
    simp only [tyOf] at h
    cases q : st[n]? with
    | none => rw [q] at h; cases h
    | some bc =>
      obtain ⟨b', c⟩ := bc
      rcases S.cell e1 q with ⟨ws, vs, rfl, hh, rl⟩ | ⟨ws, vs, rfl, _⟩ | ⟨ws, vs, rfl, _⟩ | ⟨_, _, rfl⟩
      · rw [q] at h; cases h; exact .lst (.inl hh)
      · rw [q] at h; cases h
      · rw [q] at h; cases h
      · rw [q] at h; cases h
theorem ty_inj {a b : Ty} : (a.name = b.name) = (a = b) := by
  cases a <;> cases b <;> decide
theorem ty_boot (t : Ty) : bootBuiltins (t.name : Str) = some (.type t.name) := by
  cases t <;> decide +kernel
theorem ty_blt (t : Ty) : (t.name : Str) ∈ bltNames ∧ (t.name : Str) ≠ "__name__" ∧ ((t.name : Str) == ("__debug__" : Str)) = false := by
  cases t <;> decide +kernel
theorem ty_ok (g : Good T n C c Wx X) {neg : Bool} {t : Ty} {o : CmpOp} {a : Expr} {p1 p2 p3 : Pos} (ho : (match o with | .Is => !neg | .IsNot => neg | _ => false) = true) {ma : Env' → Sto → XPo → Po → Prop} (h1 : glB c.sc ("type" : Str) = true) (h2 : glB c.sc (t.name : Str) = true)
    (hs : notStar a = true) (ha : PE X a (TO T X.K Wx ma)) : PC X o (.Call (.Name "type" p1) [a] [] p2) (.Name (t.name : Str) p3) (TO T X.K Wx (mB (mTy T neg t ma))) := by
  have hT : PE X (.Call (.Name "type" p1) [a] [] p2) (tCB (rTyp2 X.K) (tCons (TO T X.K Wx ma) tNil)) := pe_callTy call_type2 (g.gl h1) (g.tb.bl _ (by decide +kernel)) boot_type (pa_cons ha pa_nil (starEach_of hs)) (by decide) (by decide) (starEach_of hs) (star_any rfl)
  obtain ⟨b1, b2, b3⟩ := ty_blt t
  have hN : PE X (.Name (t.name : Str) p3) (tC (.ty t.name)) := pe_bltn (g.gl h2) (g.tb.bl _ b1) (ty_boot t) rfl b2 b3
  have own : ∀ {x : W}, ((∃ i fs, i < T.G.n ∧ x = .obj (T.G.A i) fs) ∨ ∃ i, i < T.G.ne ∧ x = .exc (T.G.e i)) → (∃ C fs, x = .obj C fs) ∨ ∃ C, x = .exc C := fun {x} h => by
    rcases h with ⟨i, fs, _, e⟩ | ⟨i, _, e⟩
    · exact .inl ⟨_, _, e⟩
    · exact .inr ⟨_, e⟩
  cases o <;> cases neg <;> simp only [Bool.false_eq_true, Bool.not_false, Bool.not_true] at ho
  · refine pc_imp (pc_of op_isTy2 hT hN) fun σ H Q' q => ?_
    obtain ⟨ω, env, st, Q, Ex, E, S, hm, k, kx⟩ := q
    refine TO.step E S hm kx fun ω1 x v st1 H1 t1 S1 E1 r1 q1 kx1 => ?_
    rcases q1 with ⟨rfl, q1⟩ | ⟨t', e, q1⟩ | ⟨ho, q1⟩
    · cases r1
      refine .inl ⟨_, _, rfl, .non, .inl ⟨_, _, rfl, rfl, ?_⟩⟩
      have e : ("NoneType" = t.name) = False := by cases t <;> exact eq_false (by decide)
      rw [show decide ("NoneType" = t.name) = false by simp [e]]
      exact (k.on t1).at S1 (.bl _) q1
    · refine .inl ⟨_, _, rfl, tyOf_ok S1 r1 e, .inl ⟨_, _, rfl, rfl, ?_⟩⟩
      rw [show decide (t'.name = t.name) = decide (t' = t) by simp only [ty_inj]]
      exact (k.on t1).at S1 (.bl _) q1
    · obtain ⟨a, D, rfl, hd⟩ := ownTy S1 r1 (own ho)
      exact .inr ⟨_, _, rfl, hd, .inr ⟨_, _, rfl, rfl, (k.on t1).at S1 (.bl _) q1⟩⟩
  · refine pc_imp (pc_of op_notTy2 hT hN) fun σ H Q' q => ?_
    obtain ⟨ω, env, st, Q, Ex, E, S, hm, k, kx⟩ := q
    refine TO.step E S hm kx fun ω1 x v st1 H1 t1 S1 E1 r1 q1 kx1 => ?_
    rcases q1 with ⟨rfl, q1⟩ | ⟨t', e, q1⟩ | ⟨ho, q1⟩
    · cases r1
      refine .inl ⟨_, _, rfl, .non, .inl ⟨_, _, rfl, rfl, ?_⟩⟩
      have e : ("NoneType" = t.name) = False := by cases t <;> exact eq_false (by decide)
      rw [show (!decide ("NoneType" = t.name)) = true by simp [e]]
      exact (k.on t1).at S1 (.bl _) q1
    · refine .inl ⟨_, _, rfl, tyOf_ok S1 r1 e, .inl ⟨_, _, rfl, rfl, ?_⟩⟩
      rw [show (!decide (t'.name = t.name)) = (!decide (t' = t)) by simp only [ty_inj]]
      exact (k.on t1).at S1 (.bl _) q1
    · obtain ⟨a, D, rfl, hd⟩ := ownTy S1 r1 (own ho)
      exact .inr ⟨_, _, rfl, hd, .inr ⟨_, _, rfl, rfl, (k.on t1).at S1 (.bl _) q1⟩⟩
end
end Zk

namespace Zk
open PySem PySem.Spec PyProof.Rows L2

section
variable {T : Tb} {n : Nat} {C : Calls} {c : Cz} {Wx : WX} {X : Cx}
theorem TL.out {m : Env' → Sto → XPo → Po → Prop} {K : PySem.W.Frag} {ω : Wd} {st : Sto} {H : Hp} {σ : L2.St} {env : Env'} {Ex : XPo} {f : List W → Sto → Prop} {Q' : List V → Hp → Prop} (E : EnvR K ω env σ) (S : StR K ω st H) (h : m env st Ex fun w s => ∃ ws, w = .tup ws ∧ f ws s) (kx : KX T K ω st H Ex fun c d H' => Wx c d σ H')
    (n : ∀ ω' ws vs st' H', Stp ω st H ω' st' H' → StR K ω' st' H' → EnvR K ω' env σ → RelL K ω' ws vs → f ws st' → KX T K ω' st' H' Ex (fun c d H' => Wx c d σ H') → Q' vs H') : TL T K Wx m σ H Q' :=
  ⟨ω, env, st, _, Ex, E, S, h, fun ω' w st' H' t S' ⟨ws', e, q⟩ ws vs ew r => by subst e; cases ew; exact n _ _ _ _ _ t S' (E.up t.le) r q (kx.on t), kx⟩
/-! built-in functions -/
theorem bi_ok (g : Good T n C c Wx X) (hc : c.calm = true) {f : Bi} {m : Bool} {p pos : Pos} {e : Expr} {es : List Expr} {ma : Env' → Sto → XPo → Po → Prop} (hg : glB c.sc (biName f) = true) (hs : argB (e :: es) = true) (ha : PA X (e :: es) (TL T X.K Wx ma)) :
    PE X (.Call (.Name (biName f) p) (e :: es) [] pos) (TO T X.K Wx fun env st Ex Q => ma env st Ex fun w st1 => ∃ ws, w = .tup ws ∧ biW f m ws st1 Q) := by
  simp only [argB, List.all_cons, Bool.and_eq_true] at hs
  have hb : X.mg (biName f) = none := g.tb.bl _ (by cases f <;> decide +kernel)
  have hn : biName f ≠ "__name__" := by cases f <;> decide +kernel
  have hd : (biName f == ("__debug__" : Str)) = false := by cases f <;> decide +kernel
  have red : ∀ σ H (Q' : VK), TO T X.K Wx (fun env st Ex Q => ma env st Ex fun w st1 => ∃ ws, w = .tup ws ∧ biW f m ws st1 Q) σ H Q' → (TL T X.K Wx ma) σ H fun vs H1 => rL X.K (biW f m) vs H1 Q' := fun σ H Q' q => by
    obtain ⟨ω, env, st, Q, Ex, E, S, hm, k, kx⟩ := q
    exact TL.out E S hm kx fun ω1 ws vs st1 H1 t1 S1 E1 r q kx1 => ⟨ω1, ws, st1, Q, S1, r, q, k.on t1⟩
  have goB : ∀ id, bootBuiltins (biName f) = some (.builtin id) → biRaw f = some (.builtin id) → PE X (.Call (.Name (biName f) p) (e :: es) [] pos) (TO T X.K Wx fun env st Ex Q => ma env st Ex fun w st1 => ∃ ws, w = .tup ws ∧ biW f m ws st1 Q) := fun id h1 h2 =>
    pe_imp (pe_callB (call_bi g.big (g.calm hc) f m h2) (g.gl hg) hb h1 ha hn hd (starEach_of hs.1) (star_any hs.2)) red
  have goT : ∀ id, bootBuiltins (biName f) = some (.type id) → biRaw f = some (.type id) → PE X (.Call (.Name (biName f) p) (e :: es) [] pos) (TO T X.K Wx fun env st Ex Q => ma env st Ex fun w st1 => ∃ ws, w = .tup ws ∧ biW f m ws st1 Q) := fun id h1 h2 =>
    pe_imp (pe_callTy (call_bi g.big (g.calm hc) f m h2) (g.gl hg) hb h1 ha hn hd (starEach_of hs.1) (star_any hs.2)) red
  cases f
  · exact goB "len" (by decide +kernel) rfl
  · exact goT "int" (by decide +kernel) rfl
  · exact goT "str" (by decide +kernel) rfl
  · exact goB "abs" (by decide +kernel) rfl
  · exact goB "max" (by decide +kernel) rfl
  · exact goB "min" (by decide +kernel) rfl
  · exact goB "max" (by decide +kernel) rfl
  · exact goB "min" (by decide +kernel) rfl
  · exact goB "sum" (by decide +kernel) rfl
  · exact goB "all" (by decide +kernel) rfl
  · exact goB "any" (by decide +kernel) rfl
  · exact goB "sorted" (by decide +kernel) rfl
  · exact goT "list" (by decide +kernel) rfl
  · exact goT "tuple" (by decide +kernel) rfl
  · exact goB "repr" (by decide +kernel) rfl
  · exact goB "sorted" (by decide +kernel) rfl
  · exact goB "max" (by decide +kernel) rfl
  · exact goB "min" (by decide +kernel) rfl
  · exact goB "min" (by decide +kernel) rfl
  · exact goT "list" (by decide +kernel) rfl
  · exact goB "sorted" (by decide +kernel) rfl
/-! methods -/
theorem RelL.erase {K : PySem.W.Frag} {ω : Wd} : ∀ {ws : List W} {vs : List V} (i : Nat), RelL K ω ws vs → RelL K ω (ws.eraseIdx i) (vs.eraseIdx i)
  | _, _, _, .nil => .nil
  | _, _, 0, .cons _ t => t
  | _, _, i + 1, .cons q t => .cons q (RelL.erase i t)
theorem few_of {e : Expr} {cp : Pos} {env : Env} (h : notStar e = true) : ((backTo cp (starEach [e] env)).all (fun x => !x.1) && (backToKw cp (keywordEach [] env)).all (fun x => x.1.isSome)
      && decide (([e] : List Expr).length + ([] : List Keyword).length + (if ([] : List Keyword).isEmpty then 0 else 1) < 30)) = true := by
  rw [starEach_of h]; rfl
theorem mt_ok (g : Good T n C c Wx X) {f : Mt} {ap cp : Pos} {o : Expr} {es : List Expr} {mo ma : Env' → Sto → XPo → Po → Prop} (hl : (ap.endLine == cp.line) = true) (hsup : notSuper o = true) (hs : argB es = true) (hn : mtArity f es.length = true)
    (ho : PE X o (TO T X.K Wx mo)) (ha : PA X es (TL T X.K Wx ma)) (h0 : es = [] → ∀ env st Ex Q, ma env st Ex Q → Q (.tup []) st) (h2 : ∀ a b, es = [a, b] → ∃ m1 m2, PE X a (TO T X.K Wx m1) ∧ PE X b (TO T X.K Wx m2) ∧ ∀ env st Ex Q, ma env st Ex Q → m1 env st Ex fun x s => m2 env s Ex fun y s2 => Q (.tup [x, y]) s2) :
    PE X (.Call (.Attribute o (mtName f) ap) es [] cp) (TO T X.K Wx fun env st Ex Q => mo env st Ex fun x st1 => mtTy f x st1 ∧ ma env st1 Ex fun w st2 => ∃ ws, w = .tup ws ∧ mtW f x ws st2 Q) := by
  -- a changeable list
  have lst : ∀ {ω : Wd} {st : Sto} {H : Hp} {x : W} {v : V}, StR X.K ω st H → Rel X.K ω x v → (∃ n b l, x = .ref n ∧ st[n]? = some (b, .lst l)) → tyV X.K "list" v H := fun {ω st H x v} S r ⟨k, b, l, e, h⟩ => by
    subst e
    cases r with
    | ref e1 =>
      rcases S.cell e1 h with ⟨ws, vs, e, hh, rl⟩ | ⟨ws, vs, e, _⟩ | ⟨ws, vs, e, _⟩ | ⟨_, _, e⟩
      · exact .inl ⟨rfl, vs, .inl hh⟩
      · cases e
      · cases e
      · cases e
  cases f with
  | app =>
    cases es with
    | nil => cases hn
    | cons e es =>
      cases es with
      | cons _ _ => cases hn
      | nil =>
        have hs' : notStar e = true := by simpa [argB] using hs
        refine pe_imp (pe_bm PySem.F.plainAttrs_list PySem.F.slot_list_append PySem.F.type_list_append mt_append ho ha (base_of hsup) (few_of hs') hl (starEach_of hs') rfl) fun σ H Q' q => ?_
        obtain ⟨ω, env, st, Q, Ex, E, S, hm, k, kx⟩ := q
        refine TO.step E S hm kx fun ω1 x v st1 H1 t1 S1 E1 r1 ⟨ty, q1⟩ kx1 => ⟨lst S1 r1 ty, ?_⟩
        refine TL.out E1 S1 q1 kx1 fun ω2 ws vs st2 H2 t2 S2 E2 r q kx2 => ?_
        obtain ⟨j, l, y, rfl, rfl, hj, hz, q⟩ := q
        have r1' := r1.up t2.le
        obtain ⟨u, rfl, ry⟩ := r.one
        cases r1' with
        | ref e1 =>
          rename_i a
          obtain ⟨lv, hv, rl⟩ := S2.cel j a _ e1 hj
          obtain ⟨S3, t3⟩ := S2.put (c' := .lst (l ++ [y])) (o := .lst (lv ++ [u])) e1 hj ⟨_, upd_same, rl.append (.cons ry .nil)⟩
          exact ⟨a, lv, u, rfl, rfl, hv, by rw [← rl.length]; exact hz, k _ _ _ _ _ ((t1.trans t2).trans t3) S3 .non q⟩
  | popA =>
    cases es with
    | nil => cases hn
    | cons e es =>
      cases es with
      | cons _ _ => cases hn
      | nil =>
        have hs' : notStar e = true := by simpa [argB] using hs
        refine pe_imp (pe_bm PySem.F.plainAttrs_list PySem.F.slot_list_pop PySem.F.type_list_pop mt_popAt ho ha (base_of hsup) (few_of hs') hl (starEach_of hs') rfl) fun σ H Q' q => ?_
        obtain ⟨ω, env, st, Q, Ex, E, S, hm, k, kx⟩ := q
        refine TO.step E S hm kx fun ω1 x v st1 H1 t1 S1 E1 r1 ⟨ty, q1⟩ kx1 => ⟨lst S1 r1 ty, ?_⟩
        refine TL.out E1 S1 q1 kx1 fun ω2 ws vs st2 H2 t2 S2 E2 r q kx2 => ?_
        obtain ⟨j, l, i, w, rfl, rfl, hj, h0i, hw, hz, q⟩ := q
        have r1' := r1.up t2.le
        obtain ⟨u, rfl, ry⟩ := r.one
        cases ry.int_inv
        cases r1' with
        | ref e1 =>
          rename_i a
          obtain ⟨lv, hv, rl⟩ := S2.cel j a _ e1 hj
          obtain ⟨y, hy, rw⟩ := rl.get hw
          have hlt := (List.getElem?_eq_some_iff.mp hw).1
          have hl2 := rl.length
          obtain ⟨S3, t3⟩ := S2.put (c' := .lst (l.eraseIdx i.toNat)) (o := .lst (lv.eraseIdx i.toNat)) e1 hj ⟨_, upd_same, rl.erase _⟩
          exact ⟨a, lv, i, i.toNat, y, rfl, rfl, hv, by omega, by omega, by unfold seqIndex?; simp; omega, hy, k _ _ _ _ _ ((t1.trans t2).trans t3) S3 rw q⟩
  | rev =>
    cases es with
    | cons _ _ => cases hn
    | nil =>
      refine pe_imp (pe_bm0 PySem.F.plainAttrs_list PySem.F.slot_list_reverse PySem.F.type_list_reverse mt_reverse ho (base_of hsup) hl) fun σ H Q' q => ?_
      obtain ⟨ω, env, st, Q, Ex, E, S, hm, k, kx⟩ := q
      refine TO.step E S hm kx fun ω1 x v st1 H1 t1 S1 E1 r1 ⟨ty, q1⟩ kx1 => ⟨lst S1 r1 ty, ?_⟩
      obtain ⟨ws, e, q⟩ := h0 rfl _ _ _ _ q1
      cases e
      obtain ⟨j, l, rfl, _, hj, q⟩ := q
      cases r1 with
      | ref e1 =>
        rename_i a
        obtain ⟨lv, hv, rl⟩ := S1.cel j a _ e1 hj
        obtain ⟨S3, t3⟩ := S1.put (c' := .lst l.reverse) (o := .lst lv.reverse) e1 hj ⟨_, upd_same, rl.reverse⟩
        exact ⟨a, lv, rfl, rfl, hv, k _ _ _ _ _ (t1.trans t3) S3 .non q⟩
  | clr =>
    cases es with
    | cons _ _ => cases hn
    | nil =>
      refine pe_imp (pe_bm0 PySem.F.plainAttrs_list PySem.F.slot_list_clear PySem.F.type_list_clear mt_clear ho (base_of hsup) hl) fun σ H Q' q => ?_
      obtain ⟨ω, env, st, Q, Ex, E, S, hm, k, kx⟩ := q
      refine TO.step E S hm kx fun ω1 x v st1 H1 t1 S1 E1 r1 ⟨ty, q1⟩ kx1 => ⟨lst S1 r1 ty, ?_⟩
      obtain ⟨ws, e, q⟩ := h0 rfl _ _ _ _ q1
      cases e
      obtain ⟨j, l, rfl, _, hj, q⟩ := q
      cases r1 with
      | ref e1 =>
        rename_i a
        obtain ⟨lv, hv, rl⟩ := S1.cel j a _ e1 hj
        obtain ⟨S3, t3⟩ := S1.put (c' := .lst []) (o := .lst []) e1 hj ⟨_, upd_same, .nil⟩
        exact ⟨a, lv, rfl, rfl, hv, k _ _ _ _ _ (t1.trans t3) S3 .non q⟩
  | upr =>
    cases es with
    | cons _ _ => cases hn
    | nil =>
      refine pe_imp (pe_bm0 PySem.F.plainAttrs_str PySem.F.slot_str_upper PySem.F.type_str_upper mt_upper ho (base_of hsup) hl) fun σ H Q' q => ?_
      obtain ⟨ω, env, st, Q, Ex, E, S, hm, k, kx⟩ := q
      refine TO.step E S hm kx fun ω1 x v st1 H1 t1 S1 E1 r1 ⟨⟨z, ez⟩, q1⟩ kx1 => ?_
      subst ez
      cases r1.str_inv
      obtain ⟨ws, e, q⟩ := h0 rfl _ _ _ _ q1
      cases e
      obtain ⟨a, ea, _, hz, q⟩ := q
      cases ea
      exact ⟨rfl, z, rfl, rfl, hz, (k.on t1).at S1 (.str _) q⟩
  | join =>
    cases es with
    | nil => cases hn
    | cons e es =>
      cases es with
      | cons _ _ => cases hn
      | nil =>
        have hs' : notStar e = true := by simpa [argB] using hs
        refine pe_imp (pe_bm PySem.F.plainAttrs_str PySem.F.slot_str_join PySem.F.type_str_join mt_join ho ha (base_of hsup) (few_of hs') hl (starEach_of hs') rfl) fun σ H Q' q => ?_
        obtain ⟨ω, env, st, Q, Ex, E, S, hm, k, kx⟩ := q
        refine TO.step E S hm kx fun ω1 x v st1 H1 t1 S1 E1 r1 ⟨⟨z, ez⟩, q1⟩ kx1 => ?_
        subst ez
        cases r1.str_inv
        refine ⟨rfl, TL.out E1 S1 q1 kx1 fun ω2 ws vs st2 H2 t2 S2 E2 r q kx2 => ?_⟩
        obtain ⟨a, x, l, ys, ea, rfl, e1, e2, hz, q⟩ := q
        cases ea
        obtain ⟨u, rfl, ry⟩ := r.one
        obtain ⟨p, vs, rfl, hs2, rl⟩ := sq_ok S2 ry e1
        cases strsOf_eq e2
        cases rl.strs_inv
        exact ⟨z, p, ys, rfl, rfl, hs2, hz, (k.on (t1.trans t2)).at S2 (.str _) q⟩
  | get =>
    match es, hn, hs, h2 with
    | [a, b], _, hs, h2 =>
      obtain ⟨m1, m2, hA, hB, hm2⟩ := h2 a b rfl
      simp only [argB, List.all_cons, Bool.and_eq_true] at hs
      have M : M2 X o ("get" : Str) ap a b cp := ⟨base_of hsup, by rw [starEach_of hs.1, starEach_of hs.2.1]; rfl, hl, by rw [starEach_of hs.1, starEach_of hs.2.1]; rfl⟩
      refine pe_imp (pe_dget2 g.big.u1 ho hA hB M) fun σ H Q' q => ?_
      obtain ⟨ω, env, st, Q, Ex, E, S, hm, k, kx⟩ := q
      refine TO.step E S hm kx fun ω1 x v st1 H1 t1 S1 E1 r1 ⟨⟨l0, hl0⟩, q1⟩ kx1 => ?_
      obtain ⟨p, vs0, rfl, hd0, nd0, rl0⟩ := dc_ok S1 r1 hl0
      refine ⟨p, rfl, .inl ⟨vs0, hd0⟩, ?_⟩
      refine TO.step E1 S1 (hm2 _ _ _ _ q1) kx1 fun ω2 y u st2 H2 t2 S2 E2 r2 q2 kx2 => ?_
      refine TO.step E2 S2 q2 kx2 fun ω3 z w st3 H3 t3 S3 E3 r3 q3 kx3 => ?_
      obtain ⟨ws, e, x', d', ky, l, ew, ek, el, q⟩ := q3
      cases e
      cases ew
      obtain ⟨p', vs, e, hd, nd, rl⟩ := dc_ok S3 (r1.up (t2.le.trans t3.le)) el
      cases e
      refine ⟨valV vs ky, .inl ⟨vs, ky, hd, keyOf_ok ek (r2.up t3.le), rfl⟩, ?_⟩
      refine (k.on ((t1.trans t2).trans t3)).at S3 ?_ q
      rcases RelK.look ky rl with ⟨z1, z2⟩ | ⟨_, _, z1, z2, z3⟩
      · rw [z1, z2]; exact r3
      · rw [z1, z2]; exact z3
end
end Zk

namespace Zk
open PySem PySem.Spec PyProof.Rows L2

theorem chkE_no {c : Cz} {x : Expr} : chkE c .no x = false := by unfold chkE; rfl
section
variable {T : Tb} {n : Nat} {C : Calls}
/-- what is shown of an expression -/
def SE (T : Tb) (n : Nat) (C : Calls) (e : Ex) : Prop := ∀ (c : Cz) (Wx : WX) (X : Cx) (x : Expr), Good T n C c Wx X → chkE c e x = true → PE X x (TO T X.K Wx (wpE T.G C e))
def ST (T : Tb) (n : Nat) (C : Calls) (e : Ex) : Prop := ∀ (c : Cz) (Wx : WX) (X : Cx) (x : Expr), Good T n C c Wx X → tT e = true → chkE c e x = true → PT X x (TB T X.K Wx (wpE T.G C e))
def SL (T : Tb) (n : Nat) (C : Calls) (e : Ex) : Prop := ∀ (c : Cz) (Wx : WX) (X : Cx) (xs : List Expr), Good T n C c Wx X → argB xs = true → chkL c e xs = true → PA X xs (TL T X.K Wx (wpE T.G C e))
def SI (T : Tb) (n : Nat) (C : Calls) (e : Ex) : Prop := ∀ (c : Cz) (Wx : WX) (X : Cx) (tg x : Expr), Good T n C c Wx X → c.calm = true → tupT e tg = true → chkI c e x = true → PI X tg x (TIo T X.K Wx (wpE T.G C e))
def SC (T : Tb) (n : Nat) (C : Calls) (e : Ex) : Prop := ∀ (c : Cz) (Wx : WX) (X : Cx) (xs : List Expr), Good T n C c Wx X → tL e = true → chkL c e xs = true → PTs X xs (TTs T X.K Wx (wpE T.G C e))
def SK (T : Tb) (n : Nat) (C : Calls) (e : Ex) : Prop := ∀ (c : Cz) (Wx : WX) (X : Cx) (kws : List Keyword), Good T n C c Wx X → chkL c e (kws.map (·.value)) = true → PK X kws (TL T X.K Wx (wpE T.G C e))
theorem st_plain {e : Ex} (h : SE T n C e) (hp : ∀ c x, chkE c e x = true → plainT x = true) : ST T n C e := fun c Wx X x g _ hx => pt_of (h c Wx X x g hx) (hp c x hx)
theorem TO.eq {K : PySem.W.Frag} {Wx : WX} {m : Env' → Sto → XPo → Po → Prop} {σ : L2.St} {H : Hp} {Q' : VK} (q : TO T K Wx m σ H Q') : TO T K Wx m σ H Q' := q
-- one by one
theorem s_var (i : Nat) : SE T n C (.var i) := fun c Wx X x g h => by
  unfold chkE at h
  split at h
  · simp only [Bool.and_eq_true, decide_eq_true_eq] at h
    refine pe_imp (pe_var (i := i) (by rw [g.N]; exact h.1.1) (g.vis h.1.2) (plB_1 h.2) (plB_2 h.2)) fun σ H Q' q => ?_
    obtain ⟨ω, env, st, Q, Ex, E, S, ⟨w, e, q⟩, k, kx⟩ := q
    obtain ⟨v, ev, r⟩ := E.2 i w e
    exact ⟨v, ev, k.at S r q⟩
  · cases h
theorem s_const {e : Ex} {w : W} {v : V} (hw : ∀ env st X Q, wpE T.G C e env st X Q = Q w st) (hr : ∀ K ω, Rel K ω w v) (hx : ∀ (c : Cz) (X : Cx) (x : Expr), chkE c e x = true → PE X x (tC v)) : SE T n C e := fun c Wx X x g h => by
  refine pe_imp (hx c X x h) fun σ H Q' q => ?_
  obtain ⟨ω, env, st, Q, Ex, E, S, q, k, kx⟩ := q
  rw [hw] at q
  exact k.at S (hr _ _) q
theorem s_int (i : Int) : SE T n C (.int i) := s_const (w := .int i) (v := .int i) (fun _ _ _ _ => rfl) (fun _ _ => .int i) fun c X x h => by
  unfold chkE at h
  split at h
  · simp only [decide_eq_true_eq] at h; subst h; exact pe_int
  · cases h
theorem s_bl (i : Bool) : SE T n C (.bl i) := s_const (w := .bl i) (v := .bl i) (fun _ _ _ _ => rfl) (fun _ _ => .bl i) fun c X x h => by
  unfold chkE at h
  split at h
  · simp only [beq_iff_eq] at h; subst h; exact pe_bl
  · cases h
theorem s_non : SE T n C .non := s_const (w := .non) (v := .non) (fun _ _ _ _ => rfl) (fun _ _ => .non) fun c X x h => by
  unfold chkE at h
  split at h
  · exact pe_non
  · cases h
theorem s_str (i : Str) : SE T n C (.str i) := s_const (w := .str i) (v := .str i) (fun _ _ _ _ => rfl) (fun _ _ => .str i) fun c X x h => by
  unfold chkE at h
  split at h
  · simp only [decide_eq_true_eq] at h; subst h; exact pe_str
  · cases h
theorem s_glb (i : Nat) : SE T n C (.glb i) := fun c Wx X x g h => by
  unfold chkE at h
  split at h
  · simp only [Bool.and_eq_true, decide_eq_true_eq] at h
    obtain ⟨⟨h1, h2⟩, h3⟩ := h
    rw [g.gbs, List.getElem?_map] at h1
    cases e : T.gbs[i]? with
    | none => rw [e] at h1; cases h1
    | some b =>
      rw [e] at h1
      simp only [Option.map_some, Option.some.injEq] at h1
      subst h1
      obtain ⟨a1, a2, a3⟩ := g.tb.gb i b e
      refine pe_imp (pe_glob (g.gl h2) a1 a2 (plB_1 h3)) fun σ H Q' q => ?_
      obtain ⟨ω, env, st, Q, Ex, E, S, ⟨w, ew, q⟩, k, kx⟩ := q
      have ew' : (T.gbs[i]?).map (·.w) = some w := ew
      rw [e] at ew'
      cases ew'
      exact k.at S (a3 ω) q
  · cases h
theorem s_bin {op : Bo} {m : Bool} {a b : Ex} (ha : SE T n C a) (hb : SE T n C b) : SE T n C (.bin op m a b) := fun c Wx X x g h => by
  unfold chkE at h
  split at h
  · simp only [Bool.and_eq_true] at h
    obtain ⟨⟨h1, h2⟩, h3⟩ := h
    cases isBop_ok h1
    refine pe_imp (pe_op (show OpR X (binaryOp (bopOf op)) _ from or_bin op m) (ha c Wx X _ g h2) (hb c Wx X _ g h3)) fun σ H Q' q => ?_
    obtain ⟨ω, env, st, Q, Ex, E, S, hm, k, kx⟩ := q
    refine TO.step E S hm kx fun ω1 x v st1 H1 t1 S1 E1 r1 q1 kx1 => ?_
    refine TO.step E1 S1 q1 kx1 fun ω2 y u st2 H2 t2 S2 E2 r2 q2 kx2 => ?_
    exact ⟨ω2, x, y, st2, Q, S2, r1.up t2.le, r2, q2, k.on (t1.trans t2)⟩
  · cases h
theorem s_neg {a : Ex} (ha : SE T n C a) : SE T n C (.neg a) := fun c Wx X x g h => by
  unfold chkE at h
  split at h
  · refine pe_imp (pe_un un_neg (ha c Wx X _ g h)) fun σ H Q' q => ?_
    obtain ⟨ω, env, st, Q, Ex, E, S, hm, k, kx⟩ := q
    refine TO.step E S hm kx fun ω1 x v st1 H1 t1 S1 E1 r1 ⟨i, e, q1⟩ kx1 => ?_
    subst e
    cases r1.int_inv
    exact ⟨i, rfl, (k.on t1).at S1 (.int _) q1⟩
  · cases h
theorem s_nt {a : Ex} (ha : SE T n C a) : SE T n C (.nt a) := fun c Wx X x g h => by
  unfold chkE at h
  split at h
  · refine pe_imp (pe_notT (ha c Wx X _ g h)) fun σ H Q' q => ?_
    obtain ⟨ω, env, st, Q, Ex, E, S, hm, k, kx⟩ := q
    refine TO.step E S hm kx fun ω1 x v st1 H1 t1 S1 E1 r1 ⟨b, e, q1⟩ kx1 => ?_
    exact ⟨b, truth_ok S1 r1 e, (k.on t1).at S1 (.bl _) q1⟩
  · cases h
theorem t_nt {a : Ex} (ha : ST T n C a) : ST T n C (.nt a) := fun c Wx X x g ht h => by
  unfold chkE at h
  split at h
  · refine pt_imp (pt_not (ha c Wx X _ g ht h)) fun σ H Q' q => ?_
    obtain ⟨ω, env, st, Ex, Q, E, S, hm, k, kx⟩ := q
    refine ⟨ω, env, st, Ex, fun b s => Q (!b) s, E, S, ?_, fun ω' b st' H' t S' q => k _ _ _ _ t S' q, kx⟩
    refine Eq.mp (congrArg (wpE T.G C a env st Ex) ?_) hm
    funext w s
    refine propext ⟨fun ⟨b, e, b', e', q⟩ => ⟨b, e, by cases truth_bl e'; exact q⟩, fun ⟨b, e, q⟩ => ⟨b, e, !b, rfl, q⟩⟩
  · cases h
theorem s_an {a b : Ex} (ha : SE T n C a) (hb : SE T n C b) : SE T n C (.an a b) := fun c Wx X x g h => by
  unfold chkE at h
  split at h
  · rename_i x y r p
    simp only [Bool.and_eq_true] at h
    have hB : PE X (.BoolOp .And (y :: r) p) (TO T X.K Wx (wpE T.G C b)) := by
      cases r with
      | nil => exact pe_one (hb c Wx X _ g h.2)
      | cons z r => exact hb c Wx X _ g h.2
    refine pe_imp (pe_andT (ha c Wx X _ g h.1) hB) fun σ H Q' q => ?_
    obtain ⟨ω, env, st, Q, Ex, E, S, hm, k, kx⟩ := q
    refine TO.step E S hm kx fun ω1 x v st1 H1 t1 S1 E1 r1 ⟨b, e, q1, q2⟩ kx1 => ⟨b, truth_ok S1 r1 e, ?_⟩
    cases b with
    | true => exact iteT ⟨ω1, env, st1, Q, Ex, E1, S1, q1 rfl, k.on t1, kx1⟩
    | false => exact iteF ((k.on t1).at S1 r1 (q2 rfl))
  · cases h
theorem s_or {a b : Ex} (ha : SE T n C a) (hb : SE T n C b) : SE T n C (.or a b) := fun c Wx X x g h => by
  unfold chkE at h
  split at h
  · rename_i x y r p
    simp only [Bool.and_eq_true] at h
    have hB : PE X (.BoolOp .Or (y :: r) p) (TO T X.K Wx (wpE T.G C b)) := by
      cases r with
      | nil => exact pe_one (hb c Wx X _ g h.2)
      | cons z r => exact hb c Wx X _ g h.2
    refine pe_imp (pe_orT (ha c Wx X _ g h.1) hB) fun σ H Q' q => ?_
    obtain ⟨ω, env, st, Q, Ex, E, S, hm, k, kx⟩ := q
    refine TO.step E S hm kx fun ω1 x v st1 H1 t1 S1 E1 r1 ⟨b, e, q1, q2⟩ kx1 => ⟨b, truth_ok S1 r1 e, ?_⟩
    cases b with
    | true => exact iteT ((k.on t1).at S1 r1 (q1 rfl))
    | false => exact iteF ⟨ω1, env, st1, Q, Ex, E1, S1, q2 rfl, k.on t1, kx1⟩
  · cases h
/-- a chain of tests -/
def SA (T : Tb) (n : Nat) (C : Calls) (b : Ex) : Prop := ∀ (c : Cz) (Wx : WX) (X : Cx) (y : Expr) (r : List Expr) (p : Pos), Good T n C c Wx X → tT b = true → chkE c b (if r.isEmpty then y else .BoolOp .And (y :: r) p) = true → PW X (.BoolOp .And (y :: r) p) (TB T X.K Wx (wpE T.G C b))
def SO (T : Tb) (n : Nat) (C : Calls) (b : Ex) : Prop := ∀ (c : Cz) (Wx : WX) (X : Cx) (y : Expr) (r : List Expr) (p : Pos), Good T n C c Wx X → tT b = true → chkE c b (if r.isEmpty then y else .BoolOp .Or (y :: r) p) = true → PW X (.BoolOp .Or (y :: r) p) (TB T X.K Wx (wpE T.G C b))
theorem tb_an {K : PySem.W.Frag} {Wx : WX} {a b : Ex} {σ : L2.St} {H : Hp} {Q' : Bool → Hp → Prop} (q : TB T K Wx (wpE T.G C (.an a b)) σ H Q') : tAnd (TB T K Wx (wpE T.G C a)) (TB T K Wx (wpE T.G C b)) σ H Q' := by
  obtain ⟨ω, env, st, Ex, Q, E, S, hm, k, kx⟩ := q
  refine ⟨ω, env, st, Ex, fun c s => (c = true → wpE T.G C b env s Ex fun w s2 => ∃ b, truth s2 w = some b ∧ Q b s2) ∧ (c = false → Q false s), E, S, ?_, fun ω' c st' H' t S' q => ?_, kx⟩
  · refine Eq.mp (congrArg (wpE T.G C a env st Ex) ?_) hm
    funext w s
    refine propext ⟨fun ⟨c, e, q1, q2⟩ => ⟨c, e, q1, fun z => ?_⟩, fun ⟨c, e, q1, q2⟩ => ⟨c, e, q1, fun z => ⟨false, by rw [e, z], q2 z⟩⟩⟩
    obtain ⟨b', e', q⟩ := q2 z
    rw [e, z] at e'
    cases e'
    exact q
  · cases c with
    | true => exact iteT ⟨ω', env, st', Ex, Q, E.up t.le, S', q.1 rfl, fun _ _ _ _ t2 => k _ _ _ _ (t.trans t2), kx.on t⟩
    | false => exact iteF (k _ _ _ _ t S' (q.2 rfl))
theorem tb_or {K : PySem.W.Frag} {Wx : WX} {a b : Ex} {σ : L2.St} {H : Hp} {Q' : Bool → Hp → Prop} (q : TB T K Wx (wpE T.G C (.or a b)) σ H Q') : tOr (TB T K Wx (wpE T.G C a)) (TB T K Wx (wpE T.G C b)) σ H Q' := by
  obtain ⟨ω, env, st, Ex, Q, E, S, hm, k, kx⟩ := q
  refine ⟨ω, env, st, Ex, fun c s => (c = true → Q true s) ∧ (c = false → wpE T.G C b env s Ex fun w s2 => ∃ b, truth s2 w = some b ∧ Q b s2), E, S, ?_, fun ω' c st' H' t S' q => ?_, kx⟩
  · refine Eq.mp (congrArg (wpE T.G C a env st Ex) ?_) hm
    funext w s
    refine propext ⟨fun ⟨c, e, q1, q2⟩ => ⟨c, e, fun z => ?_, q2⟩, fun ⟨c, e, q1, q2⟩ => ⟨c, e, fun z => ⟨true, by rw [e, z], q1 z⟩, q2⟩⟩
    obtain ⟨b', e', q⟩ := q1 z
    rw [e, z] at e'
    cases e'
    exact q
  · cases c with
    | true => exact iteT (k _ _ _ _ t S' (q.1 rfl))
    | false => exact iteF ⟨ω', env, st', Ex, Q, E.up t.le, S', q.2 rfl, fun _ _ _ _ t2 => k _ _ _ _ (t.trans t2), kx.on t⟩
theorem sa_one {b : Ex} (hb : ST T n C b) (hn : ∀ c y z r p, chkE c b (.BoolOp .And (y :: z :: r) p) = true → False) : SA T n C b := fun c Wx X y r p g ht h => by
  cases r with
  | nil => exact pw_and1 (hb c Wx X y g ht h)
  | cons z r => exact (hn c y z r p h).elim
theorem so_one {b : Ex} (hb : ST T n C b) (hn : ∀ c y z r p, chkE c b (.BoolOp .Or (y :: z :: r) p) = true → False) : SO T n C b := fun c Wx X y r p g ht h => by
  cases r with
  | nil => exact pw_or1 (hb c Wx X y g ht h)
  | cons z r => exact (hn c y z r p h).elim
theorem t_an {a b : Ex} (ha : ST T n C a) (hb : SA T n C b) : ST T n C (.an a b) ∧ SA T n C (.an a b) := by
  have main : ∀ (c : Cz) (Wx : WX) (X : Cx) (x y : Expr) (r : List Expr) (p : Pos), Good T n C c Wx X → tT (.an a b) = true → chkE c (.an a b) (.BoolOp .And (x :: y :: r) p) = true → PW X (.BoolOp .And (x :: y :: r) p) (TB T X.K Wx (wpE T.G C (.an a b))) := fun c Wx X x y r p g ht h => by
    unfold chkE at h
    simp only [Bool.and_eq_true] at h
    simp only [tT, Bool.and_eq_true] at ht
    exact pw_imp (pw_and (ha c Wx X _ g ht.1 h.1) (hb c Wx X y r p g ht.2 h.2)) fun σ H Q' q => tb_an q
  refine ⟨fun c Wx X x g ht h => ?_, fun c Wx X y r p g ht h => ?_⟩
  · have h' := h
    unfold chkE at h
    split at h
    · exact (main c Wx X _ _ _ _ g ht h').pt
    · cases h
  · cases r with
    | nil =>
      have h : chkE c (.an a b) y = true := h
      have h' := h
      unfold chkE at h
      split at h
      · exact pw_and1 (main c Wx X _ _ _ _ g ht h').pt
      · cases h
    | cons z r => exact main c Wx X y z r p g ht h
theorem t_or {a b : Ex} (ha : ST T n C a) (hb : SO T n C b) : ST T n C (.or a b) ∧ SO T n C (.or a b) := by
  have main : ∀ (c : Cz) (Wx : WX) (X : Cx) (x y : Expr) (r : List Expr) (p : Pos), Good T n C c Wx X → tT (.or a b) = true → chkE c (.or a b) (.BoolOp .Or (x :: y :: r) p) = true → PW X (.BoolOp .Or (x :: y :: r) p) (TB T X.K Wx (wpE T.G C (.or a b))) := fun c Wx X x y r p g ht h => by
    unfold chkE at h
    simp only [Bool.and_eq_true] at h
    simp only [tT, Bool.and_eq_true] at ht
    exact pw_imp (pw_or (ha c Wx X _ g ht.1 h.1) (hb c Wx X y r p g ht.2 h.2)) fun σ H Q' q => tb_or q
  refine ⟨fun c Wx X x g ht h => ?_, fun c Wx X y r p g ht h => ?_⟩
  · have h' := h
    unfold chkE at h
    split at h
    · exact (main c Wx X _ _ _ _ g ht h').pt
    · cases h
  · cases r with
    | nil =>
      have h : chkE c (.or a b) y = true := h
      have h' := h
      unfold chkE at h
      split at h
      · exact pw_or1 (main c Wx X _ _ _ _ g ht h').pt
      · cases h
    | cons z r => exact main c Wx X y z r p g ht h
end
end Zk

namespace Zk
open PySem PySem.Spec PyProof.Rows L2

section
variable {T : Tb} {n : Nat} {C : Calls}
theorem st_both {e : Ex} (h : ∀ (c : Cz) (Wx : WX) (X : Cx) (x : Expr), Good T n C c Wx X → chkE c e x = true → PE X x (TO T X.K Wx (wpE T.G C e)) ∧ PT X x (TB T X.K Wx (wpE T.G C e))) : SE T n C e ∧ ST T n C e :=
  ⟨fun c Wx X x g hx => (h c Wx X x g hx).1, fun c Wx X x g _ hx => (h c Wx X x g hx).2⟩
theorem b_cmp {op : Co} {a b : Ex} (ha : SE T n C a) (hb : SE T n C b) : SE T n C (.cmp op a b) ∧ ST T n C (.cmp op a b) := st_both fun c Wx X x g h => by
  unfold chkE at h
  split at h
  · simp only [Bool.and_eq_true] at h
    obtain ⟨⟨⟨h1, h2⟩, h3⟩, h4⟩ := h
    cases isCop_ok h1
    exact both (pc_cmp g.big (ha c Wx X _ g h3) (hb c Wx X _ g h4)) h2
  · cases h
theorem b_cm2 {op op' : Co} {a b d : Ex} (ha : SE T n C a) (hb : SE T n C b) (hd : SE T n C d) : SE T n C (.cm2 op op' a b d) ∧ ST T n C (.cm2 op op' a b d) := st_both fun c Wx X x g h => by
  unfold chkE at h
  split at h
  · simp only [Bool.and_eq_true] at h
    obtain ⟨⟨⟨⟨⟨⟨⟨⟨h1, h2⟩, h3⟩, h4⟩, h5⟩, h6⟩, h7⟩, h8⟩, h9⟩ := h
    cases isCop_ok h1
    cases isCop_ok h2
    exact cm2_ok h3 h4 g.big (ha c Wx X _ g h7) (hb c Wx X _ g h8) (hd c Wx X _ g h9) h6
  · cases h
theorem b_isN {neg : Bool} {a : Ex} (ha : SE T n C a) : SE T n C (.isN neg a) ∧ ST T n C (.isN neg a) := st_both fun c Wx X x g h => by
  unfold chkE at h
  split at h
  · simp only [Bool.and_eq_true] at h
    exact both (isN_ok h.1 (ha c Wx X _ g h.2)) rfl
  · cases h
theorem b_tyI {neg : Bool} {a : Ex} {t : Ty} (ha : SE T n C a) : SE T n C (.tyI neg a t) ∧ ST T n C (.tyI neg a t) := st_both fun c Wx X x g h => by
  unfold chkE at h
  split at h
  · simp only [Bool.and_eq_true, decide_eq_true_eq] at h
    obtain ⟨⟨⟨⟨⟨⟨⟨h1, h2⟩, h3⟩, h4⟩, h5⟩, h6⟩, h7⟩, h8⟩ := h
    subst h3
    subst h4
    exact both (ty_ok g h2 h5 h6 h7 (ha c Wx X _ g h8)) rfl
  · cases h
theorem s_ite {a b d : Ex} (ha : ST T n C a) (hb : SE T n C b) (hd : SE T n C d) : SE T n C (.ite a b d) := fun c Wx X x g h => by
  unfold chkE at h
  split at h
  · simp only [Bool.and_eq_true] at h
    obtain ⟨⟨⟨h1, h2⟩, h3⟩, h4⟩ := h
    refine pe_imp (pe_ifExp (ha c Wx X _ g h1 h2) (hb c Wx X _ g h3) (hd c Wx X _ g h4)) fun σ H Q' q => ?_
    obtain ⟨ω, env, st, Q, Ex, E, S, hm, k, kx⟩ := q
    refine ⟨ω, env, st, Ex, fun k s => (k = true → wpE T.G C b env s Ex Q) ∧ (k = false → wpE T.G C d env s Ex Q), E, S, hm, fun ω1 k' st1 H1 t1 S1 q1 => ?_, kx⟩
    cases k' with
    | true => exact iteT ⟨ω1, env, st1, Q, Ex, E.up t1.le, S1, q1.1 rfl, k.on t1, kx.on t1⟩
    | false => exact iteF ⟨ω1, env, st1, Q, Ex, E.up t1.le, S1, q1.2 rfl, k.on t1, kx.on t1⟩
  · cases h
theorem s_lst {m : Bool} {es : Ex} (hl : SL T n C es) : SE T n C (.lst m es) := fun c Wx X x g h => by
  unfold chkE at h
  split at h
  · simp only [Bool.and_eq_true] at h
    refine pe_imp (pe_lst (hl c Wx X _ g h.1 h.2)) fun σ H Q' q => ?_
    obtain ⟨ω, env, st, Q, Ex, E, S, hm, k, kx⟩ := q
    exact TL.out E S hm kx fun ω1 ws vs st1 H1 t1 S1 E1 r q kx1 => (k.on t1).newL S1 r q
  · cases h
theorem s_tup {es : Ex} (hl : SL T n C es) : SE T n C (.tup es) := fun c Wx X x g h => by
  unfold chkE at h
  split at h
  · simp only [Bool.and_eq_true] at h
    refine pe_imp (pe_tup (hl c Wx X _ g h.1 h.2)) fun σ H Q' q => ?_
    obtain ⟨ω, env, st, Q, Ex, E, S, hm, k, kx⟩ := q
    exact TL.out E S hm kx fun ω1 ws vs st1 H1 t1 S1 E1 r q kx1 => ⟨by rw [← r.length]; exact q.1, (k.on t1).newT S1 r q.2⟩
  · cases h
theorem s_dct {m : Bool} {es : Ex} : SE T n C (.dct m es) := fun c Wx X x g h => by
  unfold chkE at h
  split at h
  · refine pe_imp (pe_lk pe_dnewK) fun σ H Q' q => ?_
    obtain ⟨ω, env, st, Q, Ex, E, S, ⟨_, hm⟩, k, kx⟩ := q
    exact k.newD S (by simp) .nil hm
  · cases h
theorem s_ix {a b : Ex} (ha : SE T n C a) (hb : SE T n C b) : SE T n C (.ix a b) := fun c Wx X x g h => by
  unfold chkE at h
  split at h
  · simp only [Bool.and_eq_true] at h
    obtain ⟨⟨h1, h2⟩, h3⟩ := h
    refine pe_imp (pe_ix ix_ok (ha c Wx X _ g h2) (hb c Wx X _ g h3) (plainIx_of h1)) fun σ H Q' q => ?_
    obtain ⟨ω, env, st, Q, Ex, E, S, hm, k, kx⟩ := q
    refine TO.step E S hm kx fun ω1 x v st1 H1 t1 S1 E1 r1 q1 kx1 => ?_
    refine TO.step E1 S1 q1 kx1 fun ω2 y u st2 H2 t2 S2 E2 r2 q2 kx2 => ?_
    exact ⟨ω2, x, y, st2, Q, S2, r1.up t2.le, r2, q2, k.on (t1.trans t2)⟩
  · cases h
theorem s_dix {a b : Ex} (ha : SE T n C a) (hb : SE T n C b) : SE T n C (.dix a b) := fun c Wx X x g h => by
  unfold chkE at h
  split at h
  · simp only [Bool.and_eq_true] at h
    obtain ⟨⟨h1, h2⟩, h3⟩ := h
    refine pe_imp (pe_dget g.big.u1 (ha c Wx X _ g h2) (hb c Wx X _ g h3) (noSl_of h1)) fun σ H Q' q => ?_
    obtain ⟨ω, env, st, Q, Ex, E, S, hm, k, kx⟩ := q
    refine TO.step E S hm kx fun ω1 x v st1 H1 t1 S1 E1 r1 q1 kx1 => ?_
    refine TO.step E1 S1 q1 kx1 fun ω2 y u st2 H2 t2 S2 E2 r2 q2 kx2 => ?_
    obtain ⟨l, ky, w, e1, e2, e3, q⟩ := q2
    obtain ⟨p, vs, rfl, hd, nd, rl⟩ := dc_ok S2 (r1.up t2.le) e1
    rcases RelK.look ky rl with ⟨z1, z2⟩ | ⟨w', v', z1, z2, z3⟩
    · rw [e3] at z1; cases z1
    · rw [e3] at z1; cases z1
      exact ⟨p, v', rfl, .inl ⟨vs, ky, hd, keyOf_ok e2 r2, z2.symm⟩, (k.on (t1.trans t2)).at S2 z3 q⟩
  · cases h
theorem po_imp {X : Cx} {e : Option Expr} {t t' : L2.TO} (h : PO X e t) (w : ∀ σ H Q, t' σ H Q → t σ H Q) : PO X e t' := ⟨fun pins s σ H Q I q => h.run pins s σ H Q I (w σ H Q q)⟩
/-- a part of a slice -/
def TP' (T : Tb) (K : PySem.W.Frag) (Wx : WX) (C : Calls) (e : Ex) : L2.TO := fun σ H Q' => ∃ ω env st Ex, ∃ Q : Option Int → Sto → Prop, EnvR K ω env σ ∧ StR K ω st H ∧ wpE T.G C e env st Ex (fun w s => ∃ o, prt e w o ∧ Q o s) ∧
  (∀ ω' o st' H', Stp ω st H ω' st' H' → StR K ω' st' H' → Q o st' → Q' o H') ∧ KX T K ω st H Ex fun c d H' => Wx c d σ H'
theorem p_ok {e : Ex} (he : SE T n C e) {c : Cz} {Wx : WX} {X : Cx} {x : Option Expr} (g : Good T n C c Wx X) (h : chkP c e x = true) : PO X x (TP' T X.K Wx C e) := by
  have gen : (∀ w o, prt e w o → ∃ i, w = .int i ∧ o = some i) → (∃ y, x = some y ∧ chkE c e y = true) → PO X x (TP' T X.K Wx C e) := fun hp ⟨y, e1, e2⟩ => by
    subst e1
    refine po_imp (po_some (he c Wx X y g e2)) fun σ H Q' q => ?_
    obtain ⟨ω, env, st, Ex, Q, E, S, hm, k, kx⟩ := q
    refine TO.step E S hm kx fun ω1 w v st1 H1 t1 S1 E1 r1 ⟨o, ho, q1⟩ kx1 => ?_
    obtain ⟨i, rfl, rfl⟩ := hp w o ho
    cases r1.int_inv
    exact ⟨i, rfl, k _ _ _ _ t1 S1 q1⟩
  cases e
  case no =>
    unfold chkP at h
    cases x with
    | some y => cases h
    | none =>
      refine po_imp po_none fun σ H Q' q => ?_
      obtain ⟨ω, env, st, Ex, Q, E, S, ⟨o, ho, hq⟩, k, kx⟩ := q
      have ho : o = none := ho
      subst ho
      exact k _ _ _ _ .refl S hq
  all_goals
    unfold chkP at h
    refine gen (fun w o z => z) ?_
    cases x with
    | none => cases h
    | some y => exact ⟨y, rfl, h⟩
theorem s_sl {m : Bool} {a lo hi : Ex} (ha : SE T n C a) (hl : SE T n C lo) (hh : SE T n C hi) : SE T n C (.sl m a lo hi) := fun c Wx X x g h => by
  unfold chkE at h
  split at h
  · simp only [Bool.and_eq_true] at h
    obtain ⟨⟨h1, h2⟩, h3⟩ := h
    refine pe_imp (pe_slice (sl_ok m) (ha c Wx X _ g h1) (p_ok hl g h2) (p_ok hh g h3)) fun σ H Q' q => ?_
    obtain ⟨ω, env, st, Q, Ex, E, S, hm, k, kx⟩ := q
    refine TO.step E S hm kx fun ω1 x v st1 H1 t1 S1 E1 r1 q1 kx1 => ?_
    refine ⟨ω1, env, st1, Ex, fun l' s => wpE T.G C hi env s Ex fun h st3 => ∃ h', prt hi h h' ∧ slW m x l' h' st3 Q, E1, S1, q1, fun ω2 l' st2 H2 t2 S2 q2 => ?_, kx1⟩
    refine ⟨ω2, env, st2, Ex, fun h' st3 => slW m x l' h' st3 Q, E1.up t2.le, S2, q2, fun ω3 h' st3 H3 t3 S3 q3 => ?_, kx1.on t2⟩
    exact ⟨ω3, x, st3, Q, S3, r1.up (t2.le.trans t3.le), q3, k.on ((t1.trans t2).trans t3)⟩
  · cases h
theorem s_cal {f : Nat} {es : Ex} (hl : SL T n C es) : SE T n C (.cal f es) := fun c Wx X x g h => by
  unfold chkE at h
  split at h
  · rename_i nm p args pos
    simp only [Bool.and_eq_true, decide_eq_true_eq] at h
    obtain ⟨⟨⟨⟨⟨h1, h2⟩, h3⟩, h4⟩, h5⟩, h6⟩ := h
    cases args with
    | nil =>
      have e : es = .nil := by
        cases es <;> first | rfl | (simp [chkL] at h6)
      subst e
      refine pe_imp (pe_cal0 g h1 h2 h3 h4) fun σ H Q' q => ?_
      obtain ⟨ω, env, st, Q, Ex, E, S, ⟨ws, e, q⟩, k, kx⟩ := q
      cases e
      exact ⟨ω, env, st, Q, Ex, E, S, q, k, kx⟩
    | cons y ys => exact pe_cal g h1 h2 h3 h4 h5 (hl c Wx X _ g h5 h6)
  · cases h
theorem s_calK {f j m mk : Nat} {perm : List Nat} {es ks : Ex} (hl : SL T n C es) (hk : SK T n C ks) : SE T n C (.calK f j m mk perm es ks) := fun c Wx X x g h => by
  unfold chkE at h
  split at h
  · rename_i nm p args kws pos
    simp only [Bool.and_eq_true, decide_eq_true_eq] at h
    obtain ⟨⟨⟨⟨⟨⟨⟨h1, h2⟩, h3⟩, h4⟩, h5⟩, h6⟩, h7⟩, h8⟩ := h
    cases hq : c.kws[j]? with
    | none => rw [hq] at h2; cases h2
    | some q =>
      rw [hq] at h2
      simp only [Bool.and_eq_true, decide_eq_true_eq] at h2
      obtain ⟨⟨⟨⟨⟨e1, e2⟩, e3⟩, e4⟩, e5⟩, e6⟩ := h2
      subst e2 e4 e5
      refine pe_calK g h1 hq e1 e3 e6 h3 h4 h5 h6 (fun z env st Ex Q q => ?_) (hl c Wx X _ g h6 h7) (hk c Wx X _ g h8)
      subst z
      have e : es = .nil := by
        cases es <;> first | rfl | (simp [chkL] at h7)
      subst e
      exact q
  · cases h
theorem rg_gl {c : Cz} {Wx : WX} {X : Cx} (g : Good T n C c Wx X) : X.mg "range" = none ∧ X.mg "list" = none := ⟨g.tb.bl _ (by decide +kernel), g.tb.bl _ (by decide +kernel)⟩
theorem rgV_eq (a b : Int) : rgV a b = ((List.range (b - a).toNat).map fun k => V.int (a + (k : Nat))) := rfl
theorem rel_rg {K : PySem.W.Frag} {ω : Wd} (a b : Int) : RelL K ω ((List.range (b - a).toNat).map fun k => W.int (a + (k : Nat))) (rgV a b) := by
  unfold rgV
  have := RelL.ints (K := K) (ω := ω) ((List.range (b - a).toNat).map fun k : Nat => a + (k : Int))
  rw [List.map_map, List.map_map] at this
  exact this
theorem s_lrg2 {m : Bool} {a b : Ex} (ha : SE T n C a) (hb : SE T n C b) : SE T n C (.lrg2 m a b) := fun c Wx X x g h => by
  unfold chkE at h
  split at h
  · simp only [Bool.and_eq_true, decide_eq_true_eq] at h
    obtain ⟨⟨⟨⟨⟨⟨⟨⟨h1, h2⟩, h3⟩, h4⟩, h5⟩, h6⟩, h7⟩, h8⟩, h9⟩ := h
    subst h2 h3
    refine pe_imp (pe_listRg (g.calm h1) (g.gl h4) (rg_gl g).2 (prg_2 (g.gl h5) (rg_gl g).1 (ha c Wx X _ g h8) (hb c Wx X _ g h9) (starEach_of h6) (starEach_of h7) (star_any (by simp [h7]))) rfl) fun σ H Q' q => ?_
    obtain ⟨ω, env, st, Q, Ex, E, S, hm, k, kx⟩ := q
    refine TO.step E S hm kx fun ω1 x v st1 H1 t1 S1 E1 r1 q1 kx1 => ?_
    refine TO.step E1 S1 q1 kx1 fun ω2 y u st2 H2 t2 S2 E2 r2 q2 kx2 => ?_
    obtain ⟨i, j, rfl, rfl, b1, b2, b3, b4, q⟩ := q2
    cases r1.int_inv
    cases r2.int_inv
    obtain ⟨hz, q⟩ := (k.on (t1.trans t2)).newL S2 (rel_rg i j) q
    rw [rgV_length, sizeLine_eq] at hz
    exact ⟨i, j, rfl, rfl, ⟨b1, b2, b3, b4, hz⟩, q⟩
  · cases h
theorem s_lrg1 {m : Bool} {a : Ex} (ha : SE T n C a) : SE T n C (.lrg1 m a) := fun c Wx X x g h => by
  unfold chkE at h
  split at h
  · simp only [Bool.and_eq_true, decide_eq_true_eq] at h
    obtain ⟨⟨⟨⟨⟨⟨h1, h2⟩, h3⟩, h4⟩, h5⟩, h6⟩, h7⟩ := h
    subst h2 h3
    refine pe_imp (pe_listRg (g.calm h1) (g.gl h4) (rg_gl g).2 (prg_1 (g.gl h5) (rg_gl g).1 (ha c Wx X _ g h7) (starEach_of h6)) rfl) fun σ H Q' q => ?_
    obtain ⟨ω, env, st, Q, Ex, E, S, hm, k, kx⟩ := q
    refine TO.step E S hm kx fun ω1 x v st1 H1 t1 S1 E1 r1 q1 kx1 => ?_
    obtain ⟨j, rfl, b3, b4, q⟩ := q1
    cases r1.int_inv
    have rr : RelL X.K ω1 ((List.range j.toNat).map fun k => W.int (k : Nat)) (rgV 0 j) := by
      have := rel_rg (K := X.K) (ω := ω1) 0 j
      simpa using this
    obtain ⟨hz, q⟩ := (k.on t1).newL S1 rr q
    rw [rgV_length, sizeLine_eq] at hz
    exact ⟨j, rfl, ⟨by decide, by decide, b3, b4, hz⟩, q⟩
  · cases h
/-- a range object, kept -/
theorem pe_rgv {X : Cx} {a : Expr} {ta : TA} {p pos : Pos} (hg : Gl X "range") (hm : X.mg "range" = none) (ha : PA X [a] ta) (hs : starEach [a] X.env = [(false, eval a X.env)]) :
    PE X (.Call (.Name "range" p) [a] [] pos) (fun σ H Q => ta σ H fun vs H1 => ∃ j : Int, vs = [.int j] ∧ ∀ q, H1 q = none → Q (.ref q) (upd H1 q (.rng 0 j))) := by
  refine ⟨fun pins s σ H Q I h => ?_⟩
  refine Call_ (ld_blt I hg hm boot_range (PyProof.Rows.callWith_type1 (thn (ha.run pos pins s σ H _ I h) fun us s1 ⟨vs, H1, I1, r1, q1⟩ => ?_) hs rfl))
  obtain ⟨j, e, q⟩ := q1
  subst e
  cases r1 with
  | cons r rr =>
    cases rr
    obtain ⟨t, rfl⟩ := r
    exact call_range_1 ⟨.ref s1.heap.objs.size, upd H1 s1.heap.objs.size (.rng 0 j), I1.laid (fun b u e => Heap.get?_push_of_some _ e) (Nat.le_refl _) ⟨_, _, _, Heap.get?_push_size _ rfl⟩, rfl, q _ (I1.hok.fresh (Nat.le_refl _))⟩
theorem s_rgv {a : Ex} (ha : SE T n C a) : SE T n C (.rgv a) := fun c Wx X x g h => by
  unfold chkE at h
  split at h
  · simp only [Bool.and_eq_true, decide_eq_true_eq] at h
    obtain ⟨⟨⟨⟨h1, h2⟩, h3⟩, h4⟩, h5⟩ := h
    subst h2
    refine pe_imp (pe_rgv (g.gl h3) (rg_gl g).1 (pa_cons (ha c Wx X _ g h5) pa_nil (starEach_of h4)) (starEach_of h4)) fun σ H Q' q => ?_
    obtain ⟨ω, env, st, Q, Ex, E, S, hm, k, kx⟩ := q
    refine TO.step E S hm kx fun ω1 x v st1 H1 t1 S1 E1 r1 q1 kx1 => ?_
    obtain ⟨j, rfl, b3, b4, q⟩ := q1
    cases r1.int_inv
    refine ⟨j, rfl, fun p hp => ?_⟩
    obtain ⟨S2, t2⟩ := S1.laid hp (.rng 0 j)
    have e : (0 : Int) + (j.toNat : Nat) = j := by omega
    refine (k.on (t1.trans t2)).at S2 (.rng (lo := 0) (n := j.toNat) (.inl ?_)) q
    rw [e]
    exact upd_same
  · cases h
theorem s_bi {f : Bi} {m : Bool} {es : Ex} (hl : SL T n C es) : SE T n C (.bi f m es) := fun c Wx X x g h => by
  unfold chkE at h
  split at h
  · simp only [Bool.and_eq_true, decide_eq_true_eq] at h
    obtain ⟨⟨⟨⟨h1, h2⟩, h3⟩, h4⟩, h5⟩ := h
    subst h2
    exact bi_ok g h1 h3 h4 (hl c Wx X _ g h4 h5)
  · cases h
theorem s_mt {f : Mt} {o es : Ex} (ho : SE T n C o) (hl : SL T n C es) (h2 : ∀ a b, es = .cons a (.cons b .nil) → SE T n C a ∧ SE T n C b) : SE T n C (.mt f o es) := fun c Wx X x g h => by
  unfold chkE at h
  split at h
  · rename_i ox m ap args cp
    simp only [Bool.and_eq_true, decide_eq_true_eq] at h
    obtain ⟨⟨⟨⟨⟨⟨h1, hln⟩, h3⟩, h4⟩, h5⟩, h6⟩, h7⟩ := h
    subst h1
    refine mt_ok g hln h3 h4 h5 (ho c Wx X _ g h6) (hl c Wx X _ g h4 h7) (fun z env st Ex Q q => ?_) (fun a b z => ?_)
    · subst z
      have e : es = .nil := by
        cases es <;> first | rfl | (simp [chkL] at h7)
      subst e
      exact q
    · subst z
      cases es <;> simp [chkL] at h7
      rename_i e1 r1
      obtain ⟨k1, k2⟩ := h7
      cases r1 <;> simp [chkL] at k2
      rename_i e2 r2
      obtain ⟨k2, k3⟩ := k2
      cases r2 <;> simp [chkL] at k3
      obtain ⟨s1, s2⟩ := h2 e1 e2 rfl
      refine ⟨_, _, s1 c Wx X _ g k1, s2 c Wx X _ g k2, fun env st Ex Q q => ?_⟩
      have q : wpE T.G C e1 env st Ex fun x st1 => wpE T.G C (.cons e2 .nil) env st1 Ex fun w st2 => ∃ ws, w = .tup ws ∧ Q (.tup (x :: ws)) st2 := q
      refine Eq.mp (congrArg (wpE T.G C e1 env st Ex) ?_) q
      funext x s
      show (wpE T.G C e2 env s Ex fun y st1 => (∃ ws, (W.tup [] : W) = .tup ws ∧ (∃ ws', (W.tup (y :: ws)) = .tup ws' ∧ Q (.tup (x :: ws')) st1))) = _
      refine congrArg (wpE T.G C e2 env s Ex) ?_
      funext y s2
      exact propext ⟨fun ⟨ws, e1, ws', e2, q⟩ => by cases e1; cases e2; exact q, fun q => ⟨[], rfl, _, rfl, q⟩⟩
  · cases h
theorem s_frz {a : Ex} (ha : SE T n C a) : SE T n C (.frz a) := fun c Wx X x g h => by
  unfold chkE at h
  refine pe_imp (pe_lk (ha c Wx X x g h)) fun σ H Q' q => ?_
  obtain ⟨ω, env, st, Q, Ex, E, S, hm, k, kx⟩ := q
  refine TO.step E S hm kx fun ω1 w v st1 H1 t1 S1 E1 r1 q1 kx1 => ?_
  rcases q1 with ⟨j, l, b, rfl, e, q⟩ | ⟨j, l, b, rfl, e, q⟩ | ⟨l, rfl, q⟩ | ⟨l, rfl, q⟩ | ⟨j, D, l, b, rfl, e, q⟩ | ⟨j, l, b, rfl, e, q⟩ | ⟨l, rfl, q⟩
  · cases r1 with
    | ref e1 =>
      obtain ⟨ω2, t2, S2, vs, hd, rl⟩ := frz_ok S1 e1 e (.inl ⟨_, rfl⟩)
      exact .inl (k _ _ _ _ _ (t1.trans t2) S2 (.lst (.inl hd) rl) q)
  · cases r1 with
    | ref e1 =>
      cases b with
      | false =>
        rw [set_self e] at q
        obtain ⟨o, vs, hd, nd, rl⟩ := S1.stl _ _ _ e1 e
        exact .inl ((k.on t1).at S1 (.dct hd nd rl) q)
      | true =>
        obtain ⟨vs, hh, go⟩ := S1.freezeD e1 e
        refine .inr ⟨_, _, hh, trivial, fun od => ?_⟩
        obtain ⟨ω2, S2, t2, o, vs', hd, nd, rl⟩ := go od
        exact k _ _ _ _ _ (t1.trans t2) S2 (.dct hd nd rl) q
  · exact .inl ((k.on t1).at S1 r1 q)
  · exact .inl ((k.on t1).at S1 r1 q)
  · cases r1 with
    | ref e1 =>
      obtain ⟨ω2, t2, S2, dx, vs, hd, rl⟩ := frz_ok S1 e1 e (.inr ⟨_, _, rfl⟩)
      exact .inl (k _ _ _ _ _ (t1.trans t2) S2 (.obj hd rl) q)
  · cases r1 with
    | ref e1 =>
      cases b with
      | false =>
        rw [set_self e] at q
        obtain ⟨o, vs, hd, nd, rl⟩ := S1.stl _ _ _ e1 e
        exact .inl ((k.on t1).at S1 (.dtt hd nd rl) q)
      | true =>
        obtain ⟨vs, hh, go⟩ := S1.freezeT e1 e
        refine .inr ⟨_, _, hh, trivial, fun od => ?_⟩
        obtain ⟨ω2, S2, t2, o, vs', hd, nd, rl⟩ := go od
        exact k _ _ _ _ _ (t1.trans t2) S2 (.dtt hd nd rl) q
  · exact .inl ((k.on t1).at S1 r1 q)
theorem l_nil : SL T n C .nil := fun c Wx X xs g _ h => by
  cases xs with
  | cons _ _ => simp [chkL] at h
  | nil =>
    refine pa_imp pa_nil fun σ H Q' q => ?_
    obtain ⟨ω, env, st, Q, Ex, E, S, hm, k, kx⟩ := q
    exact k _ _ _ _ .refl S hm _ _ rfl .nil
theorem tl_cons {K : PySem.W.Frag} {Wx : WX} {a r : Ex} {σ : L2.St} {H : Hp} {Q' : List V → Hp → Prop} (q : TL T K Wx (wpE T.G C (.cons a r)) σ H Q') : tCons (TO T K Wx (wpE T.G C a)) (TL T K Wx (wpE T.G C r)) σ H Q' := by
  obtain ⟨ω, env, st, Q, Ex, E, S, hm, k, kx⟩ := q
  refine TO.step E S hm kx fun ω1 x v st1 H1 t1 S1 E1 r1 q1 kx1 => ?_
  refine TL.out E1 S1 q1 kx1 fun ω2 ws vs st2 H2 t2 S2 E2 rl q kx2 => ?_
  exact k _ _ _ _ (t1.trans t2) S2 q _ _ rfl (.cons (r1.up t2.le) rl)
theorem l_cons {a r : Ex} (ha : SE T n C a) (hr : SL T n C r) : SL T n C (.cons a r) := fun c Wx X xs g hs h => by
  cases xs with
  | nil => simp [chkL] at h
  | cons x xs =>
    simp only [chkL, Bool.and_eq_true] at h
    simp only [argB, List.all_cons, Bool.and_eq_true] at hs
    exact pa_imp (pa_cons (ha c Wx X x g h.1) (hr c Wx X xs g hs.2 h.2) (starEach_of hs.1)) fun σ H Q' q => tl_cons q
theorem k_nil : SK T n C .nil := fun c Wx X xs g h => by
  cases xs with
  | cons _ _ => simp [chkL] at h
  | nil =>
    refine ⟨fun pos pins s σ H Q' I q => pk_nil.run pos pins s σ H Q' I ?_⟩
    obtain ⟨ω, env, st, Q, Ex, E, S, hm, k, kx⟩ := q
    exact k _ _ _ _ .refl S hm _ _ rfl .nil
theorem k_cons {a r : Ex} (ha : SE T n C a) (hr : SK T n C r) : SK T n C (.cons a r) := fun c Wx X xs g h => by
  cases xs with
  | nil => simp [chkL] at h
  | cons x xs =>
    obtain ⟨nm, y, p⟩ := x
    simp only [List.map_cons, chkL, Bool.and_eq_true] at h
    exact ⟨fun pos pins s σ H Q' I q => (pk_cons (ha c Wx X y g h.1) (hr c Wx X xs g h.2)).run pos pins s σ H Q' I (tl_cons q)⟩
theorem c_nil : SC T n C .nil := fun c Wx X xs g _ h => by
  cases xs with
  | cons _ _ => simp [chkL] at h
  | nil =>
    refine ⟨fun pins s σ H Q' I q => pts_nil.run pins s σ H Q' I ?_⟩
    obtain ⟨ω, env, st, Ex, Q, E, S, hm, k, kx⟩ := q
    rcases hm with ⟨_, hm⟩ | ⟨x, b, e, _⟩
    · exact k _ _ _ _ .refl S hm
    · cases e
theorem c_cons {a r : Ex} (ha : ST T n C a) : SC T n C (.cons a r) := fun c Wx X xs g ht h => by
  cases r <;> simp only [tL, Bool.false_eq_true] at ht
  cases xs with
  | nil => simp [chkL] at h
  | cons x xs =>
    simp only [chkL, Bool.and_eq_true] at h
    cases xs with
    | cons _ _ => simp at h
    | nil =>
      refine ⟨fun pins s σ H Q' I q => (pts_one (ha c Wx X x g ht h.1)).run pins s σ H Q' I ?_⟩
      obtain ⟨ω, env, st, Ex, Q, E, S, hm, k, kx⟩ := q
      refine ⟨ω, env, st, Ex, Q, E, S, ?_, k, kx⟩
      refine Eq.mp (congrArg (wpE T.G C a env st Ex) ?_) hm
      funext w s
      refine propext ⟨fun h => ?_, fun ⟨b, e, q⟩ => ⟨[], rfl, .inr ⟨w, b, rfl, e, q⟩⟩⟩
      obtain ⟨ws, e, h⟩ := h
      cases e
      rcases h with ⟨e, _⟩ | ⟨x, b, e, e2, q⟩
      · cases e
      · cases e; exact ⟨b, e2, q⟩
theorem i_val {e : Ex} (he : SE T n C e) (hc : ∀ c x, chkI c e x = chkE c e x) : SI T n C e := fun c Wx X tg x g _ _ h => pi_val (he c Wx X x g (by rw [← hc]; exact h))
theorem walk_lst {l : List W} {st : Sto} {Q : List W → (Sto → Prop) → Sto → Prop} (q : walkP (.lst l) st Q) : Q l gT st := by
  rcases q with ⟨l, e, q⟩ | ⟨l, e, _⟩ | ⟨l, e, _⟩ | ⟨_, _, _, e, _⟩ | ⟨_, _, e, _⟩ | ⟨_, e, _⟩ | ⟨_, _, _, e, _⟩ <;> cases e
  exact q
theorem i_rg1 {a : Ex} (ha : SE T n C a) : SI T n C (.rg1 a) := fun c Wx X tg x g hc _ h => by
  unfold chkI at h
  split at h
  · simp only [Bool.and_eq_true, decide_eq_true_eq] at h
    obtain ⟨⟨⟨h1, h2⟩, h3⟩, h4⟩ := h
    subst h1
    refine pi_imp (pi_range1 (g.gl h2) (rg_gl g).1 (pa_cons (ha c Wx X _ g h4) pa_nil (starEach_of h3)) (starEach_of h3)) fun σ H R q => ?_
    obtain ⟨ω, env, st, Ex, Q, E, S, hm, k, kx⟩ := q
    refine TO.step E S hm kx fun ω1 w v st1 H1 t1 S1 E1 r1 q1 kx1 => ?_
    obtain ⟨j, rfl, b1, b2, q⟩ := q1
    cases r1.int_inv
    refine ⟨j, rfl, b1, b2, k _ _ _ _ _ _ t1 S1 ?_ (walk_lst q)⟩
    have := itR_rng (K := X.K) (ω := ω1) (lo := 0) (m := j.toNat) (g := gT)
    simpa using this
  · cases h
/-- a range object that stands, walked -/
theorem pi_rngv {X : Cx} {tg l : Expr} {tl : TE} (hl : PE X l tl) : PI X tg l (fun σ H R => tl σ H fun x H1 => ∃ a lo, ∃ n : Nat, x = .ref a ∧ Rd H1 a (.rng lo (lo + (n : Nat))) ∧ -(2 ^ 62) ≤ lo ∧ lo + (n : Nat) < 2 ^ 62 ∧ R (Itr lo n) H1) := by
  refine ⟨fun pins s σ H R I h => ?_⟩
  refine thn (hl.run pins s σ H _ I h) fun v s1 ⟨x, H1, I1, r1, a, lo, n, e, hr, b1, b2, q⟩ => ?_
  subst e
  cases r1
  have hh : ∃ t u v, s1.heap.get? a = some { cls := .type "range", data := .fields #[.int lo t, .int (lo + (n : Nat)) u, .int 1 v] } := by
    rcases hr with hr | ⟨o, hr⟩
    · exact I1.hok a _ hr
    · exact (I1.hok a _ hr).2
  obtain ⟨t, u, v, hh⟩ := hh
  refine PySem.wpAny_pyIter_range hh (small_one (by omega) (by omega) (by omega) (by omega)) ?_
  refine ⟨s1.heap.objs.size, [s1.heap.objs.size], _, _, H1, rfl, I1.kept (t' := s1.toks) fun b o e => Heap.get?_push_of_some _ e, turn_range _ lo n, ?_, fun b hb => ?_, q⟩
  · have e1 : lo + ((0 : Nat) : Int) * 1 = lo := by simp
    have e2 : ((n : Nat) : Int) - ((0 : Nat) : Int) = Builtin.Range.rangeSize lo (lo + (n : Nat)) 1 := by rw [rangeSize_one]; split <;> omega
    show IsRangeIter _ _ (lo + ((0 : Nat) : Int) * 1) (((n : Nat) : Int) - ((0 : Nat) : Int)) 1
    rw [e1, e2]
    exact Heap.get?_push_size _ rfl
  · have e : b = s1.heap.objs.size := by simpa using hb
    subst e
    exact I1.fpOk (Nat.le_refl _) (I1.hok.fresh (Nat.le_refl _))
theorem i_wrg {a : Ex} (ha : SE T n C a) : SI T n C (.wrg a) := fun c Wx X tg x g hc _ h => by
  unfold chkI at h
  split at h
  · refine pi_imp (pi_rngv (ha c Wx X _ g h)) fun σ H R q => ?_
    obtain ⟨ω, env, st, Ex, Q, E, S, hm, k, kx⟩ := q
    refine TO.step E S hm kx fun ω1 w v st1 H1 t1 S1 E1 r1 q1 kx1 => ?_
    obtain ⟨lo, n, rfl, b1, b2, q⟩ := q1
    cases r1 with
    | rng s =>
      exact ⟨_, lo, n, rfl, S1.sub _ _ s, b1, b2, k _ _ _ _ _ _ t1 S1 itR_rng (walk_lst q)⟩
  · cases h
theorem i_rg2 {a b : Ex} (ha : SE T n C a) (hb : SE T n C b) : SI T n C (.rg2 a b) := fun c Wx X tg x g hc _ h => by
  unfold chkI at h
  split at h
  · simp only [Bool.and_eq_true, decide_eq_true_eq] at h
    obtain ⟨⟨⟨⟨⟨h1, h2⟩, h3⟩, h4⟩, h5⟩, h6⟩ := h
    subst h1
    refine pi_imp (pi_range2 (g.gl h2) (rg_gl g).1 (pa_cons (ha c Wx X _ g h5) (pa_cons (hb c Wx X _ g h6) pa_nil (starEach_of h4)) (starEach_of h3)) (by rw [starEach_of h3, starEach_of h4]; rfl) (starEach_of h4)) fun σ H R q => ?_
    obtain ⟨ω, env, st, Ex, Q, E, S, hm, k, kx⟩ := q
    refine TO.step E S hm kx fun ω1 w v st1 H1 t1 S1 E1 r1 q1 kx1 => ?_
    refine TO.step E1 S1 q1 kx1 fun ω2 w2 v2 st2 H2 t2 S2 E2 r2 q2 kx2 => ?_
    obtain ⟨i, j, rfl, rfl, b1, b2, b3, b4, q⟩ := q2
    cases r1.int_inv
    cases r2.int_inv
    exact ⟨i, j, rfl, ⟨b1, b2, b3, b4⟩, k _ _ _ _ _ _ (t1.trans t2) S2 itR_rng (walk_lst q)⟩
  · cases h
/-! values, pairs, numbered things, things side by side -/
theorem i_vls {a : Ex} (ha : SE T n C a) : SI T n C (.vls a) := fun c Wx X tg x g hc _ h => by
  unfold chkI at h
  split at h
  · simp only [Bool.and_eq_true, decide_eq_true_eq] at h
    obtain ⟨⟨⟨h1, h2⟩, h3⟩, h4⟩ := h
    subst h1
    refine pi_imp (pi_values (pe_lk (ha c Wx X _ g h4)) (base_of h3) h2) fun σ H R q => ?_
    obtain ⟨ω, env, st, Ex, Q, E, S, hm, k, kx⟩ := q
    refine TO.step E S hm kx fun ω1 w v st1 H1 t1 S1 E1 r1 q1 kx1 => ?_
    obtain ⟨a, vs, l, st2, rfl, q, hs⟩ := lock_ok S1 r1 q1
    rcases hs with ⟨ω2, o, t2, S2, hd, hD, nd, rl⟩ | ⟨hd, go⟩
    · exact .inl ⟨a, o, vs, rfl, hd, k _ _ _ _ _ _ (t1.trans t2) S2 (itR_vals hD rl) (walk_lst q)⟩
    · refine .inr ⟨a, _, hd, trivial, fun o => ?_⟩
      obtain ⟨ω2, t2, S2, hD, nd, rl⟩ := go o
      exact ⟨a, o, vs, rfl, upd_same, k _ _ _ _ _ _ (t1.trans t2) S2 (itR_vals hD rl) (walk_lst q)⟩
  · cases h
theorem i_its {a : Ex} (ha : SE T n C a) : SI T n C (.its a) := fun c Wx X tg x g hc ht h => by
  unfold chkI at h
  split at h
  · simp only [Bool.and_eq_true, decide_eq_true_eq] at h
    obtain ⟨⟨⟨h1, h2⟩, h3⟩, h4⟩ := h
    subst h1
    cases tg with
    | Tuple es kk tp =>
      refine pi_imp (pi_items (pe_lk (ha c Wx X _ g h4)) (base_of h3) h2) fun σ H R q => ?_
      obtain ⟨ω, env, st, Ex, Q, E, S, hm, k, kx⟩ := q
      refine TO.step E S hm kx fun ω1 w v st1 H1 t1 S1 E1 r1 q1 kx1 => ?_
      obtain ⟨a, vs, l, st2, rfl, q, hs⟩ := lock_ok S1 r1 q1
      rcases hs with ⟨ω2, o, t2, S2, hd, hD, nd, rl⟩ | ⟨hd, go⟩
      · exact .inl ⟨a, o, vs, rfl, hd, k _ _ _ _ _ _ (t1.trans t2) S2 (itR_items hD rl) (walk_lst q)⟩
      · refine .inr ⟨a, _, hd, trivial, fun o => ?_⟩
        obtain ⟨ω2, t2, S2, hD, nd, rl⟩ := go o
        exact ⟨a, o, vs, rfl, upd_same, k _ _ _ _ _ _ (t1.trans t2) S2 (itR_items hD rl) (walk_lst q)⟩
    | _ => simp [tupT] at ht
  · cases h
/-- a list that is still, or is so from now on -/
theorem frzL_ok {K : PySem.W.Frag} {ω : Wd} {st : Sto} {H : Hp} (S : StR K ω st H) {w : W} {v : V} (r : Rel K ω w v) {Q : List W → Sto → Prop} (q : frzL w st Q) :
    ∃ a vs l ω' st', v = .ref a ∧ Stp ω st H ω' st' H ∧ StR K ω' st' H ∧ SqL K ω'.D a vs ∧ RelL K ω' l vs ∧ Q l st' := by
  rcases q with ⟨l, rfl, q⟩ | ⟨ns, rfl, q⟩ | ⟨n, l, b, rfl, e, q⟩
  · cases r with | lst s r => exact ⟨_, _, l, ω, st, rfl, .refl, S, .inl s, r, q⟩
  · cases r with | scr s => exact ⟨_, _, _, ω, st, rfl, .refl, S, s, RelL.ints ns, q⟩
  · cases r with
    | ref e1 =>
      obtain ⟨ω', t, S', vs, hd, rl⟩ := frz_ok S e1 e (.inl ⟨_, rfl⟩)
      exact ⟨_, vs, l, ω', _, rfl, t, S', .inl (.inl hd), rl, q⟩
theorem zipIdx_at {l : List W} {i : Nat} {w : W} (h : l[i]? = some w) : (l.zipIdx.map fun p => W.tup [.int p.2, p.1])[i]? = some (.tup [.int (i : Nat), w]) := by
  rw [List.getElem?_map, List.getElem?_zipIdx, h]
  simp
theorem itR_enum {K : PySem.W.Frag} {ω : Wd} {a : Addr} {vs : List V} {ws : List W} (h : SqL K ω.D a vs) (r : RelL K ω ws vs) {g : Sto → Prop} : ItR K ω (Ite K a) (ws.zipIdx.map fun p => .tup [.int p.2, p.1]) g := fun ω' st' H' l S _ i => by
  have h' := S.lst (SqL.up l.2 h)
  have r' := r.up l
  rw [List.length_map, List.length_zipIdx]
  refine ⟨fun hi => ?_, fun hi => ⟨vs, h', by rw [← r.length]; exact hi⟩⟩
  obtain ⟨v, hv, rv⟩ := r'.get (i := i) (List.getElem?_eq_getElem hi)
  refine ⟨⟨vs, v, h', hv⟩, fun x H'' y => ?_⟩
  obtain ⟨p, x', rfl, hp, rfl, hx⟩ := y
  have := hx vs h'
  rw [hv] at this; cases this
  obtain ⟨S', t⟩ := S.laid hp (.tup [.int (i : Nat), v])
  exact ⟨_, t, S', _, zipIdx_at (List.getElem?_eq_getElem hi), .tup (.inl (.inl upd_same)) (.cons (.int _) (.cons (rv.up t.le) .nil))⟩
theorem itR_zip {K : PySem.W.Frag} {ω : Wd} {a b : Addr} {vs us : List V} {ws zs : List W} (h : SqL K ω.D a vs) (r : RelL K ω ws vs) (h2 : SqL K ω.D b us) (r2 : RelL K ω zs us) {g : Sto → Prop} : ItR K ω (Itz K a b) ((ws.zip zs).map fun p => .tup [p.1, p.2]) g := fun ω' st' H' l S _ i => by
  have h' := S.lst (SqL.up l.2 h)
  have r' := r.up l
  have h2' := S.lst (SqL.up l.2 h2)
  have r2' := r2.up l
  rw [List.length_map, List.length_zip]
  refine ⟨fun hi => ?_, fun hi => ⟨vs, us, h', h2', by rw [← r.length, ← r2.length]; omega⟩⟩
  obtain ⟨v, hv, rv⟩ := r'.get (i := i) (List.getElem?_eq_getElem (by omega))
  obtain ⟨u, hu, ru⟩ := r2'.get (i := i) (List.getElem?_eq_getElem (by omega))
  refine ⟨⟨vs, us, v, u, h', h2', hv, hu⟩, fun x H'' y => ?_⟩
  obtain ⟨p, x1, x2, rfl, hp, rfl, hx, hy⟩ := y
  have e1 := hx vs h'
  rw [hv] at e1; cases e1
  have e2 := hy us h2'
  rw [hu] at e2; cases e2
  obtain ⟨S', t⟩ := S.laid hp (.tup [v, u])
  refine ⟨_, t, S', .tup [ws[i]'(by omega), zs[i]'(by omega)], ?_, .tup (.inl (.inl upd_same)) (.cons (rv.up t.le) (.cons (ru.up t.le) .nil))⟩
  rw [List.getElem?_map, List.getElem?_eq_getElem (by rw [List.length_zip]; omega), List.getElem_zip]
  rfl
theorem i_enm {a : Ex} (ha : SE T n C a) : SI T n C (.enm a) := fun c Wx X tg x g hc ht h => by
  unfold chkI at h
  split at h
  · simp only [Bool.and_eq_true, decide_eq_true_eq] at h
    obtain ⟨⟨⟨h1, h2⟩, h3⟩, h4⟩ := h
    subst h1
    cases tg with
    | Tuple es kk tp =>
      refine pi_imp (pi_enum (g.gl h2) (g.tb.bl _ (by decide +kernel)) (pa_cons (ha c Wx X _ g h4) pa_nil (starEach_of h3)) (starEach_of h3)) fun σ H R q => ?_
      obtain ⟨ω, env, st, Ex, Q, E, S, hm, k, kx⟩ := q
      refine TO.step E S hm kx fun ω1 w v st1 H1 t1 S1 E1 r1 q1 kx1 => ?_
      obtain ⟨a, vs, l, ω2, st2, rfl, t2, S2, hd, rl, q⟩ := frzL_ok S1 r1 q1
      exact ⟨a, vs, rfl, S2.lst hd, k _ _ _ _ _ _ (t1.trans t2) S2 (itR_enum hd rl) (walk_lst q)⟩
    | _ => simp [tupT] at ht
  · cases h
theorem i_zp {a b : Ex} (ha : SE T n C a) (hb : SE T n C b) : SI T n C (.zp a b) := fun c Wx X tg x g hc ht h => by
  unfold chkI at h
  split at h
  · simp only [Bool.and_eq_true, decide_eq_true_eq] at h
    obtain ⟨⟨⟨⟨⟨h1, h2⟩, h3⟩, h4⟩, h5⟩, h6⟩ := h
    subst h1
    cases tg with
    | Tuple es kk tp =>
      refine pi_imp (pi_zip (g.gl h2) (g.tb.bl _ (by decide +kernel)) (pa_cons (ha c Wx X _ g h5) (pa_cons (hb c Wx X _ g h6) pa_nil (starEach_of h4)) (starEach_of h3)) (by rw [starEach_of h3]) (by rw [starEach_of h4]; rfl)) fun σ H R q => ?_
      obtain ⟨ω, env, st, Ex, Q, E, S, hm, k, kx⟩ := q
      refine TO.step E S hm kx fun ω1 w v st1 H1 t1 S1 E1 r1 q1 kx1 => ?_
      refine TO.step E1 S1 q1 kx1 fun ω2 w2 v2 st2 H2 t2 S2 E2 r2 q2 kx2 => ?_
      obtain ⟨a, vs, l, ω3, st3, rfl, t3, S3, hd, rl, q3⟩ := frzL_ok S2 (r1.up t2.le) q2
      obtain ⟨b, us, m, ω4, st4, rfl, t4, S4, hd2, rl2, q4⟩ := frzL_ok S3 (r2.up t3.le) q3
      have hd' : SqL X.K ω4.D a vs := SqL.up t4.le.2 hd
      exact ⟨a, b, vs, us, rfl, S4.lst hd', S4.lst hd2, k _ _ _ _ _ _ ((t1.trans t2).trans (t3.trans t4)) S4 (itR_zip hd' (rl.up t4.le) hd2 rl2) (walk_lst q4)⟩
    | _ => simp [tupT] at ht
  · cases h
theorem s_lc {m : Bool} {own : List (Str × Nat)} {t : Tg} {it cs e : Ex} (hi : SI T n C it) (hcs : SC T n C cs) (he : SE T n C e) : SE T n C (.lc m own t it cs e) := fun c Wx X x g h => by
  unfold chkE at h
  split at h
  · rename_i elt tg ix ifs scope pos
    simp only [Bool.and_eq_true] at h
    obtain ⟨⟨⟨⟨⟨⟨⟨h1, h2⟩, h3⟩, h4, h4t⟩, h5⟩, h6⟩, h7⟩, h8⟩ := h
    obtain ⟨R, hR, hQ⟩ := pe_lcG g h1 (m := m) (own := own) (scope := scope) (elt := elt) (pos := pos) h2 h3 h4 (hi c Wx X tg ix g h1 h4t h5)
      (fun s H D cl fp => hcs _ WF _ _ (g.blk scope s H D cl fp) h7 h6) (fun s H D cl fp => he _ WF _ _ (g.blk scope s H D cl fp) h8)
    have P : PE X (.ListComp elt [⟨tg, ix, ifs, 0⟩] scope pos) R := hR (fun R => PE X (.ListComp elt [⟨tg, ix, ifs, 0⟩] scope pos) R) (by
      simp only [blkB, Bool.and_eq_true] at h3
      refine pe_lc (g.calm h1) (by rw [g.N]; exact g.nd) (hi c Wx X tg ix g h1 h4t h5) (blkOk_by (by rw [g.N, g.sc]; exact h3.1)) (fun s H D cl fp => pg_of (g.blk scope s H D cl fp) (g.calm h1) h4)
        (fun s H D cl fp => hcs _ WF _ _ (g.blk scope s H D cl fp) h7 h6) (fun s H D cl fp => he _ WF _ _ (g.blk scope s H D cl fp) h8) (fun y => fold_of h2 y))
    exact pe_imp P fun σ H Q' q => hQ σ H Q' q
  · cases h
end
end Zk

namespace Zk
open PySem PySem.Spec PyProof.Rows L2

/-! ### objects -/
section
variable {T : Tb} {n : Nat} {C : Calls} {c : Cz} {Wx : WX} {X : Cx}
theorem Cz.has_ok (g : Good T n C c Wx X) {j : Nat} {p : Ci → Bool} (h : c.has j p = true) : ∃ q, T.cls[j]? = some q ∧ p q.ci = true ∧ T.A j = q.at_ := by
  unfold Cz.has at h
  rw [g.cls, List.getElem?_map] at h
  cases e : T.cls[j]? with
  | none => rw [e] at h; cases h
  | some q => rw [e] at h; exact ⟨q, rfl, h, by unfold Tb.A; rw [e]; rfl⟩
theorem Good.fnArity (g : Good T n C c Wx X) {i : Nat} {ws : List W} {st : Sto} {Ex : XPo} {Q : Po} (h : C i ws st Ex Q) (hi : ∃ f, T.fns[i]? = some f) : ∃ f, T.fns[i]? = some f ∧ ws.length = f.ps.length := by
  obtain ⟨f, hf⟩ := hi
  exact ⟨f, hf, g.tb.ar i f ws st Ex Q hf h⟩
/-- the object of a still thing -/
theorem objS {K : PySem.W.Frag} {ω : Wd} {st : Sto} {H : Hp} (S : StR K ω st H) {C : Addr} {fs : List (Str × W)} {v : V} (r : Rel K ω (.obj C fs) v) : ∃ a dx vs, v = .ref a ∧ H a = some (.ins C dx vs) ∧ RelF K ω fs vs := by
  cases r with
  | obj e r => exact ⟨_, _, _, rfl, S.ob _ _ _ _ e, r⟩
theorem objAt_ok {K : PySem.W.Frag} {ω : Wd} {st : Sto} {H : Hp} (S : StR K ω st H) {C : Addr} {x : W} {v : V} {fs : List (Str × W)} (r : Rel K ω x v) (h : objAt C x st fs) : ∃ a dx vs, v = .ref a ∧ H a = some (.ins C dx vs) ∧ RelF K ω fs vs := by
  rcases h with rfl | ⟨m, b, rfl, e⟩
  · exact objS S r
  · cases r with
    | ref e1 =>
      cases b with
      | true => obtain ⟨dx, vs, e2, rf⟩ := S.cel _ _ _ e1 e; exact ⟨_, dx, vs, rfl, e2, rf⟩
      | false => obtain ⟨dx, vs, e2, rf⟩ := S.stl _ _ _ e1 e; exact ⟨_, dx, vs, rfl, S.ob _ _ _ _ e2, rf⟩
theorem relV_ref {a : Addr} {v : Value} (r : RelV (.ref a) v) : v = .ref a := r
theorem s_fld {j : Nat} {a : Ex} {f : Str} (ha : SE T n C a) : SE T n C (.fld j a f) := fun c Wx X x g h => by
  unfold chkE at h
  split at h
  · simp only [Bool.and_eq_true, decide_eq_true_eq] at h
    obtain ⟨⟨⟨h1, h2⟩, h3⟩, h4⟩ := h
    subst h1
    obtain ⟨q, hq, hf, hA⟩ := Cz.has_ok g h2
    have k := g.tb.cl j q hq
    refine pe_imp (pe_fld (ha c Wx X _ g h4) (base_of h3)) fun σ H Q' z => ?_
    obtain ⟨ω, env, st, Q, Ex, E, S, hm, kq, kx⟩ := z
    refine TO.step E S hm kx fun ω1 x v st1 H1 t1 S1 E1 r1 q1 kx1 => ?_
    obtain ⟨fs, w, ho, hl, q1⟩ := q1
    obtain ⟨a, dx, vs, rfl, e, rf⟩ := objAt_ok S1 r1 ho
    obtain ⟨v, hv, rv⟩ := rf.look f hl
    have hA' : T.G.A j = q.at_ := hA
    rw [hA'] at e
    exact ⟨a, q.at_, dx, vs, v, rfl, e, k.cl, k.fl f (by simpa using hf), hv, (kq.on t1).at S1 rv q1⟩
  · cases h
/-! a method called by the machine -/
theorem Room.in1G {k : Nat} {A : Around} (r : RoomG (k + 1) A) : RoomG k A.in1 := ⟨r.1.in1, r.2⟩
theorem makeG {A : Around} {C : Addr} {us : List Value} {kw : List (Str × Value)} : (A.under (.builtin "type.__call__" ⟨.ref C :: us, kw⟩)).guards = A.guards := by
  first | rfl | simp [Around.under, Code.guards, Code.isGuard, guardIds, pushGuards]
theorem Room.makeG {k : Nat} {A : Around} (r : RoomG (k + 1) A) (C : Addr) (us : List Value) (kw : List (Str × Value)) : RoomG k (A.under (.builtin "type.__call__" ⟨.ref C :: us, kw⟩)) := ⟨r.1.make C us kw, by rw [Zk.makeG]; exact r.2⟩
def run0 (T : Tb) (K : PySem.W.Frag) (C : Calls) (i : Nat) (ω : Wd) (st : Sto) (ws : List W) (Q : Po) : Prop := C i ws st noX Q
/-- a call of a def below, by positional values, nothing raised -/
theorem run_in (g : Good T n C c Wx X) {i : Nat} {f : Fd} (hf : T.fns[i]? = some f) {A : Around} (hr : RoomG (2 * n) A) {s : Shared} {H : Hp} (e0 : Env0 X.prog X.w X.K X.mg X.base A X.stack s H) (hin : X.K.In s.heap) {ω : Wd} {st : Sto} {ws : List W} {vs : List V} {us : List Value} {Q : Po} {Q2 : VK}
    (S : StR X.K ω st H) (r : RelL X.K ω ws vs) (rv : Vals vs us) (h : C i ws st noX Q) (kq : ∀ ω' w v st' H', Stp ω st H ω' st' H' → StR X.K ω' st' H' → Rel X.K ω' w v → Q w st' → Q2 v H') :
    codeAny (model X.prog X.w) A (.call (.ref f.at_) ⟨us, []⟩) (fun rr s' => ∃ u, rr = .ok (.ret u) ∧ CE X.stack X.prog X.w H s Q2 u s') s := by
  obtain ⟨F, _, _, hb⟩ := g.tb.fn i f hf
  have hl : ws.length = f.ps.length := g.tb.ar i f ws st noX Q hf h
  have hu : us.length = f.ps.length := by rw [← rv.length, ← r.length, hl]
  refine codeAny_mono (F.run A X.stack s H ⟨us, []⟩ us vs Q2 (fun _ _ _ => False) hr e0 ?_ rv ⟨by rw [← r.length, hl], ω, ws, st, Q, noX, S, r, h, kq, fun _ _ _ _ _ _ _ z => z.elim⟩) fun rr s' hq => ?_
  · have := hb s us hin (by rw [List.append_nil]; exact hu)
    rwa [List.append_nil] at this
  · match rr, hq with
    | .error e, ⟨_, _, _, _, _, _, _, _, _, _, _, _, z⟩ => exact z.elim
    | .ok (.ret u), hq => exact ⟨u, rfl, hq⟩
    | .ok .next, hq => exact False.elim hq
    | .ok .brk, hq => exact False.elim hq
    | .ok .cont, hq => exact False.elim hq
theorem s_prp {j i : Nat} {a : Ex} {f : Str} (ha : SE T n C a) : SE T n C (.prp j i a f) := fun c Wx X x g h => by
  unfold chkE at h
  split at h
  · simp only [Bool.and_eq_true, decide_eq_true_eq] at h
    obtain ⟨⟨⟨⟨h0, h1⟩, h2⟩, h3⟩, h4⟩ := h
    subst h1
    obtain ⟨q, hq, hf, hA⟩ := Cz.has_ok g h2
    have k := g.tb.cl j q hq
    refine ⟨fun pins s σ H Q' I z => ?_⟩
    refine attr_of (base_of h3) (thn ((ha c Wx X _ g h4).run pins s σ H (fun v H1 => ∃ ω1 x st1 Q, Rel X.K ω1 x v ∧ StR X.K ω1 st1 H1 ∧ (∃ fs, x = .obj (T.G.A j) fs) ∧ C i [x] st1 noX Q ∧ KQ X.K ω1 st1 H1 Q Q') I ?_) fun u s1 ⟨v, H1, I1, rx, ω1, x, st1, Q, r1, S1, ⟨fs, ex⟩, hC, kq⟩ => ?_)
    · obtain ⟨ω, env, st, Q, Ex, E, S, hm, kq, kx⟩ := z
      refine TO.step E S hm kx fun ω1 x v st1 H1 t1 S1 E1 r1 q1 kx1 => ⟨ω1, x, st1, Q, r1, S1, q1.1, q1.2, kq.on t1⟩
    · subst ex
      obtain ⟨a, dx, vs, rfl, e, rf⟩ := objS S1 r1
      have hA' : T.G.A j = q.at_ := hA
      rw [hA'] at e
      cases rx
      have hw : (f, i) ∈ q.ci.prps := by simpa using hf
      cases hfn : T.fns[i]? with
      | none => exact absurd hC (g.tb.no i _ _ _ _ hfn)
      | some fd =>
        obtain ⟨p, hp⟩ := k.pr _ hw fd hfn
        obtain ⟨mA, O, _, _, _, _⟩ := ins_get I1.hok e
        obtain ⟨od, J, _⟩ := O.look
        obtain ⟨rest, hrec⟩ := hp.rec_
        have I2 := I1.tok (s1.toks + 1)
        have hc : (PySem.W.clsIn X.K q.at_).isSome = true := by
          obtain ⟨cd, hc, _⟩ := PySem.W.any_some k.cl.hd
          rw [hc]; rfl
        refine PySem.W.get_bind I1.kIn J (PySem.W.plainGet_of (k.cl.get f)).1 (PySem.W.findObj_data hc hp.at_ hp.get hp.tak) (PySem.W.plainGet_of (k.cl.get f)).2 (wpAny_call (PySem.W.prop_get (s := { s1 with toks := s1.toks + 1 }) I1.kIn hrec ?_))
        refine codeAny_mono (run_in g hfn (A := X.A.in1) (Room.in1G (g.room h0)) I2.env0.in1 I2.kIn S1 (.cons r1 .nil) (.cons rfl .nil) hC kq) fun rr s' ⟨u, e, hq⟩ => ?_
        subst e
        obtain ⟨v, H', I3, rv, q3⟩ := I2.after hq
        show wpAny _ _ (handedOut u) _ _ _
        rw [PySem.W.handedOut_of (handed_of rv)]
        exact wpAny_pure ⟨v, H', I3, rv, q3⟩
  · cases h
/-! ### making -/
theorem run_mk (g : Good T n C c Wx X) (hc : c.calm = true) {j i : Nat} {q : Cl} {f : Fd} (hq : T.cls[j]? = some q) (hm : (("__init__" : Str), i) ∈ q.ci.mets) (hf : T.fns[i]? = some f)
    {pins : List (Addr × Obj)} {σ : L2.St} {H : Hp} {s : Shared} {Q' : VK} {us : List Value} {kw : List (Str × Value)} {ω : Wd} {st : Sto} {Q : Po} {Ex : XPo} {fws : List W} (I : Inv X pins σ H s) (S : StR X.K ω st H)
    (hb : ∀ (x : Addr) (s' : Shared), X.K.In s'.heap → ∃ bs vs', BindsTo s' f.fd ⟨.ref x :: us, kw⟩ (f.ps.zip bs) ∧ Vals vs' bs ∧ ∀ ω' : Wd, ω.le ω' → ω'.ρ[st.length]? = some x → RelL X.K ω' fws vs')
    (hC : C i fws (st ++ [(true, .ins q.at_ [])]) Ex fun v s => v = .non ∧ ∃ fs b, s[st.length]? = some (b, .ins q.at_ fs) ∧ Q (.obj q.at_ fs) (s.set st.length (false, .ins q.at_ fs)))
    (kq : KQ X.K ω st H Q Q') (kx : KX T X.K ω st H Ex fun cls d H' => Wx cls d σ H') : wpAny (model X.prog X.w) X.A (call (.ref q.at_) us kw) (EP X pins σ Q') X.xe s := by
  have k := g.tb.cl j q hq
  obtain ⟨F, _, _, _⟩ := g.tb.fn i f hf
  obtain ⟨m1, m2⟩ := k.me _ hm f hf
  have I2 := Inv.made (C := q.at_) I
  have hx : H (s.heap.objs.size + 1) = none := I.hok.fresh (Nat.le_succ _)
  have hdx : H s.heap.objs.size = none := I.hok.fresh (Nat.le_refl _)
  have hne : s.heap.objs.size ≠ s.heap.objs.size + 1 := Nat.ne_of_lt (Nat.lt_succ_self _)
  have S1 := S.outside (o := .own (s.heap.objs.size + 1)) (S.dfree hdx) (fun z => by obtain ⟨o, e⟩ := S.alive_some z; rw [hdx] at e; cases e)
  have t1 : Stp ω st H ω st (upd H s.heap.objs.size (.own (s.heap.objs.size + 1))) := Stp.refl.outside hdx
  obtain ⟨S2, t2⟩ := S1.made (p := s.heap.objs.size + 1) (by rw [upd_ne (Ne.symm hne)]; exact hx) (o := .ins q.at_ s.heap.objs.size []) (c := .ins q.at_ []) ⟨_, _, upd_same, .nil⟩
  have t := t1.trans t2
  have hρ : (ω.more (s.heap.objs.size + 1)).ρ[st.length]? = some (s.heap.objs.size + 1) := by
    show (ω.ρ ++ [s.heap.objs.size + 1])[st.length]? = _
    rw [← S.len]; simp
  obtain ⟨bs, vs', hbi, rv, hrel⟩ := hb (s.heap.objs.size + 1) _ I2.kIn
  have rl := hrel _ t.le hρ
  have room := Room.makeG (g.room hc) q.at_ us kw
  refine wpAny_call (make_map (f := f.at_) I.kIn k.mks m1 (beq_iff_eq.mp m2) (codeAny_mono (F.run _ X.stack _ _ ⟨.ref (s.heap.objs.size + 1) :: us, kw⟩ bs vs' (fun v H2 => v = .non ∧ Q' (.ref (s.heap.objs.size + 1)) H2) (fun cls d H' => Wx cls d σ H') room
    (I2.env0.make q.at_ us kw) hbi rv ⟨by rw [← rl.length]; exact g.tb.ar i f _ _ _ _ hf hC, _, fws, _, _, Ex, S2, rl, hC, fun ω' w v st' H' t' S' r' ⟨e, fs, b, e2, q'⟩ => ?_, kx.on t⟩) fun r s' hq' => ?_))
  · subst e
    refine ⟨r'.non_inv, ?_⟩
    obtain ⟨ω2, t3, S3, dx, vs, hd, rf⟩ := frz_ok S' (t'.le.at hρ) e2 (.inr ⟨_, _, rfl⟩)
    exact kq _ _ _ _ _ ((t.trans t').trans t3) S3 (.obj hd rf) q'
  · cases r with
    | error e => exact passAt g.tk σ pins _ _ e s' I2 hq'
    | ok fl =>
      cases fl with
      | ret u =>
        obtain ⟨v, H', I3, rv, ev, q3⟩ := I2.after hq'
        subst ev
        exact ⟨rv, ⟨V.ref (s.heap.objs.size + 1), H', I3, rfl, q3⟩⟩
      | next => exact False.elim hq'
      | brk => exact False.elim hq'
      | cont => exact False.elim hq'
theorem init_of {q : Ci} {x : Str} {i : Nat} (h : (decide (q.nm = x) && q.mets.contains (("__init__" : Str), i)) = true) : q.nm = x ∧ (("__init__" : Str), i) ∈ q.mets := by
  simp only [Bool.and_eq_true, decide_eq_true_eq] at h
  exact ⟨h.1, by simpa using h.2⟩
theorem s_mk {j i : Nat} {es : Ex} (hl : SL T n C es) : SE T n C (.mk j i es) := fun c Wx X x g h => by
  unfold chkE at h
  split at h
  · rename_i nm p y ys pos
    simp only [Bool.and_eq_true] at h
    obtain ⟨⟨⟨⟨⟨h0, h1⟩, h2⟩, h3⟩, h4⟩, h5⟩ := h
    obtain ⟨q, hq, hi, hA⟩ := Cz.has_ok g h1
    obtain ⟨hn, hm⟩ := init_of hi
    subst hn
    have k := g.tb.cl j q hq
    have ha := hl c Wx X _ g h4 h5
    simp only [argB, List.all_cons, Bool.and_eq_true] at h4
    refine ⟨fun pins s σ H Q' I z => wpAny_Call_Name_kw (ld_glob I (g.gl h2) k.gm ?_ (plB_1 h3))⟩
    refine PySem.W.callWith_K (h₀ := X.base) I.ok.mod.kin k.kp (thn (ha.run pos pins s σ H (fun vs H1 => ∃ ω1 st1 ws Q Ex, StR X.K ω1 st1 H1 ∧ RelL X.K ω1 ws vs ∧ KQ X.K ω1 st1 H1 Q Q' ∧ KX T X.K ω1 st1 H1 Ex (fun cls d H' => Wx cls d σ H') ∧
      C i (.ref st1.length :: ws) (st1 ++ [(true, .ins (T.G.A j) [])]) Ex fun v s => v = .non ∧ ∃ fs b, s[st1.length]? = some (b, .ins (T.G.A j) fs) ∧ Q (.obj (T.G.A j) fs) (s.set st1.length (false, .ins (T.G.A j) fs))) I ?_) fun us s1 ⟨vs, H1, I1, r, ω1, st1, ws, Q, Ex, S1, rl, kq, kx, hC⟩ => ⟨I1.kIn, ?_⟩) (starEach_of h4.1) (star_any h4.2)
    · obtain ⟨ω, env, st, Q, Ex, E, S, hm, kq, kx⟩ := z
      exact TL.out E S hm kx fun ω1 ws vs st1 H1 t1 S1 E1 rl hC kx1 => ⟨ω1, st1, ws, Q, Ex, S1, rl, kq.on t1, kx1, hC⟩
    · have hA' : T.G.A j = q.at_ := hA
      rw [hA'] at hC
      cases hf : T.fns[i]? with
      | none => exact absurd hC (g.tb.no i _ _ _ _ hf)
      | some f =>
        obtain ⟨_, _, _, hb⟩ := g.tb.fn i f hf
        have hlen : (W.ref st1.length :: ws).length = f.ps.length := g.tb.ar i f _ _ _ _ hf hC
        refine run_mk g h0 hq hm hf I1 S1 (fun x s' hin => ⟨.ref x :: us, .ref x :: vs, ?_, .cons rfl r, fun ω' le e => .cons (.ref e) (rl.up le)⟩) hC kq kx
        have := hb s' (.ref x :: us) hin (by rw [List.append_nil, ← hlen, List.length_cons, List.length_cons, ← r.length, rl.length])
        rwa [List.append_nil] at this
  · cases h
theorem s_mkK {j i m nn nk : Nat} {perm : List Nat} {es ks : Ex} (hl : SL T n C es) (hk : SK T n C ks) : SE T n C (.mkK j i m nn nk perm es ks) := fun c Wx X x g h => by
  unfold chkE at h
  split at h
  · rename_i nm p args kws pos
    simp only [Bool.and_eq_true] at h
    obtain ⟨⟨⟨⟨⟨⟨⟨h0, hw⟩, h1⟩, h2⟩, h3⟩, h4⟩, h5⟩, h6⟩ := h
    obtain ⟨q, hq, hi, hA⟩ := Cz.has_ok g h1
    obtain ⟨hn, hm⟩ := init_of hi
    subst hn
    have k := g.tb.cl j q hq
    cases hwk : c.kws[m]? with
    | none => rw [hwk] at hw; cases hw
    | some kw =>
      rw [hwk] at hw
      simp only [Bool.and_eq_true, decide_eq_true_eq] at hw
      obtain ⟨⟨⟨⟨⟨w1, w2⟩, w3⟩, w4⟩, w5⟩, w6⟩ := hw
      obtain ⟨a1, a2, a3⟩ := kw_all (pos := pos) (env := X.env) w6
      have hkl : kws.length = kw.ks.length := by have := congrArg List.length w6; simpa using this
      have ha := hl c Wx X _ g h4 h5
      have hkk := hk c Wx X _ g h6
      have hA' : T.G.A j = q.at_ := hA
      -- the keywords' values and the making
      have tail : ∀ (pins : List (Addr × Obj)) (σ : L2.St) (Q' : VK) (ω1 : Wd) (env : Env') (st1 : Sto) (H1 : Hp) (s1 : Shared) (us : List Value) (vs : List V) (ws : List W) (Q : Po) (Ex : XPo), Inv X pins σ H1 s1 → Vals vs us → RelL X.K ω1 ws vs → ws.length = nn → EnvR X.K ω1 env σ → StR X.K ω1 st1 H1 → KQ X.K ω1 st1 H1 Q Q' →
          KX T X.K ω1 st1 H1 Ex (fun cls d H' => Wx cls d σ H') → wpE T.G C ks env st1 Ex (fun w' st2 => ∃ ws', w' = .tup ws' ∧ ws'.length = nk ∧ C i ((.ref st2.length :: ws) ++ perm.filterMap fun i => ws'[i]?) (st2 ++ [(true, .ins (T.G.A j) [])]) noX fun v s => v = .non ∧ ∃ fs b, s[st2.length]? = some (b, .ins (T.G.A j) fs) ∧ Q (.obj (T.G.A j) fs) (s.set st2.length (false, .ins (T.G.A j) fs))) →
          wpAny (model X.prog X.w) X.A (evalAll ((backToKw pos (keywordEach kws X.env)).map (·.2))) (fun ks s₂ => X.K.In s₂.heap ∧ wpAny (model X.prog X.w) X.A (call (.ref q.at_) us (kw.ks.zip ks)) (EP X pins σ Q') X.xe s₂) X.xe s1 :=
        fun pins σ Q' ω1 env st1 H1 s1 us vs ws Q Ex I1 r rl hwl E S kq kx h => by
          refine thn (hkk.run pos pins s1 σ H1 (fun zs H2 => ∃ ω2 st2 ws', ω1.le ω2 ∧ StR X.K ω2 st2 H2 ∧ KQ X.K ω2 st2 H2 Q Q' ∧ RelL X.K ω2 ws' zs ∧ ws'.length = nk ∧
            C i ((.ref st2.length :: ws) ++ perm.filterMap fun i => ws'[i]?) (st2 ++ [(true, .ins (T.G.A j) [])]) noX fun v s => v = .non ∧ ∃ fs b, s[st2.length]? = some (b, .ins (T.G.A j) fs) ∧ Q (.obj (T.G.A j) fs) (s.set st2.length (false, .ins (T.G.A j) fs))) I1 ?_) fun bs s2 ⟨zs, H2, I2, rz, ω2, st2, ws', le2, S2, kq2, rz2, hl2, hC⟩ => ⟨I2.kIn, ?_⟩
          · refine ⟨ω1, env, st1, _, Ex, E, S, h, fun ω2 w st2 H2 t2 S2 ⟨ws', e1, l1, hC⟩ ws2 zs ew rz => ?_, kx⟩
            subst e1
            cases ew
            exact ⟨ω2, st2, _, t2.le, S2, kq.on t2, rz, l1, hC⟩
          · rw [hA'] at hC
            cases hf : T.fns[i]? with
            | none => exact absurd hC (g.tb.no i _ _ _ _ hf)
            | some f =>
              have hB := g.tb.kw m kw f (by rw [← g.kws]; exact hwk) (by rw [w1]; exact hf)
              refine run_mk g h0 hq hm hf I2 S2 (fun x s' hin => ⟨picked kw.perm (.ref x :: us) bs, picked kw.perm (.ref x :: vs) zs, ?_, ?_, fun ω' le e => ?_⟩) hC kq2 (fun _ _ _ _ _ _ _ z => False.elim z)
              · exact hB.to s' (.ref x :: us) bs hin (by rw [List.length_cons, ← r.length, ← rl.length, hwl, w3]) (by rw [← rz.length, ← rz2.length, hl2, ← hkl, w5])
              · exact hB.rel (.cons rfl r) rz
              · rw [w2]
                exact RelL.picked perm (.cons (.ref e) (rl.up (le2.trans le))) (rz2.up le)
      cases args with
      | nil =>
        refine ⟨fun pins s σ H Q' I z => wpAny_Call_Name_kw (ld_glob I (g.gl h2) k.gm ?_ (plB_1 h3))⟩
        refine PySem.W.callWith_KW0 (h₀ := X.base) I.ok.mod.kin k.kp a1 ?_ (by show (false || _) = false; rw [Bool.false_or]; exact a3)
        rw [a2]
        obtain ⟨ω, env, st, Q, Ex, E, S, h, kq, kx⟩ := z
        have h' : ∃ ws, (W.tup [] : W) = .tup ws ∧ ws.length = nn ∧ wpE T.G C ks env st Ex fun w' st2 => ∃ ws', w' = .tup ws' ∧ ws'.length = nk ∧ C i ((.ref st2.length :: ws) ++ perm.filterMap fun i => ws'[i]?) (st2 ++ [(true, .ins (T.G.A j) [])]) noX fun v s => v = .non ∧ ∃ fs b, s[st2.length]? = some (b, .ins (T.G.A j) fs) ∧ Q (.obj (T.G.A j) fs) (s.set st2.length (false, .ins (T.G.A j) fs)) := by
          have e : es = .nil := by
            cases es <;> first | rfl | (simp [chkL] at h5)
          subst e
          exact h
        obtain ⟨ws, ew, hwl, h'⟩ := h'
        cases ew
        exact tail pins σ Q' ω env st H s [] [] [] Q Ex I .nil .nil hwl E S kq kx h'
      | cons e es' =>
        simp only [argB, List.all_cons, Bool.and_eq_true] at h4
        refine ⟨fun pins s σ H Q' I z => wpAny_Call_Name_kw (ld_glob I (g.gl h2) k.gm ?_ (plB_1 h3))⟩
        obtain ⟨ω, env, st, Q, Ex, E, S, h, kq, kx⟩ := z
        refine PySem.W.callWith_KW (h₀ := X.base) I.ok.mod.kin k.kp a1 (thn (ha.run pos pins s σ H (fun vs H1 => ∃ ω1 st1 ws, ws.length = nn ∧ StR X.K ω1 st1 H1 ∧ EnvR X.K ω1 env σ ∧ RelL X.K ω1 ws vs ∧ KQ X.K ω1 st1 H1 Q Q' ∧ KX T X.K ω1 st1 H1 Ex (fun cls d H' => Wx cls d σ H') ∧ wpE T.G C ks env st1 Ex (fun w' st2 => ∃ ws', w' = .tup ws' ∧ ws'.length = nk ∧ C i ((.ref st2.length :: ws) ++ perm.filterMap fun i => ws'[i]?) (st2 ++ [(true, .ins (T.G.A j) [])]) noX fun v s => v = .non ∧ ∃ fs b, s[st2.length]? = some (b, .ins (T.G.A j) fs) ∧ Q (.obj (T.G.A j) fs) (s.set st2.length (false, .ins (T.G.A j) fs)))) I ?_) fun us s1 ⟨vs, H1, I1, r, ω1, st1, ws, hwl, S1, E1, rl, kq1, kx1, h⟩ => ?_) ?_ (starEach_of h4.1)
        · refine ⟨ω, env, st, _, Ex, E, S, h, fun ω1 w st1 H1 t1 S1 ⟨ws', e0, l0, h⟩ ws vs ew r => ?_, kx⟩
          subst e0
          cases ew
          exact ⟨ω1, st1, _, l0, S1, E.up t1.le, r, kq.on t1, kx.on t1, h⟩
        · rw [a2]
          exact tail pins σ Q' ω1 env st1 H1 s1 us vs ws Q Ex I1 r rl hwl E1 S1 kq1 kx1 h
        · rw [a3, Bool.or_false]
          exact star_any (by simp only [List.all_cons, Bool.and_eq_true]; exact h4)
  · cases h
theorem tyX_of {K : PySem.W.Frag} {H : Hp} {v : V} {n : String} (h : TyB K H v n) : TyX K H v (.type n) := by
  cases h with
  | non => exact .base .non
  | bl b => exact .base (.bl b)
  | int i => exact .base (.int i)
  | str x => exact .base (.str x)
  | byt b => exact .byt b
  | lst h =>
    rcases h with (e | ⟨o, e⟩) | ⟨o, _, _, e, c, _⟩
    · exact .base (.lst e)
    · exact .base (.frz e)
    · exact .kList e c
  | tup h =>
    rcases h with (e | ⟨o, e⟩) | ⟨o, _, _, e, c, _⟩
    · exact .base (.tup e)
    · exact .fTuple e
    · exact .kTuple e c
  | dK e => exact .base (.dK e)
theorem kit_tt (a b : Ty) : kitB a.name b.name = some (decide (a = b) || (decide (a = .bool) && decide (b = .int))) := by
  cases a <;> cases b <;> decide +kernel
theorem kit_nt (b : Ty) : kitB "NoneType" b.name = some false := by
  cases b <;> decide +kernel

/-! ### what the machine asks of a class: its length, ==, +, isinstance -/
theorem ty_plain (t : Ty) : t.name ∈ plainTys := by cases t <;> decide +kernel
/-- the type of a value that may be asked about -/
theorem tyXW {K : PySem.W.Frag} {ω : Wd} {st : Sto} {H : Hp} (S : StR K ω st H) {x : W} {v : V} (r : Rel K ω x v) (h : plainW st x) : ∃ t ∈ plainTys, TyX K H v (.type t) := by
  rcases h with rfl | h
  · cases r; exact ⟨"NoneType", by decide +kernel, .base .non⟩
  · cases e : tyOf st x with
    | none => exact absurd e h
    | some t => exact ⟨t.name, ty_plain t, tyX_of (tyOf_ok S r e)⟩
theorem tyXO {K : PySem.W.Frag} {ω : Wd} {st : Sto} {H : Hp} {mg : Str → Option Value} (S : StR K ω st H) {j : Nat} {q : Cl} (k : ClOk K mg T j q) {fs : List (Str × W)} {v : V} (r : Rel K ω (.obj q.at_ fs) v) : TyX K H v (.ref q.at_) := by
  obtain ⟨a, dx, vs, rfl, e, _⟩ := objS S r
  exact .base (.ins e k.cl k.ow.1 k.ow.2.1 k.ow.2.2.1 k.ow.2.2.2)
theorem clsAt {i : Nat} (h : i < T.cls.length) : ∃ q, T.cls[i]? = some q ∧ T.A i = q.at_ := ⟨T.cls[i], List.getElem?_eq_getElem h, by unfold Tb.A; rw [List.getElem?_eq_getElem h]; rfl⟩
theorem s_isO {j : Nat} {a : Ex} (ha : SE T n C a) : SE T n C (.isO a j) := fun c Wx X x g h => by
  unfold chkE at h
  split at h
  · simp only [Bool.and_eq_true, decide_eq_true_eq] at h
    obtain ⟨⟨⟨⟨⟨⟨⟨h1, h2⟩, h3⟩, h4⟩, h5⟩, hp⟩, h6⟩, h7⟩ := h
    subst h2
    obtain ⟨q, hq, hn, hA⟩ := Cz.has_ok g h3
    have hn := of_decide_eq_true hn
    subst hn
    have k := g.tb.cl j q hq
    have hN : ∀ p3, PE X (.Name q.ci.nm p3) (tC (.ref q.at_)) := fun p3 => pe_glob (g.gl h5) k.gm rfl (plB_1 hp)
    refine pe_imp (pe_callB call_isi (g.gl h4) (g.tb.bl _ (by decide +kernel)) boot_isinstance (pa_cons (ha c Wx X _ g h7) (pa_cons (hN _) pa_nil (by rfl)) (starEach_of h6)) (by decide) (by decide) (starEach_of h6) (star_any rfl)) fun σ H Q' z => ?_
    obtain ⟨ω, env, st, Q, Ex, E, S, hm, kq, kx⟩ := z
    refine TO.step E S hm kx fun ω1 x v st1 H1 t1 S1 E1 r1 q1 kx1 => ?_
    rcases q1 with ⟨pw, q1⟩ | ⟨i, fs, rfl, hi, q1⟩
    · obtain ⟨t, ht, ty⟩ := tyXW S1 r1 pw
      exact ⟨_, _, _, _, _, rfl, .own q.at_, ty, k.ki t ht, (kq.on t1).at S1 (.bl _) q1⟩
    · obtain ⟨r, hr, hAr⟩ := clsAt (T := T) hi
      have hAr' : T.G.A i = r.at_ := hAr
      rw [hAr'] at r1
      exact ⟨_, _, _, _, _, rfl, .own q.at_, tyXO S1 (g.tb.cl i r hr) r1, k.kc i r hr, (kq.on t1).at S1 (.bl _) q1⟩
  · cases h
theorem s_lenO {j i : Nat} {a : Ex} (ha : SE T n C a) : SE T n C (.lenO j i a) := fun c Wx X x g h => by
  unfold chkE at h
  split at h
  · simp only [Bool.and_eq_true, decide_eq_true_eq] at h
    obtain ⟨⟨⟨⟨⟨h0, h1⟩, h2⟩, h3⟩, h4⟩, h5⟩ := h
    subst h1
    obtain ⟨q, hq, hm', hA⟩ := Cz.has_ok g h2
    have hm : (("__len__" : Str), i) ∈ q.ci.mets := by simpa using hm'
    have k := g.tb.cl j q hq
    have hc : CallR X (.builtin "len") (fun xs H Q' => ∃ v ω1 fs st1 Q, xs = [v] ∧ Rel X.K ω1 (.obj q.at_ fs) v ∧ StR X.K ω1 st1 H ∧ KQ X.K ω1 st1 H Q Q' ∧ C i [.obj q.at_ fs] st1 noX fun w s => ∃ k : Int, w = .int k ∧ 0 ≤ k ∧ k < 2 ^ 63 ∧ Q (.int k) s) := by
      intro pins s σ H xs us Q' I ru ⟨v, ω1, fs, st1, Q, ex, r1, S1, kq, hC⟩
      subst ex
      obtain ⟨u, rfl, rv⟩ := vals1 ru
      obtain ⟨a, dx, vs, rfl, e, rf⟩ := objS S1 r1
      cases rv
      cases hfn : T.fns[i]? with
      | none => exact absurd hC (g.tb.no i _ _ _ _ hfn)
      | some fd =>
        obtain ⟨m1, m2⟩ := k.me _ hm fd hfn
        obtain ⟨mA, O, _, _, _, _⟩ := ins_get I.hok e
        obtain ⟨od, J, _⟩ := O.look
        obtain ⟨m, hF⟩ := I.fr
        refine PySem.W.len_K hF I.ok.mod.kin J m1 m2 (wpAny_call (codeAny_mono (run_in g hfn (A := X.A.in1) (Room.in1G (g.room h0)) I.env0.in1 I.kIn S1 (.cons r1 .nil) (.cons rfl .nil) hC (Q2 := fun v H' => ∃ k : Int, v = .int k ∧ 0 ≤ k ∧ k < 2 ^ 63 ∧ Q' (.int k) H') fun ω' w v st' H' t' S' r' ⟨kk, e, b1, b2, q'⟩ => ?_) fun rr s' ⟨u, e, hq⟩ => ?_))
        · subst e
          exact ⟨kk, r'.int_inv, b1, b2, kq _ _ _ _ _ t' S' (.int _) q'⟩
        · subst e
          obtain ⟨v, H', I3, rv, kk, ev, b1, b2, q3⟩ := I.after hq
          subst ev
          obtain ⟨t, rfl⟩ := (show ∃ t, u = Value.int kk t from rv)
          exact ⟨⟨b1, b2⟩, .int kk, H', I3.tok _, ⟨_, rfl⟩, q3⟩
    refine pe_imp (pe_callB hc (g.gl h3) (g.tb.bl _ (by decide +kernel)) boot_len (pa_cons (ha c Wx X _ g h5) pa_nil (starEach_of h4)) (by decide) (by decide) (starEach_of h4) (star_any rfl)) fun σ H Q' z => ?_
    obtain ⟨ω, env, st, Q, Ex, E, S, hm, kq, kx⟩ := z
    refine TO.step E S hm kx fun ω1 x v st1 H1 t1 S1 E1 r1 q1 kx1 => ?_
    obtain ⟨⟨fs, ex⟩, hC⟩ := q1
    have hA' : T.G.A j = q.at_ := hA
    rw [hA'] at ex
    subst ex
    exact ⟨v, ω1, fs, st1, Q, rfl, r1, S1, kq.on t1, hC⟩
  · cases h
/-- a def of two values, called by an operator -/
theorem run_op (g : Good T n C c Wx X) (hc : c.calm = true) {i : Nat} {fd : Fd} (hfn : T.fns[i]? = some fd) {pins : List (Addr × Obj)} {s : Shared} {σ : L2.St} {H : Hp} {x y : V} {v u : Value} {Q2 : VK} {R : Value → Shared → Prop} {ω : Wd} {st : Sto} {a b : W} {Q : Po} (I : Inv X pins σ H s) (S : StR X.K ω st H)
    (ra : Rel X.K ω a x) (rb : Rel X.K ω b y) (rx : RelV x v) (ry : RelV y u) (hC : C i [a, b] st noX Q) (kq : ∀ ω' w v st' H', Stp ω st H ω' st' H' → StR X.K ω' st' H' → Rel X.K ω' w v → Q w st' → Q2 v H') (hR : ∀ z s' v' H', Inv X pins σ H' s' → RelV v' z → Q2 v' H' → R z s') :
    wpAny (model X.prog X.w) X.A (call (.ref fd.at_) [v, u]) R X.xe s := by
  refine wpAny_call (codeAny_mono (run_in g hfn (A := X.A) ((g.room hc).mono (Nat.le_succ _)) I.env0 I.kIn S (.cons ra (.cons rb .nil)) (.cons rx (.cons ry .nil)) hC kq) fun rr s' ⟨z, e, hq⟩ => ?_)
  subst e
  obtain ⟨v', H', I3, rv, q3⟩ := I.after hq
  exact hR z s' v' H' I3 rv q3
theorem exAt (g : Good T n C c Wx X) {i : Nat} (h : i < T.G.ne) : ∃ x a, T.exs[i]? = some (x, a) ∧ T.G.e i = a ∧ ExOk X.K T i a := by
  have h : i < if T.kit then T.exs.length else 0 := h
  have hk : T.kit = true := by
    cases e : T.kit with
    | true => rfl
    | false => rw [e] at h; simp at h
  rw [hk, if_pos rfl] at h
  refine ⟨_, _, List.getElem?_eq_getElem h, ?_, g.tb.xo i _ _ hk (List.getElem?_eq_getElem h)⟩
  show T.exA i = _
  unfold Tb.exA
  rw [List.getElem?_eq_getElem h]; rfl
theorem excS {K : PySem.W.Frag} {ω : Wd} {st : Sto} {H : Hp} (S : StR K ω st H) {D : Addr} {v : V} (r : Rel K ω (.exc D) v) : ∃ a φ, v = .ref a ∧ Rd H a (.ext φ) ∧ ∀ h, φ h → ExH D a h := by
  cases r with
  | exc e hx => exact ⟨_, _, rfl, S.sub _ _ e, hx⟩
/-- the type of the right operand -/
theorem rightTy (g : Good T n C c Wx X) {j : Nat} {q : Cl} (hq : T.cls[j]? = some q) (k : ClOk X.K X.mg T j q) {pins : List (Addr × Obj)} {s : Shared} {σ : L2.St} {H : Hp} {y : V} {u : Value} {ω : Wd} {st : Sto} {b : W} (I : Inv X pins σ H s) (S : StR X.K ω st H) (rb : Rel X.K ω b y) (ry : RelV y u) (h : rightW T.G st b) :
    ∃ t, PySem.W.Looks (model X.prog X.w) s.heap (typeOf u) t ∧ PySem.W.notFirst X.K q.at_ t = true := by
  rcases h with pw | ⟨i', fs', hi, rfl⟩ | ⟨i', hi, rfl⟩
  · obtain ⟨t, ht, ty⟩ := tyXW S rb pw
    obtain ⟨P, Z, pz, _⟩ := kit_of I ry ty
    exact ⟨_, Z.ty _ _ I.kIn pz, k.nf t ht⟩
  · obtain ⟨r, hr, hAr⟩ := clsAt (T := T) hi
    have hAr' : T.G.A i' = r.at_ := hAr
    rw [hAr'] at rb
    obtain ⟨P, Z, pz, _⟩ := kit_of I ry (tyXO S (g.tb.cl i' r hr) rb)
    exact ⟨_, Z.ty _ _ I.kIn pz, k.nc i' r hr⟩
  · obtain ⟨x, a, hx, hA, xo⟩ := exAt g hi
    rw [hA] at rb
    obtain ⟨p, φ, rfl, hr, hφ⟩ := excS S rb
    cases (show u = Value.ref p from ry)
    obtain ⟨oe, J⟩ := exInst I hr hφ
    exact ⟨_, J.type, (xo.kc j q hq).2.2⟩
def mEqO (T : Tb) (C : Calls) (neg : Bool) (j i : Nat) (ma mb : Env' → Sto → XPo → Po → Prop) : Env' → Sto → XPo → (Bool → Sto → Prop) → Prop := fun env st Ex K => ma env st Ex fun x st1 => mb env st1 Ex fun y st2 =>
  (∃ fs, x = .obj (T.G.A j) fs) ∧ rightW T.G st2 y ∧ C i [x, y] st2 noX fun w s => ∃ k, w = .bl k ∧ K (if neg then !k else k) s
theorem s_eqO {neg : Bool} {j i : Nat} {a b : Ex} (ha : SE T n C a) (hb : SE T n C b) : SE T n C (.eqO neg j i a b) ∧ ST T n C (.eqO neg j i a b) := st_both fun c Wx X x g h => by
  unfold chkE at h
  split at h
  · rename_i xl o y pos
    simp only [Bool.and_eq_true] at h
    obtain ⟨⟨⟨⟨⟨h0, h1⟩, h2⟩, h3⟩, h4⟩, h5⟩ := h
    obtain ⟨q, hq, hm', hA⟩ := Cz.has_ok g h2
    have hm : (("__eq__" : Str), i) ∈ q.ci.mets := by simpa using hm'
    have k := g.tb.cl j q hq
    cases o <;> simp only [Bool.not_eq_true', Bool.false_eq_true] at h1
    · subst h1
      have ho : OpR X (compareOp .Eq) (fun x y H Q' => ∃ ω a b st Q, StR X.K ω st H ∧ Rel X.K ω a x ∧ Rel X.K ω b y ∧ KQ X.K ω st H Q Q' ∧ (∃ fs, a = .obj q.at_ fs) ∧ rightW T.G st b ∧ C i [a, b] st noX fun w s => ∃ k, w = .bl k ∧ Q (.bl k) s) := by
        intro pins s σ H x y v u Q' I rx ry ⟨ω, a, b, st, Q, S, ra, rb, kq, ⟨fs, ea⟩, hty, hC⟩
        subst ea
        obtain ⟨p, dx, vs, rfl, e, rf⟩ := objS S ra
        have ev := relV_ref rx
        subst ev
        cases hfn : T.fns[i]? with
        | none => exact absurd hC (g.tb.no i _ _ _ _ hfn)
        | some fd =>
          obtain ⟨m1, m2⟩ := k.me _ hm fd hfn
          obtain ⟨mA, O, _, _, _, _⟩ := ins_get I.hok e
          obtain ⟨od, J, _⟩ := O.look
          obtain ⟨m, hF⟩ := I.fr
          obtain ⟨t, lk, nf⟩ := rightTy g hq k I S rb ry hty
          show wpAny (model X.prog X.w) X.A (richCompare .Eq (.ref p) u) (EP X pins σ Q') X.xe s
          refine PySem.W.cmp_K (op := .Eq) (tb := t) g.big.u0 hF I.ok.mod.kin J lk nf m1 m2 ?_
          refine run_op g h0 hfn I S ra rb rx ry hC (Q2 := fun v H' => ∃ k, v = .bl k ∧ Q' (.bl k) H') (fun ω' w v st' H' t' S' r' ⟨kk, e, q'⟩ => ?_) fun z s' v' H' I3 rv ⟨kk, e, q3⟩ => ?_
          · subst e
            exact ⟨kk, r'.bl_inv, kq _ _ _ _ _ t' S' (.bl _) q'⟩
          · subst e
            cases (show z = Value.bool kk from rv)
            exact ⟨.bl kk, H', I3, rfl, q3⟩
      refine both (M := mEqO T C false j i (wpE T.G C a) (wpE T.G C b)) (pc_imp (pc_of ho (ha c Wx X _ g h4) (hb c Wx X _ g h5)) fun σ H Q' z => ?_) h3
      obtain ⟨ω, env, st, Q, Ex, E, S, hm, kq, kx⟩ := z
      refine TO.step E S hm kx fun ω1 x v st1 H1 t1 S1 E1 r1 q1 kx1 => ?_
      refine TO.step E1 S1 q1 kx1 fun ω2 y u st2 H2 t2 S2 E2 r2 q2 kx2 => ?_
      obtain ⟨⟨fs, ex⟩, hty, hC⟩ := q2
      have hA' : T.G.A j = q.at_ := hA
      rw [hA'] at ex
      exact ⟨ω2, x, y, st2, Q, S2, r1.up t2.le, r2, kq.on (t1.trans t2), ⟨fs, ex⟩, hty, hC⟩
    · subst h1
      have ho : OpR X (compareOp .NotEq) (fun x y H Q' => ∃ ω a b st Q, StR X.K ω st H ∧ Rel X.K ω a x ∧ Rel X.K ω b y ∧ KQ X.K ω st H Q Q' ∧ (∃ fs, a = .obj q.at_ fs) ∧ rightW T.G st b ∧ C i [a, b] st noX fun w s => ∃ k, w = .bl k ∧ Q (.bl (!k)) s) := by
        intro pins s σ H x y v u Q' I rx ry ⟨ω, a, b, st, Q, S, ra, rb, kq, ⟨fs, ea⟩, hty, hC⟩
        subst ea
        obtain ⟨p, dx, vs, rfl, e, rf⟩ := objS S ra
        have ev := relV_ref rx
        subst ev
        cases hfn : T.fns[i]? with
        | none => exact absurd hC (g.tb.no i _ _ _ _ hfn)
        | some fd =>
          obtain ⟨m1, m2⟩ := k.me _ hm fd hfn
          obtain ⟨mA, O, _, _, _, _⟩ := ins_get I.hok e
          obtain ⟨od, J, _⟩ := O.look
          obtain ⟨m, hF⟩ := I.fr
          obtain ⟨t, lk, nf⟩ := rightTy g hq k I S rb ry hty
          show wpAny (model X.prog X.w) X.A (richCompare .NotEq (.ref p) u) (EP X pins σ Q') X.xe s
          refine ne_K (tb := t) g.big.u1 hF I.ok.mod.kin J lk nf k.ne k.ow.2.2.2 m1 m2 ?_
          refine wpAny_call (codeAny_mono (run_in g hfn (A := X.A.in1) (Room.in1G (g.room h0)) I.env0.in1 I.kIn S (.cons ra (.cons rb .nil)) (.cons rx (.cons ry .nil)) hC (Q2 := fun v H' => ∃ k, v = .bl k ∧ Q' (.bl (!k)) H') fun ω' w v st' H' t' S' r' ⟨kk, e, q'⟩ => ?_) fun rr s' ⟨z, e, hq⟩ => ?_)
          · subst e
            exact ⟨kk, r'.bl_inv, kq _ _ _ _ _ t' S' (.bl _) q'⟩
          · subst e
            obtain ⟨v', H', I3, rv, kk, e, q3⟩ := I.after hq
            subst e
            cases (show z = Value.bool kk from rv)
            exact ⟨kk, rfl, .bl (!kk), H', I3, rfl, q3⟩
      refine both (M := mEqO T C true j i (wpE T.G C a) (wpE T.G C b)) (pc_imp (pc_of ho (ha c Wx X _ g h4) (hb c Wx X _ g h5)) fun σ H Q' z => ?_) h3
      obtain ⟨ω, env, st, Q, Ex, E, S, hm, kq, kx⟩ := z
      refine TO.step E S hm kx fun ω1 x v st1 H1 t1 S1 E1 r1 q1 kx1 => ?_
      refine TO.step E1 S1 q1 kx1 fun ω2 y u st2 H2 t2 S2 E2 r2 q2 kx2 => ?_
      obtain ⟨⟨fs, ex⟩, hty, hC⟩ := q2
      have hA' : T.G.A j = q.at_ := hA
      rw [hA'] at ex
      exact ⟨ω2, x, y, st2, Q, S2, r1.up t2.le, r2, kq.on (t1.trans t2), ⟨fs, ex⟩, hty, hC⟩
  · cases h
theorem s_addO {j i : Nat} {a b : Ex} (ha : SE T n C a) (hb : SE T n C b) : SE T n C (.addO j i a b) := fun c Wx X x g h => by
  unfold chkE at h
  split at h
  · simp only [Bool.and_eq_true] at h
    obtain ⟨⟨⟨h0, h2⟩, h4⟩, h5⟩ := h
    obtain ⟨q, hq, hm', hA⟩ := Cz.has_ok g h2
    have hm : (("__add__" : Str), i) ∈ q.ci.mets := by simpa using hm'
    have k := g.tb.cl j q hq
    have ho : OpR X (binaryOp .Add) (fun x y H Q' => ∃ ω a b st Q, StR X.K ω st H ∧ Rel X.K ω a x ∧ Rel X.K ω b y ∧ KQ X.K ω st H Q Q' ∧ (∃ fs, a = .obj q.at_ fs) ∧ (∃ fs, b = .obj q.at_ fs) ∧ C i [a, b] st noX Q) := by
      intro pins s σ H x y v u Q' I rx ry ⟨ω, a, b, st, Q, S, ra, rb, kq, ⟨fs, ea⟩, ⟨fs', eb⟩, hC⟩
      subst ea eb
      obtain ⟨p, dx, vs, rfl, e, rf⟩ := objS S ra
      have ev := relV_ref rx
      subst ev
      cases hfn : T.fns[i]? with
      | none => exact absurd hC (g.tb.no i _ _ _ _ hfn)
      | some fd =>
        obtain ⟨m1, m2⟩ := k.me _ hm fd hfn
        obtain ⟨mA, O, _, _, _, _⟩ := ins_get I.hok e
        obtain ⟨od, J, _⟩ := O.look
        obtain ⟨m, hF⟩ := I.fr
        obtain ⟨P, Z, pz, _⟩ := kit_of I ry (tyXO S k rb)
        refine PySem.W.binop_K (op := .Add) hF I.ok.mod.kin J (Z.ty _ _ I.kIn pz) k.sf m1 m2 ?_
        refine run_op g h0 hfn I S ra rb rx ry hC (Q2 := Q') (fun ω' w v st' H' t' S' r' q' => kq _ _ _ _ _ t' S' r' q') fun z s' v' H' I3 rv q3 => ?_
        have : EP X pins σ Q' z s' := ⟨v', H', I3, rv, q3⟩
        have nn : z ≠ .notImplemented := fun e => by
          subst e
          cases v' with
          | int => obtain ⟨t, e⟩ := (show ∃ t, _ = _ from rv); cases e
          | str => obtain ⟨t, e⟩ := (show ∃ t, _ = _ from rv); cases e
          | byt => obtain ⟨t, e⟩ := (show ∃ t, _ = _ from rv); cases e
          | flt => obtain ⟨t, e⟩ := (show ∃ t, _ = _ from rv); cases e
          | _ => cases (show Value.notImplemented = _ from rv)
        cases z <;> first | exact this | exact absurd rfl nn
    refine pe_imp (pe_op ho (ha c Wx X _ g h4) (hb c Wx X _ g h5)) fun σ H Q' z => ?_
    obtain ⟨ω, env, st, Q, Ex, E, S, hm, kq, kx⟩ := z
    refine TO.step E S hm kx fun ω1 x v st1 H1 t1 S1 E1 r1 q1 kx1 => ?_
    refine TO.step E1 S1 q1 kx1 fun ω2 y u st2 H2 t2 S2 E2 r2 q2 kx2 => ?_
    obtain ⟨⟨fs, ex⟩, ⟨fs', ey⟩, hC⟩ := q2
    have hA' : T.G.A j = q.at_ := hA
    rw [hA'] at ex ey
    exact ⟨ω2, x, y, st2, Q, S2, r1.up t2.le, r2, kq.on (t1.trans t2), ⟨fs, ex⟩, ⟨fs', ey⟩, hC⟩
  · cases h
/-- own + what is no own object: the def may raise -/
theorem s_addN {j i : Nat} {a b : Ex} (ha : SE T n C a) (hb : SE T n C b) : SE T n C (.addN j i a b) := fun c Wx X x g h => by
  unfold chkE at h
  split at h
  · simp only [Bool.and_eq_true] at h
    obtain ⟨⟨⟨h0, h2⟩, h4⟩, h5⟩ := h
    obtain ⟨q, hq, hm', hA⟩ := Cz.has_ok g h2
    have hm : (("__add__" : Str), i) ∈ q.ci.mets := by simpa using hm'
    have k := g.tb.cl j q hq
    refine ⟨fun pins s σ H Q' I z => wpAny_BinOp (binT (R := fun x y H2 => ∃ ω a b st Q Ex, StR X.K ω st H2 ∧ Rel X.K ω a x ∧ Rel X.K ω b y ∧ KQ X.K ω st H2 Q Q' ∧ KX T X.K ω st H2 Ex (fun c d H' => Wx c d σ H') ∧ (∃ fs, a = .obj q.at_ fs) ∧ rightN T.G st b ∧ C i [a, b] st Ex Q) (ha c Wx X _ g h4) (hb c Wx X _ g h5) I ?_ fun v u s2 x y H2 I2 rx ry z2 => ?_)⟩
    · obtain ⟨ω, env, st, Q, Ex, E, S, hm, kq, kx⟩ := z
      refine TO.step E S hm kx fun ω1 x v st1 H1 t1 S1 E1 r1 q1 kx1 => ?_
      refine TO.step E1 S1 q1 kx1 fun ω2 y u st2 H2 t2 S2 E2 r2 q2 kx2 => ?_
      obtain ⟨⟨fs, ex⟩, hy, hC⟩ := q2
      have hA' : T.G.A j = q.at_ := hA
      rw [hA'] at ex
      exact ⟨ω2, x, y, st2, Q, Ex, S2, r1.up t2.le, r2, kq.on (t1.trans t2), kx2, ⟨fs, ex⟩, hy, hC⟩
    · obtain ⟨ω, a, b, st, Q, Ex, S, ra, rb, kq, kx, ⟨fs, ea⟩, hty, hC⟩ := z2
      subst ea
      obtain ⟨p, dx, vs, rfl, e, rf⟩ := objS S ra
      have ev := relV_ref rx
      subst ev
      cases hfn : T.fns[i]? with
      | none => exact absurd hC (g.tb.no i _ _ _ _ hfn)
      | some fd =>
        obtain ⟨m1, m2⟩ := k.me _ hm fd hfn
        obtain ⟨mA, O, _, _, _, _⟩ := ins_get I2.hok e
        obtain ⟨od, J, _⟩ := O.look
        obtain ⟨m, hF⟩ := I2.fr
        obtain ⟨F, _, _, hbn⟩ := g.tb.fn i fd hfn
        have hl : [W.obj q.at_ fs, b].length = fd.ps.length := g.tb.ar i fd _ _ _ _ hfn hC
        have hbi := hbn s2 [.ref p, u] I2.kIn (by rw [List.append_nil]; exact hl)
        rw [List.append_nil] at hbi
        have hcall : wpAny (model X.prog X.w) X.A (call (.ref fd.at_) [.ref p, u]) (PySem.W.CmpBack (EP X pins σ Q')) X.xe s2 := by
          refine wpAny_call (codeAny_mono (F.run X.A X.stack s2 H2 ⟨[.ref p, u], []⟩ [.ref p, u] [V.ref p, y] Q' (fun cls d H' => Wx cls d σ H') ((g.room h0).mono (Nat.le_succ _)) I2.env0 hbi (.cons rx (.cons ry .nil)) ⟨by rw [← hl]; rfl, ω, _, st, Q, Ex, S, .cons ra (.cons rb .nil), hC, kq, kx⟩) fun r s' hq' => ?_)
          cases r with
          | error e => exact passAt g.tk σ pins _ _ e s' I2 hq'
          | ok fl =>
            cases fl with
            | ret z =>
              obtain ⟨v', H', I3, rv, q3⟩ := I2.after hq'
              have this : EP X pins σ Q' z s' := ⟨v', H', I3, rv, q3⟩
              have nn : z ≠ .notImplemented := fun e => by
                subst e
                cases v' with
                | int => obtain ⟨t, e⟩ := (show ∃ t, _ = _ from rv); cases e
                | str => obtain ⟨t, e⟩ := (show ∃ t, _ = _ from rv); cases e
                | byt => obtain ⟨t, e⟩ := (show ∃ t, _ = _ from rv); cases e
                | flt => obtain ⟨t, e⟩ := (show ∃ t, _ = _ from rv); cases e
                | _ => cases (show Value.notImplemented = _ from rv)
              cases z <;> first | exact this | exact absurd rfl nn
            | next => exact False.elim hq'
            | brk => exact False.elim hq'
            | cont => exact False.elim hq'
        rcases hty with pw | ⟨i', hi, rfl⟩
        · obtain ⟨t, ht, ty⟩ := tyXW S rb pw
          obtain ⟨P, Z, pz, _⟩ := kit_of I2 ry ty
          obtain ⟨fo, ro, e1, e2⟩ := plain_add t ht
          have sb : PySem.W.subIn X.K (.type t) (.ref q.at_) = some false := by
            rcases Bool.or_eq_true_iff.mp (k.nf t ht) with e | e
            · cases beq_iff_eq.mp e
            · exact beq_iff_eq.mp e
          exact addN_K hF I2.ok.mod.kin J (Z.ty _ _ I2.kIn pz) (Bool.eq_false_iff.mpr fun z => by cases beq_iff_eq.mp z) k.sf m1 m2 k.ra (PySem.W.ksp_fillsT I2.kIn e1 e2) (fun _ => ⟨t, ro, rfl, e2, sb⟩) hcall
        · obtain ⟨x', a', hx, hA, xo⟩ := exAt g hi
          rw [hA] at rb
          obtain ⟨p', φ, rfl, hr, hφ⟩ := excS S rb
          cases (show u = Value.ref p' from ry)
          obtain ⟨oe, J2⟩ := exInst I2 hr hφ
          have ne : (Value.ref q.at_ == Value.ref a') = false := Bool.eq_false_iff.mpr fun z => by
            have z := beq_iff_eq.mp z
            have := (xo.kc j q hq).1
            rw [← z] at this
            unfold PySem.W.kitOne at this
            rw [if_pos (beq_iff_eq.mpr rfl)] at this
            cases this
          exact addN_K hF I2.ok.mod.kin J J2.type ne k.sf m1 m2 k.ra (fills_no I2.kIn xo.na) (fun z => nomatch z) hcall
  · cases h
/-! ### how many there are, a display of numbers, a table of the top -/
theorem s_lset {a : Ex} (ha : SE T n C a) : SE T n C (.lset a) := fun c Wx X x g h => by
  unfold chkE at h
  split at h
  · simp only [Bool.and_eq_true, decide_eq_true_eq] at h
    obtain ⟨⟨⟨⟨⟨⟨h0, h1⟩, h2⟩, h3⟩, h4⟩, h5⟩, h6⟩ := h
    subst h1 h2
    refine ⟨fun pins s σ H Q' I z => ?_⟩
    refine Call_ (ld_blt I (g.gl h3) (g.tb.bl _ (by decide +kernel)) PySem.boot_len ?_)
    refine PyProof.Rows.callWith_builtin1 (PyProof.Rows.args_cons ?_ rfl) rfl rfl
    refine Call_ (ld_blt I (g.gl h4) (g.tb.bl _ (by decide +kernel)) PyProof.Rows.boot_set ?_)
    refine PyProof.Rows.callWith_type1 (PyProof.Rows.args_cons (thn ((ha c Wx X _ g h6).run pins s σ H (fun v H1 => ∃ (l : Addr) (ns : List Int), v = .ref l ∧ SqT X.K H1 l (ns.map V.int) ∧ ns.length ≤ 1000 ∧ ∀ out : List Int, out.Nodup → (∀ k, k ∈ out ↔ k ∈ ns) → Q' (.int out.length) H1) I ?_) fun v s1 ⟨x, H1, I1, r1, l, ns, ex, hq, hz, q1⟩ => PyProof.Rows.args_nil ?_) (starEach_of h5)) (starEach_of h5) rfl
    · obtain ⟨ω, env, st, Q, Ex, E, S, hm, kq, kx⟩ := z
      refine TO.step E S hm kx fun ω1 x v st1 H1 t1 S1 E1 r1 q1 kx1 => ?_
      obtain ⟨l, ns, rfl, e2, hz, q1⟩ := q1
      cases intsOf_eq e2
      cases r1 with
      | tup s1 r1 =>
        cases r1.ints_inv
        exact ⟨_, ns, rfl, S1.tup s1, hz, fun out nd hm => (kq.on t1).at S1 (.int _) (q1 out nd hm)⟩
    · subst ex
      cases r1
      obtain ⟨its, r, pl, hzz⟩ := I1.tuple hq
      have hi : IntsAre its.toArray.toList ns := by simpa using ints_of_vals r
      refine call_set_tupI ns (I1.ok.hd (g.calm h0)) pl hi (by unfold scanBound; omega) fun h' tk c R1 hcn kk => ?_
      obtain ⟨o, es, ep, t, ho, hex, hdt, _, nd, hm2, hb, hf, hn, _, _⟩ := R1
      have I2 : Inv X pins σ H1 { s1 with heap := h', toks := tk } := I1.kept fun b o e => kk b o e
      refine PyProof.Rows.args_nil ?_
      refine call_len_set ho hex hdt hf (by unfold scanBound at hb; omega) ⟨.int es.size, H1, I2.tok _, ⟨_, rfl⟩, ?_⟩
      have := q1 _ nd fun k => by rw [← hm2 k, decide_eq_true_eq]
      simpa using this
  · cases h
theorem dctB_ok {X : Cx} {pos : Pos} : ∀ {l : List (Str × Int)} {ks : List (Option Expr)} {vs : List Expr}, dctB l ks vs = true → ∃ trs, PPs X pos ks vs trs ∧ ks.all (·.isSome) = true ∧ ks.length = vs.length ∧ ks.length = l.length ∧
    ∀ σ H (Q : List (V × V) → Hp → Prop), Q (l.map fun p => (V.str p.1, V.int p.2)) H → tPairs trs σ H Q
  | [], ks, vs, h => by
    cases ks <;> cases vs <;> simp only [dctB, Bool.false_eq_true] at h
    exact ⟨[], pps_nil, rfl, rfl, rfl, fun σ H Q q => q⟩
  | (k, i) :: l, ks, vs, h => by
    unfold dctB at h
    split at h
    · rename_i he; cases he
    · rename_i k1 i1 l1 k' _ _ ks1 v vs1 he
      cases he
      simp only [Bool.and_eq_true, decide_eq_true_eq] at h
      obtain ⟨⟨h1, h2⟩, h3⟩ := h
      subst h1
      obtain ⟨trs, P, a1, a2, a3, q⟩ := dctB_ok (X := X) (pos := pos) h3
      split at h2
      · have e := of_decide_eq_true h2
        subst e
        exact ⟨_, pps_cons pe_str pe_int P, by simpa using a1, by simpa using a2, by simpa using a3, fun σ H Q qq => q σ H _ qq⟩
      · have e := of_decide_eq_true h2
        subst e
        exact ⟨_, pps_cons pe_str (pe_un un_neg pe_int) P, by simpa using a1, by simpa using a2, by simpa using a3, fun σ H Q qq => ⟨_, rfl, q σ H _ qq⟩⟩
      · cases h2
    · cases h
theorem dctI_rel {K : PySem.W.Frag} {ω : Wd} : ∀ (l : List (Str × Int)) {ws : List (Key × W)} {vs : List (Key × V)}, (ws.map (·.1)).Nodup → RelK K ω ws vs →
    RelK K ω (l.foldl (fun acc p => put acc (Sum.inr p.1 : Key) (W.int p.2)) ws) (mergeK vs (l.map fun p => ((Sum.inr p.1 : Key), V.int p.2))) ∧ ((l.foldl (fun acc p => put acc (Sum.inr p.1 : Key) (W.int p.2)) ws).map (·.1)).Nodup
  | [], _, _, nd, r => ⟨r, nd⟩
  | p :: l, ws, vs, nd, r => dctI_rel l (put_keys ws _ _ nd) (RelK.put (.int p.2) r)
theorem KQ.takeD {K : PySem.W.Frag} {ω0 ω : Wd} {st0 st : Sto} {H0 H : Hp} {Q : Po} {Q' : VK} (k : KQ K ω0 st0 H0 Q Q') (t : Stp ω0 st0 H0 ω st H) (S : StR K ω st H) {D : Addr} {ws : List (Key × W)} {vs : List (Key × V)}
    (h0 : H0 D = none) (h : H D = some (.dK vs)) (hd : ω.D D = none) (ha : ¬ Alive ω st D) (nd : (ws.map (·.1)).Nodup) (r : RelK K ω ws vs) {m : Bool} (q : Zk.newD m ws st Q) : LkQ Q' (.ref D) H := by
  cases m with
  | true =>
    obtain ⟨S', t'⟩ := S.takeM t h0 (c := .dct ws) ⟨vs, h, nd, r.up Wd.le_more⟩ hd ha
    refine .inl (k _ _ _ _ _ t' S' (.ref (n := st.length) ?_) (q.1 rfl))
    show (ω.ρ ++ [D])[st.length]? = some D
    rw [← S.len]; simp
  | false =>
    refine .inr ⟨D, _, h, trivial, fun od => ?_⟩
    obtain ⟨S', t'⟩ := (S.outside (o := .frz od (.dK vs)) hd ha).take (t.outside h0) h0 upd_same hd ha
    exact k _ _ _ _ _ t' S' (.dct upd_same nd (r.up (Wd.le_still hd))) (q.2 rfl)
theorem KQ.takeDt {K : PySem.W.Frag} {ω0 ω : Wd} {st0 st : Sto} {H0 H : Hp} {Q : Po} {Q' : VK} (k : KQ K ω0 st0 H0 Q Q') (t : Stp ω0 st0 H0 ω st H) (S : StR K ω st H) {D : Addr} {ws : List (Key × W)} {vs : List (Key × V)}
    (h0 : H0 D = none) (h : H D = some (.dK vs)) (hd : ω.D D = none) (ha : ¬ Alive ω st D) (nd : (ws.map (·.1)).Nodup) (r : RelK K ω ws vs) (q : Zk.newD true ws st Q) : Q' (.ref D) H := by
  obtain ⟨S', t'⟩ := S.takeM t h0 (c := .dct ws) ⟨vs, h, nd, r.up Wd.le_more⟩ hd ha
  refine k _ _ _ _ _ t' S' (.ref (n := st.length) ?_) (q.1 rfl)
  show (ω.ρ ++ [D])[st.length]? = some D
  rw [← S.len]; simp
theorem s_dctI {m : Bool} {l : List (Str × Int)} : SE T n C (.dctI m l) := fun c Wx X x g h => by
  unfold chkE at h
  split at h
  · rename_i ks vs pos
    simp only [Bool.and_eq_true, decide_eq_true_eq, Bool.not_eq_true'] at h
    obtain ⟨⟨h1, h2⟩, h3⟩ := h
    obtain ⟨trs, P, a1, a2, a3, q⟩ := dctB_ok (X := X) (pos := pos) h3
    refine pe_imp (pe_lk (pe_disp P a1 a2 (fun e => ?_) (by omega))) fun σ H Q' z p hp => ?_
    · rw [e] at a3
      cases l with
      | nil => cases h1
      | cons => cases a3
    obtain ⟨ω, env, st, Q, Ex, E, S, hm, kq, kx⟩ := z
    refine q σ _ _ ⟨upd_same, l.map fun p => ((Sum.inr p.1 : Key), V.int p.2), ?_, by simpa using h2, ?_⟩
    · rw [List.map_map]; rfl
    · have hdD := S.dfree hp
      have haD : ¬ Alive ω st p := fun z => by obtain ⟨o, e⟩ := S.alive_some z; rw [hp] at e; cases e
      obtain ⟨rr, nd⟩ := dctI_rel (K := X.K) (ω := ω) l (ws := []) (vs := []) (by simp) .nil
      exact KQ.takeD kq ((Stp.refl.outside hp).outside hp) ((S.outside hdD haD).outside hdD haD) hp upd_same hdD haD nd rr hm
  · cases h
theorem look_mem {k : Str} {i : Int} : ∀ {l : List (Str × Int)}, l.lookup k = some i → (k, i) ∈ l
  | [], h => by cases h
  | p :: l, h => by
    obtain ⟨k', i'⟩ := p
    rw [List.lookup_cons] at h
    by_cases hb : (k == k') = true
    · simp only [hb] at h
      cases h
      rw [beq_iff_eq.mp hb]
      exact List.mem_cons_self ..
    · simp only [Bool.not_eq_true] at hb
      simp only [hb] at h
      exact List.mem_cons_of_mem _ (look_mem h)
theorem s_gdx {t : Nat} {e : Ex} (he : SE T n C e) : SE T n C (.gdx t e) := fun c Wx X x g h => by
  unfold chkE at h
  split at h
  · simp only [Bool.and_eq_true, decide_eq_true_eq] at h
    obtain ⟨⟨⟨⟨h1, h2⟩, h3⟩, h4⟩, h5⟩ := h
    rw [g.tas, List.getElem?_map] at h1
    cases hq : T.tas[t]? with
    | none => rw [hq] at h1; cases h1
    | some q =>
      rw [hq] at h1
      simp only [Option.map_some, Option.some.injEq] at h1
      subst h1
      have k := g.tb.ta t q hq
      obtain ⟨es, m, D⟩ := k.kd
      have hi : IxR X (fun x y H Q' => ∃ kk i, x = .ref q.at_ ∧ y = .str kk ∧ q.kvs.lookup kk = some i ∧ Q' (.int i) H) := by
        intro value slice pins s σ H x y v u Q' I rx ry ⟨kk, i, ex, ey, hl, q'⟩ hs
        subst ex ey
        have ev := relV_ref rx
        subst ev
        obtain ⟨tk, rfl⟩ := (show ∃ t, u = Value.str kk t from ry)
        obtain ⟨u0, e0, r0⟩ := k.vl (kk, i) (look_mem hl)
        exact PyProof.Rows.subscriptTail_builtinR (x := u0) (kd_type D I) PySem.F.slot_dict_getitem.lookup (wpAny_getItem_of (PySem.strKind_is X.prog X.w kk tk) (PySem.W.mapOf_K (prog := X.prog) I.kIn D.at_ D.lit) (PySem.W.find_K D.at_ e0) ⟨rfl, .int i, H, I.tok _, r0, q'⟩) hs
      refine pe_imp (pe_ix hi (pe_glob (v := .ref q.at_) (g.gl h2) k.gm rfl (plB_1 h3)) (he c Wx X _ g h5) (plainIx_of h4)) fun σ H Q' z => ?_
      obtain ⟨ω, env, st, Q, Ex, E, S, hm, kq, kx⟩ := z
      show TO T X.K Wx _ σ H _
      refine TO.step E S hm kx fun ω1 x v st1 H1 t1 S1 E1 r1 q1 kx1 => ?_
      obtain ⟨kk, i, rfl, hl, q1⟩ := q1
      cases r1.str_inv
      have hl' : (((T.tas[t]?).map (·.kvs)).getD []).lookup kk = some i := hl
      rw [hq] at hl'
      exact ⟨kk, i, rfl, rfl, hl', (kq.on t1).at S1 (.int _) q1⟩
  · cases h
end
end Zk

namespace Zk
open PySem PySem.Spec PyProof.Rows L2

/-! ### a tuple backwards, dict comprehensions -/
section
variable {T : Tb} {n : Nat} {C : Calls} {c : Cz} {Wx : WX} {X : Cx}
theorem s_rvs {a : Ex} (ha : SE T n C a) : SE T n C (.rvs a) := fun c Wx X x g h => by
  unfold chkE at h
  split at h
  · refine pe_imp (pe_revT (ha c Wx X _ g h)) fun σ H Q' q => ?_
    obtain ⟨ω, env, st, Q, Ex, E, S, hm, k, kx⟩ := q
    refine TO.step E S hm kx fun ω1 x v st1 H1 t1 S1 E1 r1 q1 kx1 => ?_
    obtain ⟨l, rfl, q1⟩ := q1
    cases r1 with
    | tup s1 r1 => exact ⟨_, _, rfl, S1.tup s1, (k.on t1).newT S1 (r1.drop 1).reverse q1⟩
  · cases h
theorem putK_len (vs : List (Key × V)) (k : Key) (v : V) : (putK vs k v).length ≤ vs.length + 1 := by
  unfold putK
  split
  · simp
  · simp
/-- one turn's meaning -/
def dcF (t : Tg) (vs : List Nat) (env : Env') (mc mk me : Env' → Sto → XPo → Po → Prop) : W → Sto → (Option (Key × W) → Sto → Prop) → Prop := fun x s K =>
  tgP t x (wipeE env vs) fun env1 => mc env1 s noX fun cw s1 => (cw = .tup [] ∧ mk env1 s1 noX fun y s2 => me env1 s2 noX fun z s3 => ∃ q, keyOf y = some q ∧ K (some (q, z)) s3) ∨
    ∃ x b, cw = .tup [x] ∧ truth s1 x = some b ∧ ((b = true → mk env1 s1 noX fun y s2 => me env1 s2 noX fun z s3 => ∃ q, keyOf y = some q ∧ K (some (q, z)) s3) ∧ (b = false → K none s1))
theorem pe_dcG (g : Good T n C c Wx X) (hc : c.calm = true) {m : Bool} {own : List (Str × Nat)} {t : Tg} {kx elt tg iter : Expr} {ifs : List Expr} {scope : Scope} {pos : Pos} {mi mc mk me : Env' → Sto → XPo → Po → Prop}
    (hb : blkB c scope own t = true) :
    ∃ R : TE, (∀ (Y : TE → Prop), Y (tDc (TIo T X.K Wx mi) (TGo X.K t) (TTs T X.K WF mc) (TO T X.K WF mk) (TO T X.K WF me) (own.map (·.2))) → Y R) ∧ ∀ σ H (Q' Q2 : VK), ((∀ v H, LkQ Q' v H → Q2 v H) ∨ (m = true ∧ ∀ v H, Q' v H → Q2 v H)) → TO T X.K Wx (fun env st Ex Q => mi env st Ex fun w st1 => walkP w st1 fun items grd st2 => items.length < sizeLine ∧
      dcP (dcF t (own.map (·.2)) env mc mk me) grd items [] st2 fun ws st3 => newD m ws st3 Q) σ H Q' → R σ H Q2 := by
  refine ⟨_, fun Y h => h, fun σ H Q' Q2 hq2' q => ?_⟩
  simp only [blkB, Bool.and_eq_true, List.all_eq_true] at hb
  obtain ⟨hb1, hb2⟩ := hb
  have slots : ∀ j, j ∉ own.map (·.2) → j ∉ t.slots := fun j hj hm => hj (by have := hb2 j hm; simpa using this)
  obtain ⟨ω, env, st, Q, Ex, E, S, hm, k, kx⟩ := q
  refine ⟨ω, env, st, Ex, _, E, S, hm, fun ω1 items grd st1 H1 J t1 S1 it ⟨hz, hq⟩ D hD => ?_, kx⟩
  have E1 := E.up t1.le
  have hdD := S1.dfree hD
  have haD : ¬ Alive ω1 st1 D := fun z => by obtain ⟨o, e⟩ := S1.alive_some z; rw [hD] at e; cases e
  refine ⟨fun i mm H => mm = items.length - i ∧ i ≤ items.length ∧ ∃ ω2 st2 accW accV, Stp ω1 st1 H1 ω2 st2 H ∧ StR X.K ω2 st2 H ∧ H D = some (.dK accV) ∧ ω2.D D = none ∧ ¬ Alive ω2 st2 D ∧ (accW.map (·.1)).Nodup ∧ RelK X.K ω2 accW accV ∧ accV.length ≤ i ∧
      dcP (dcF t (own.map (·.2)) env mc mk me) grd (items.drop i) accW st2 fun ws st3 => newD m ws st3 Q,
    ⟨_, rfl, Nat.zero_le _, ω1, st1, [], [], Stp.refl.outside hD, S1.outside hdD haD, upd_same, hdD, haD, by simp, .nil, Nat.le_refl _, hq⟩, ?_⟩
  rintro i mm H2 ⟨rfl, hil, ω2, st2, accW, accV, t2, S2, hD2, hd2, ha2, nd, ra, hal, hq2⟩
  have hgrd : grd st2 := by
    cases e : items.drop i with
    | nil => rw [e] at hq2; exact hq2.1
    | cons => rw [e] at hq2; exact hq2.1
  obtain ⟨itg, its⟩ := it ω2 st2 H2 t2.le S2 hgrd i
  by_cases hlt : i < items.length
  · refine .inr ⟨(itg hlt).1, fun H' => (items.length - (i + 1)) = items.length - (i + 1) ∧ i + 1 ≤ items.length ∧ ∃ ω2 st2 accW accV, Stp ω1 st1 H1 ω2 st2 H' ∧ StR X.K ω2 st2 H' ∧ H' D = some (.dK accV) ∧ ω2.D D = none ∧ ¬ Alive ω2 st2 D ∧ (accW.map (·.1)).Nodup ∧ RelK X.K ω2 accW accV ∧ accV.length ≤ i + 1 ∧
      dcP (dcF t (own.map (·.2)) env mc mk me) grd (items.drop (i + 1)) accW st2 fun ws st3 => newD m ws st3 Q, fun H' h => ⟨_, by omega, h⟩, fun x H'' y => ?_⟩
    obtain ⟨ω2', t2', S2', w, hw, rw'⟩ := (itg hlt).2 x H'' y
    obtain ⟨hD2', ha2'⟩ := t2'.keep D _ hD2 ha2
    have hd2' := t2'.kd D _ hD2 ha2 hd2
    have ra' := ra.up t2'.le
    have t2n := t2.trans t2'
    have hdrop : items.drop i = w :: items.drop (i + 1) := by
      rw [List.drop_eq_getElem_cons hlt]
      rw [List.getElem?_eq_getElem hlt] at hw
      cases hw; rfl
    rw [hdrop] at hq2
    replace hq2 := hq2.2
    have hq3 : tgP t w (wipeE env (own.map (·.2))) fun env1 => mc env1 st2 noX fun cw s1 => (cw = .tup [] ∧ mk env1 s1 noX fun y s2 => me env1 s2 noX fun z s3 => ∃ q, keyOf y = some q ∧ dcP (dcF t (own.map (·.2)) env mc mk me) grd (items.drop (i + 1)) (put accW q z) s3 fun ws st3 => newD m ws st3 Q) ∨
      ∃ x b, cw = .tup [x] ∧ truth s1 x = some b ∧ ((b = true → mk env1 s1 noX fun y s2 => me env1 s2 noX fun z s3 => ∃ q, keyOf y = some q ∧ dcP (dcF t (own.map (·.2)) env mc mk me) grd (items.drop (i + 1)) (put accW q z) s3 fun ws st3 => newD m ws st3 Q) ∧ (b = false → dcP (dcF t (own.map (·.2)) env mc mk me) grd (items.drop (i + 1)) accW s1 fun ws st3 => newD m ws st3 Q)) := hq2
    -- the target
    refine ⟨ω2', wipeE env (own.map (·.2)), st2, w, _, (E1.up t2n.le).wipe _, S2', rw', hq3, fun env1 σ1 E2 ho hsl q1 => ⟨wipe_eq (by rw [hsl, wipe_length]) fun j hj => ho j (slots j hj), ?_⟩⟩
    -- the test
    refine ⟨ω2', env1, st2, noX, fun b s1 => (b = true → mk env1 s1 noX fun y s2 => me env1 s2 noX fun z s3 => ∃ q, keyOf y = some q ∧ dcP (dcF t (own.map (·.2)) env mc mk me) grd (items.drop (i + 1)) (put accW q z) s3 fun ws st3 => newD m ws st3 Q) ∧ (b = false → dcP (dcF t (own.map (·.2)) env mc mk me) grd (items.drop (i + 1)) accW s1 fun ws st3 => newD m ws st3 Q), E2, S2', ?_, ?_, fun _ _ _ _ _ _ _ z => False.elim z⟩
    · refine Eq.mp (congrArg (mc env1 st2 noX) ?_) q1
      funext cw s1
      refine propext ⟨fun h => ?_, fun h => ?_⟩
      · rcases h with ⟨e, h⟩ | ⟨x, b, e1, e2, h⟩
        · exact .inl ⟨e, fun _ => h, fun z => by cases z⟩
        · exact .inr ⟨x, b, e1, e2, h⟩
      · rcases h with ⟨e, h⟩ | ⟨x, b, e1, e2, h⟩
        · exact .inl ⟨e, h.1 rfl⟩
        · exact .inr ⟨x, b, e1, e2, h⟩
    · intro ω3 b st3 H3 t3 S3 ⟨h1, h2⟩
      obtain ⟨hD3, ha3⟩ := t3.keep D _ hD2' ha2'
      have hd3 := t3.kd D _ hD2' ha2' hd2'
      cases b with
      | false =>
        rw [if_neg Bool.false_ne_true]
        exact ⟨rfl, hlt, ω3, st3, accW, accV, t2n.trans t3, S3, hD3, hd3, ha3, nd, ra'.up t3.le, by omega, h2 rfl⟩
      | true =>
        rw [if_pos rfl]
        refine ⟨ω3, env1, st3, _, noX, E2.up t3.le, S3, h1 rfl, fun ω4 y yv st4 H4 t4 S4 r4 q4 => ?_, fun _ _ _ _ _ _ _ z => False.elim z⟩
        refine ⟨ω4, env1, st4, _, noX, (E2.up t3.le).up t4.le, S4, q4, fun ω5 z v st5 H5 t5 S5 r5 q5 => ?_, fun _ _ _ _ _ _ _ z => False.elim z⟩
        obtain ⟨ky, ek, q5⟩ := q5
        obtain ⟨hD4, ha4⟩ := t4.keep D _ hD3 ha3
        have hd4 := t4.kd D _ hD3 ha3 hd3
        obtain ⟨hD5, ha5⟩ := t5.keep D _ hD4 ha4
        have hd5 := t5.kd D _ hD4 ha4 hd4
        have hl := putK_len accV ky v
        refine ⟨accV, ky, (keyOf_ok ek r4), hD5, by omega, rfl, hlt, ω5, st5, put accW ky z, putK accV ky v, (((t2n.trans t3).trans t4).trans t5).outside hD, S5.outside hd5 ha5, upd_same, hd5, ha5, put_keys accW ky z nd, RelK.put r5 (ra'.up ((t3.le.trans t4.le).trans t5.le)), by omega, q5⟩
  · have hi : i = items.length := by omega
    subst hi
    rw [List.drop_length] at hq2
    replace hq2 := hq2.2
    refine .inl ⟨its (Nat.le_refl _), ?_⟩
    rcases hq2' with z | ⟨rfl, z⟩
    · exact z _ _ (KQ.takeD (k.on t1) t2 S2 hD hD2 hd2 ha2 nd ra hq2)
    · exact z _ _ (KQ.takeDt (k.on t1) t2 S2 hD hD2 hd2 ha2 nd ra hq2)
theorem s_dc {m : Bool} {own : List (Str × Nat)} {t : Tg} {it cs k e : Ex} (hi : SI T n C it) (hcs : SC T n C cs) (hk : SE T n C k) (he : SE T n C e) : SE T n C (.dc m own t it cs k e) := fun c Wx X x g h => by
  unfold chkE at h
  split at h
  · rename_i kx elt tg ix ifs scope pos
    simp only [Bool.and_eq_true] at h
    obtain ⟨⟨⟨⟨⟨⟨⟨⟨h1, h2⟩, h3⟩, h4, h4t⟩, h5⟩, h6⟩, h7⟩, h8⟩, h9⟩ := h
    obtain ⟨R, hR, hQ⟩ := pe_dcG g h1 (m := m) (own := own) (kx := kx) (tg := tg) (iter := ix) (ifs := ifs) (t := t) (scope := scope) (elt := elt) (pos := pos) (mi := wpE T.G C it) (mc := wpE T.G C cs) (mk := wpE T.G C k) (me := wpE T.G C e) h3
    have P : PE X (.DictComp kx elt [⟨tg, ix, ifs, 0⟩] scope pos) R := hR (fun R => PE X (.DictComp kx elt [⟨tg, ix, ifs, 0⟩] scope pos) R) (by
      simp only [blkB, Bool.and_eq_true] at h3
      refine pe_dc (g.calm h1) (by rw [g.N]; exact g.nd) (hi c Wx X tg ix g h1 h4t h5) (blkOk_by (by rw [g.N, g.sc]; exact h3.1)) (fun s H D cl fp => pg_of (g.blk scope s H D cl fp) (g.calm h1) h4)
        (fun s H D cl fp => hcs _ WF _ _ (g.blk scope s H D cl fp) h7 h6) (fun s H D cl fp => hk _ WF _ _ (g.blk scope s H D cl fp) h8) (fun s H D cl fp => he _ WF _ _ (g.blk scope s H D cl fp) h9) (fun y => fold_of h2 y))
    exact pe_imp (pe_lk P) fun σ H Q' q => hQ σ H Q' _ (.inl fun _ _ z => z) q
  · cases h
/-- name = {..} on one line, the name a local -/
theorem ps_setDc {i : Nat} {y : Str} {py : Pos} {kx elt tg iter : Expr} {ifs : List Expr} {scope : Scope} {own : List (Str × Nat)} {pos spos : Pos} {wi : TI} {g : TG} {tt : TT} {tk te : TE} (hc : X.calm = true) (hN : X.N.Nodup) (hy : X.N[i]? = some y) (hyl : X.env.scope.names.lookup y = some .local)
    (hsw : swapsWith (.DictComp kx elt [⟨tg, iter, ifs, 0⟩] scope pos) (some (.Name y py)) spos.line X.env = pure true) (hi : PI X tg iter wi) (ok : BlkOk X.N X.env.scope scope own)
    (hg : ∀ (s : Shared) (H : Hp) (C : Addr) (cl : List (Str × Addr)) (fp : List Addr), PG (X.blk s H scope (compEnvC scope cl C X.env) fp) tg g) (ht : ∀ (s : Shared) (H : Hp) (C : Addr) (cl : List (Str × Addr)) (fp : List Addr), PTs (X.blk s H scope (compEnvC scope cl C X.env) fp) ifs tt)
    (hk : ∀ (s : Shared) (H : Hp) (C : Addr) (cl : List (Str × Addr)) (fp : List Addr), PE (X.blk s H scope (compEnvC scope cl C X.env) fp) kx tk)
    (he : ∀ (s : Shared) (H : Hp) (C : Addr) (cl : List (Str × Addr)) (fp : List Addr), PE (X.blk s H scope (compEnvC scope cl C X.env) fp) elt te) (hs : ∀ x, foldedSetIterable iter X.env x = pure x) :
    PS X (.Assign [.Name y py] (.DictComp kx elt [⟨tg, iter, ifs, 0⟩] scope pos) spos) (tAsg (tDc wi g tt tk te (own.map (·.2))) (gName i)) := by
  refine ⟨fun pins s σ H D I h => ?_⟩
  rw [exec_Assign_Name_used _ _ _ _ hsw]
  refine wpAny_bind (wpAny_standAt (wpAny_bind ?_))
  show wpAny _ X.A (do let _ ← comprehension (.DictComp kx elt [⟨tg, iter, ifs, 0⟩] scope pos) scope X.env (firstIterPos [⟨tg, iter, ifs, 0⟩] pos) newDict false (eval iter X.env) (some (assign (.Name y py) X.env))) _ _ s
  have h : tDc wi g tt tk te (own.map (·.2)) σ H (fun x H1 => gName i x σ H1 D.nx) := h
  refine wpAny_bind (thn (dc_core (Qf := fun _ s' => SP X pins D .next s') hc hN I hi ok hg ht hk he hs h fun L C s' m H' I' q hn f => ?_) fun _ s' hq => wpAny_pure (wpAny_pure hq))
  show wpAny _ _ (assign (.Name y py) X.env (.ref L)) _ _ _
  refine wpAny_assign_Name (store_ok2 (v := V.ref L) I' hN hy (.inl hyl) rfl (fun s2 I2 ⟨a, sb, ha⟩ => ?_) (.inr hyl))
  obtain ⟨f0, f1, f2, f3, f4, f5⟩ := f
  have haC : C ≠ a := by
    rcases ha with z | z
    · rw [z]; exact f1
    · exact fun e => f4 y a z e.symm
  refine ⟨m, hn.sameBut sb haC, fun h3 sb3 => ?_⟩
  exact ⟨_, H', I2.turned (t' := s2.toks) (fun b o hb e => (sb3.2 b hb).trans e) f0 f1 f3 f4 f5, q⟩
end
end Zk

namespace Zk
open PySem PySem.Spec PyProof.Rows L2

/-! ### errors as values, classes, tables of texts, gcd, lists backwards, two loops in one comprehension -/
section
variable {T : Tb} {n : Nat} {C : Calls} {c : Cz} {Wx : WX} {X : Cx}
theorem s_excv {j : Nat} : SE T n C (.excv j) := fun c Wx X x g h => by
  unfold chkE at h
  split at h
  · simp only [Bool.and_eq_true, decide_eq_true_eq] at h
    obtain ⟨⟨h1, h2⟩, h3⟩ := h
    rw [g.exs, List.getElem?_map] at h1
    cases hq : T.exs[j]? with
    | none => rw [hq] at h1; cases h1
    | some q =>
      rw [hq] at h1
      simp only [Option.map_some, Option.some.injEq] at h1
      subst h1
      obtain ⟨x, a⟩ := q
      obtain ⟨gm, ex, kp, sb, ty⟩ := g.tb.ex j _ _ hq
      refine pe_imp (pe_exc1 PySem.F.excBase_ValueError ex gm kp (g.gl h2) pe_str (by rfl) (plB_1 h3)) fun σ H Q' q => ?_
      obtain ⟨ω, env, st, Q, Ex, E, S, ⟨hj, hm⟩, k, kx⟩ := q
      intro a' ha'
      obtain ⟨S', t⟩ := S.laid ha' (ExO (.ref a) a')
      have hA : T.G.e j = a := by show T.exA j = a; unfold Tb.exA; rw [hq]; rfl
      rw [hA] at hm
      refine k _ _ _ _ _ t S' (.exc (.inl upd_same) fun h hh => ?_) hm
      obtain ⟨oe, vs, h1, h2, h3, _⟩ := hh
      exact ⟨oe, vs, h1, h2, h3⟩
  · cases h
/-- a value's type: of a tracked thing, or of an error -/
def TyK (K : PySem.W.Frag) (H : Hp) (v : V) (t : Value) : Prop := TyX K H v t ∨ ∃ a D φ, v = .ref a ∧ t = .ref D ∧ Rd H a (.ext φ) ∧ (∀ h, φ h → ExH D a h) ∧ ExcC K D
theorem kit2 {pins : List (Addr × Obj)} {σ : L2.St} {H : Hp} {s : Shared} {x : V} {u t : Value} (I : Inv X pins σ H s) (rx : RelV x u) (ty : TyK X.K H x t) : ∃ P : Heap → Prop, PySem.W.KitX X.K u t P ∧ P s.heap ∧ u ≠ .builtin "__main__.__loader__#opaque" := by
  rcases ty with ty | ⟨a, D, φ, rfl, rfl, hr, hφ, xc⟩
  · exact kit_of I rx ty
  · cases (show u = Value.ref a from rx)
    obtain ⟨oe, J⟩ := exInst I hr hφ
    exact ⟨_, PySem.W.handS_kitx_exc xc.hg xc.hk xc.hs xc.hd xc.ha xc.hn xc.ht xc.hm, J, fun z => nomatch z⟩
def rIsi2 (K : PySem.W.Frag) : List V → Hp → VK → Prop := fun xs H Q => ∃ (x c : V) (t : Value) (us : List Value) (b : Bool), xs = [x, c] ∧ TyK K H x t ∧ Q (.bl b) H ∧
  ((∃ u, us = [u] ∧ ClsV c u ∧ PySem.W.kitOne K t u = some b) ∨ ∃ tp cs, c = .ref tp ∧ H tp = some (.tup cs) ∧ Paired ClsV cs us ∧ PySem.W.kitAny K t us = some b)
theorem call_isi2 : CallR X (.builtin "isinstance") (rIsi2 X.K) := by
  intro pins s σ H xs us Q I r h
  obtain ⟨x, c, t, ws, b, rfl, ty, q, h⟩ := h
  obtain ⟨u1, u2, rfl, r1, r2⟩ := vals2 r
  obtain ⟨P, Z, p, hx⟩ := kit2 I r1 ty
  rcases h with ⟨u, rfl, k, e⟩ | ⟨tp, cs, rfl, hT, k, e⟩
  · have e2 := k.eq r2
    subst e2
    exact PySem.W.kia_one Z I.kIn p e hx fun tk => ⟨.bl b, H, I.tok tk, rfl, q⟩
  · cases (show u2 = Value.ref tp from r2)
    obtain ⟨_, its, rv, o, h1, h2, n, h3⟩ := (show ObjOk X.prog X.w H s.heap tp (.tup cs) from I.hok tp _ hT)
    have e3 := ClsV.all k rv
    subst e3
    obtain ⟨oc, od, dt, sl⟩ := o
    simp only at h2 h3
    subst h2 h3
    exact PySem.W.kia_tup Z I.kIn p h1 e hx fun tk => ⟨.bl b, H, I.tok tk, rfl, q⟩
/-- what stands for a class -/
def CnV (T : Tb) (q : Cn) (v : V) (u : Value) : Prop := match q with
  | .ty t => v = .ty t.name ∧ u = .type t.name
  | .own j => ∃ r, T.cls[j]? = some r ∧ v = .ref r.at_ ∧ u = .ref r.at_
  | .err j => ∃ b cs, T.kit = true ∧ T.exs[j]? = some b ∧ T.em[j]? = some cs ∧ v = .ref b.2 ∧ u = .ref b.2
theorem CnV.cls {q : Cn} {v : V} {u : Value} (h : CnV T q v u) : ClsV v u := by
  cases q with
  | ty t => obtain ⟨rfl, rfl⟩ := h; exact .ty _
  | own j => obtain ⟨r, _, rfl, rfl⟩ := h; exact .own _
  | err j => obtain ⟨b, cs, _, _, _, rfl, rfl⟩ := h; exact .own _
theorem ty_plain2 (t : Ty) : t.name ∈ plainTys := ty_plain t
theorem cn_ok (g : Good T n C c Wx X) {q : Cn} {x : Expr} (h : cnB c q x = true) : ∃ v u, PE X x (tC v) ∧ CnV T q v u := by
  cases q with
  | ty t =>
    cases x with
    | Name nm p =>
      simp only [cnB, Bool.and_eq_true, decide_eq_true_eq] at h
      obtain ⟨h1, h2⟩ := h
      subst h1
      obtain ⟨b1, b2, b3⟩ := ty_blt t
      exact ⟨_, _, pe_bltn (v := .ty t.name) (g.gl h2) (g.tb.bl _ b1) (ty_boot t) rfl b2 b3, rfl, rfl⟩
    | _ => simp [cnB] at h
  | own j =>
    cases x with
    | Name nm p =>
      simp only [cnB, Bool.and_eq_true] at h
      obtain ⟨⟨h1, h2⟩, h3⟩ := h
      obtain ⟨q, hq, hn, hA⟩ := Cz.has_ok g h1
      have hn := of_decide_eq_true hn
      subst hn
      exact ⟨_, _, pe_glob (v := .ref q.at_) (g.gl h2) (g.tb.cl j q hq).gm rfl (plB_1 h3), q, hq, rfl, rfl⟩
    | _ => simp [cnB] at h
  | err j =>
    cases x with
    | Name nm p =>
      simp only [cnB, Bool.and_eq_true, decide_eq_true_eq] at h
      obtain ⟨⟨⟨⟨h0, h1⟩, h2⟩, h3⟩, h4⟩ := h
      rw [g.kit] at h0
      rw [g.exs, List.getElem?_map] at h1
      cases hq : T.exs[j]? with
      | none => rw [hq] at h1; cases h1
      | some q =>
        rw [hq] at h1
        simp only [Option.map_some, Option.some.injEq] at h1
        subst h1
        obtain ⟨x, a⟩ := q
        rw [g.em] at h4
        cases he : T.em[j]? with
        | none => rw [he] at h4; cases h4
        | some cs => exact ⟨_, _, pe_glob (v := .ref a) (g.gl h2) (g.tb.ex j _ _ hq).1 rfl (plB_1 h3), (x, a), cs, h0, hq, he, rfl, rfl⟩
    | _ => simp [cnB] at h
inductive CnVs (T : Tb) : List Cn → List V → List Value → Prop
  | nil : CnVs T [] [] []
  | cons {q qs v vs u us} : CnV T q v u → CnVs T qs vs us → CnVs T (q :: qs) (v :: vs) (u :: us)
theorem CnVs.paired : ∀ {qs : List Cn} {vs : List V} {us : List Value}, CnVs T qs vs us → Paired ClsV vs us
  | _, _, _, .nil => .nil
  | _, _, _, .cons a b => .cons a.cls (CnVs.paired b)
theorem CnVs.len : ∀ {qs : List Cn} {vs : List V} {us : List Value}, CnVs T qs vs us → vs.length = qs.length
  | _, _, _, .nil => rfl
  | _, _, _, .cons a b => congrArg Nat.succ (CnVs.len b)
theorem cnB_star {q : Cn} {x : Expr} (h : cnB c q x = true) : notStar x = true := by
  cases q <;> cases x <;> first | rfl | (simp [cnB] at h)
theorem cns_ok (g : Good T n C c Wx X) : ∀ {qs : List Cn} {xs : List Expr}, cnsB c qs xs = true → ∃ vs us t, PA X xs t ∧ CnVs T qs vs us ∧ ∀ σ H (Q : List V → Hp → Prop), Q vs H → t σ H Q
  | [], [], _ => ⟨[], [], _, pa_nil, .nil, fun _ _ _ q => q⟩
  | [], _ :: _, h => by cases h
  | _ :: _, [], h => by cases h
  | q :: qs, x :: xs, h => by
    simp only [cnsB, Bool.and_eq_true] at h
    obtain ⟨v, u, P, cv⟩ := cn_ok g h.1
    obtain ⟨vs, us, t, Pa, cvs, ht⟩ := cns_ok g h.2
    exact ⟨v :: vs, u :: us, _, pa_cons P Pa (starEach_of (cnB_star h.1)), .cons cv cvs, fun σ H Q q => ht σ H _ q⟩
theorem kitNone {K : PySem.W.Frag} {t : Ty} : PySem.W.kitOne K (.type "NoneType") (.type t.name) = some false := kit_ty (kit_nt t)
/-- a value's classes, asked one by one -/
theorem isOf_ok (g : Good T n C c Wx X) {ω : Wd} {st : Sto} {H : Hp} (S : StR X.K ω st H) {w : W} {v : V} (r : Rel X.K ω w v) {f : Cn → Bool} (h : isOf T.G st w f) : ∃ t, TyK X.K H v t ∧ ∀ q y u, CnV T q y u → PySem.W.kitOne X.K t u = some (f q) := by
  rcases h with ⟨rfl, rfl⟩ | ⟨t', e, rfl⟩ | ⟨i, fs, rfl, hi, rfl⟩ | ⟨i, rfl, hi, rfl⟩
  · cases r
    refine ⟨.type "NoneType", .inl (.base .non), fun q y u hq => ?_⟩
    cases q with
    | ty t => obtain ⟨_, rfl⟩ := hq; exact kitNone
    | own j => obtain ⟨r, hr, _, rfl⟩ := hq; exact (g.tb.cl j r hr).ki _ (by decide +kernel)
    | err j => obtain ⟨b, cs, hkt, hb, _, _, rfl⟩ := hq; exact ((g.tb.xo j _ _ hkt hb).kt _ (by decide +kernel)).2
  · refine ⟨.type t'.name, .inl (tyX_of (tyOf_ok S r e)), fun q y u hq => ?_⟩
    cases q with
    | ty t => obtain ⟨_, rfl⟩ := hq; exact kit_ty (kit_tt t' t)
    | own j => obtain ⟨r, hr, _, rfl⟩ := hq; exact (g.tb.cl j r hr).ki _ (ty_plain t')
    | err j => obtain ⟨b, cs, hkt, hb, _, _, rfl⟩ := hq; exact ((g.tb.xo j _ _ hkt hb).kt _ (ty_plain t')).2
  · obtain ⟨q0, hq0, hA⟩ := clsAt (T := T) hi
    have hA' : T.G.A i = q0.at_ := hA
    rw [hA'] at r
    refine ⟨.ref q0.at_, .inl (tyXO S (g.tb.cl i q0 hq0) r), fun q y u hq => ?_⟩
    cases q with
    | ty t => obtain ⟨_, rfl⟩ := hq; exact (g.tb.cl i q0 hq0).kj _ (ty_plain t)
    | own j => obtain ⟨r, hr, _, rfl⟩ := hq; exact (g.tb.cl j r hr).kc i q0 hq0
    | err j => obtain ⟨b, cs, hkt, hb, _, _, rfl⟩ := hq; exact ((g.tb.xo j _ _ hkt hb).kc i q0 hq0).2.1
  · obtain ⟨x, a, hx, hA, xo⟩ := exAt g hi
    rw [hA] at r
    obtain ⟨p, φ, rfl, hr, hφ⟩ := excS S r
    refine ⟨.ref a, .inr ⟨p, a, φ, rfl, rfl, hr, hφ, xo.ex⟩, fun q y u hq => ?_⟩
    cases q with
    | ty t => obtain ⟨_, rfl⟩ := hq; exact (xo.kt _ (ty_plain t)).1
    | own j => obtain ⟨r, hr, _, rfl⟩ := hq; exact (xo.kc j r hr).1
    | err j =>
      obtain ⟨b, cs, hkt, hb, he, _, rfl⟩ := hq
      have := xo.kx j b cs hb he
      show _ = some (decide (i ∈ (T.em[j]?).getD []))
      rw [he]; exact this
theorem kitAny_ok {K : PySem.W.Frag} {t : Value} {f : Cn → Bool} (h : ∀ q y u, CnV T q y u → PySem.W.kitOne K t u = some (f q)) : ∀ {qs : List Cn} {vs : List V} {us : List Value}, CnVs T qs vs us → PySem.W.kitAny K t us = some (qs.any f)
  | _, _, _, .nil => rfl
  | _, _, _, .cons (q := q) a b => by
    rw [List.any_cons]
    exact kitAny_cons (h _ _ _ a) (fun e => by rw [e, Bool.false_or]; exact kitAny_ok h b) (fun e => by rw [e, Bool.true_or])
theorem s_isC {a : Ex} {cs : List Cn} (ha : SE T n C a) : SE T n C (.isC a cs) := fun c Wx X x g h => by
  unfold chkE at h
  split at h
  · rename_i f p y z pos
    simp only [Bool.and_eq_true, decide_eq_true_eq] at h
    obtain ⟨⟨⟨⟨⟨h1, h2⟩, h3⟩, h4⟩, h5⟩, h6⟩ := h
    subst h2
    -- the second argument
    have snd : notStar z = true ∧ ∃ te, PE X z te ∧ ∀ σ H (Q : VK), (∀ v H' us, (∀ p u, H p = some u → H' p = some u) → (∀ p, H p = none → H' p = none ∨ ∃ vs, H' p = some (.tup vs)) → ((∃ u, us = [u] ∧ CnVs T cs [v] us ∧ H' = H) ∨ ∃ tp vs, v = .ref tp ∧ H tp = none ∧ H' = upd H tp (.tup vs) ∧ CnVs T cs vs us) → Q v H') → te σ H Q := by
      unfold cnT at h5
      split at h5
      · rename_i xs _ _
        simp only [Bool.and_eq_true] at h5
        obtain ⟨vs, us, t, Pa, cvs, ht⟩ := cns_ok g h5.2
        refine ⟨rfl, _, pe_tup Pa, fun σ H Q k => ht σ H _ ⟨?_, fun tp htp => ?_⟩⟩
        · have := of_decide_eq_true h5.1; rw [cvs.len, sizeLine_eq]; omega
        · refine k _ _ us (fun p u e => by rw [upd_ne (fun z => by rw [z, htp] at e; cases e)]; exact e) (fun p e => ?_) (.inr ⟨tp, vs, rfl, htp, rfl, cvs⟩)
          by_cases hp : p = tp
          · subst hp; exact .inr ⟨vs, upd_same⟩
          · rw [upd_ne hp]; exact .inl e
      · rename_i q _ _
        obtain ⟨v, u, P, cv⟩ := cn_ok g h5
        exact ⟨cnB_star h5, _, P, fun σ H Q k => k v H [u] (fun _ _ e => e) (fun _ e => .inl e) (.inl ⟨u, rfl, .cons cv .nil, rfl⟩)⟩
      · cases h5
    obtain ⟨hz, te, Pz, hte⟩ := snd
    refine pe_imp (pe_callB call_isi2 (g.gl h3) (g.tb.bl _ (by decide +kernel)) boot_isinstance (pa_cons (ha c Wx X _ g h6) (pa_cons Pz pa_nil (starEach_of hz)) (starEach_of h4)) (by decide) (by decide) (starEach_of h4) (star_any (by simp [hz]))) fun σ H Q' z => ?_
    obtain ⟨ω, env, st, Q, Ex, E, S, hm, kq, kx⟩ := z
    refine TO.step E S hm kx fun ω1 x v st1 H1 t1 S1 E1 r1 ⟨f, hf, q1⟩ kx1 => ?_
    refine hte σ H1 _ fun y H2 us up _ hy => ?_
    rcases hy with ⟨u, rfl, cvs, rfl⟩ | ⟨tp, vs, rfl, htp, rfl, cvs⟩
    · obtain ⟨t, ty, hk⟩ := isOf_ok g S1 r1 hf
      cases cvs with
      | cons a b =>
        cases b
        exact ⟨v, y, t, [u], _, rfl, ty, (kq.on t1).at S1 (.bl _) q1, .inl ⟨u, rfl, a.cls, by rw [hk _ _ _ a, List.any_cons, List.any_nil, Bool.or_false]⟩⟩
    · obtain ⟨S2, t2⟩ := S1.laid htp (.tup vs)
      obtain ⟨t, ty, hk⟩ := isOf_ok g S2 (r1.up t2.le) hf
      exact ⟨v, .ref tp, t, us, _, rfl, ty, (kq.on (t1.trans t2)).at S2 (.bl _) q1, .inr ⟨tp, vs, rfl, upd_same, cvs.paired, kitAny_ok hk cvs⟩⟩
  · cases h
theorem s_gcd2 {a b : Ex} (ha : SE T n C a) (hb : SE T n C b) : SE T n C (.gcd2 a b) := fun c Wx X x g h => by
  unfold chkE at h
  split at h
  · simp only [Bool.and_eq_true, decide_eq_true_eq] at h
    obtain ⟨⟨⟨⟨⟨⟨h1, h2⟩, h3⟩, h4⟩, h5⟩, h6⟩, h7⟩ := h
    subst h2
    refine pe_imp (pe_callBfun cr_gcd (g.gl h3) (g.tb.gc (by rw [← g.gcd]; exact h1)) (pa_cons (ha c Wx X _ g h6) (pa_cons (hb c Wx X _ g h7) pa_nil (starEach_of h5)) (starEach_of h4)) (by decide) (starEach_of h4) (star_any (by simp [h5]))) fun σ H Q' z => ?_
    obtain ⟨ω, env, st, Q, Ex, E, S, hm, kq, kx⟩ := z
    refine TO.step E S hm kx fun ω1 x v st1 H1 t1 S1 E1 r1 q1 kx1 => ?_
    refine TO.step E1 S1 q1 kx1 fun ω2 y u st2 H2 t2 S2 E2 r2 q2 kx2 => ?_
    obtain ⟨i, j, rfl, rfl, q⟩ := q2
    cases r1.int_inv
    cases r2.int_inv
    exact ⟨i, j, rfl, (kq.on (t1.trans t2)).at S2 (.int _) q⟩
  · cases h
theorem s_rvL {m : Bool} {a : Ex} (ha : SE T n C a) : SE T n C (.rvL m a) := fun c Wx X x g h => by
  unfold chkE at h
  split at h
  · refine pe_imp (pe_revL (ha c Wx X _ g h)) fun σ H Q' z => ?_
    obtain ⟨ω, env, st, Q, Ex, E, S, hm, kq, kx⟩ := z
    refine TO.step E S hm kx fun ω1 x v st1 H1 t1 S1 E1 r1 ⟨l, e, q1⟩ kx1 => ?_
    obtain ⟨a, vs, rfl, hh, rl⟩ := ls_ok S1 r1 e
    exact ⟨a, vs, rfl, .inl hh, ((kq.on t1).newL S1 rl.reverse q1).2⟩
  · cases h
theorem dctC_ok {X : Cx} {pos : Pos} : ∀ {l : List (Str × Str)} {ks : List (Option Expr)} {vs : List Expr}, dctC l ks vs = true → ∃ trs, PPs X pos ks vs trs ∧ ks.all (·.isSome) = true ∧ ks.length = vs.length ∧ ks.length = l.length ∧
    ∀ σ H (Q : List (V × V) → Hp → Prop), Q (l.map fun p => (V.str p.1, V.str p.2)) H → tPairs trs σ H Q
  | [], ks, vs, h => by
    cases ks <;> cases vs <;> simp only [dctC, Bool.false_eq_true] at h
    exact ⟨[], pps_nil, rfl, rfl, rfl, fun σ H Q q => q⟩
  | (k, i) :: l, ks, vs, h => by
    unfold dctC at h
    split at h
    · rename_i he; cases he
    · rename_i k1 i1 l1 k' _ _ ks1 v _ _ vs1 he
      cases he
      simp only [Bool.and_eq_true, decide_eq_true_eq] at h
      obtain ⟨⟨h1, h2⟩, h3⟩ := h
      subst h1 h2
      obtain ⟨trs, P, a1, a2, a3, q⟩ := dctC_ok (X := X) (pos := pos) h3
      exact ⟨_, pps_cons pe_str pe_str P, by simpa using a1, by simpa using a2, by simpa using a3, fun σ H Q qq => q σ H _ qq⟩
    · cases h
theorem dctS_rel {K : PySem.W.Frag} {ω : Wd} : ∀ (l : List (Str × Str)) {ws : List (Key × W)} {vs : List (Key × V)}, (ws.map (·.1)).Nodup → RelK K ω ws vs →
    RelK K ω (l.foldl (fun acc p => put acc (Sum.inr p.1 : Key) (W.str p.2)) ws) (mergeK vs (l.map fun p => ((Sum.inr p.1 : Key), V.str p.2))) ∧ ((l.foldl (fun acc p => put acc (Sum.inr p.1 : Key) (W.str p.2)) ws).map (·.1)).Nodup
  | [], _, _, nd, r => ⟨r, nd⟩
  | p :: l, ws, vs, nd, r => dctS_rel l (put_keys ws _ _ nd) (RelK.put (.str p.2) r)
theorem s_dctS {m : Bool} {l : List (Str × Str)} : SE T n C (.dctS m l) := fun c Wx X x g h => by
  unfold chkE at h
  split at h
  · rename_i ks vs pos
    simp only [Bool.and_eq_true, decide_eq_true_eq, Bool.not_eq_true'] at h
    obtain ⟨⟨h1, h2⟩, h3⟩ := h
    obtain ⟨trs, P, a1, a2, a3, q⟩ := dctC_ok (X := X) (pos := pos) h3
    refine pe_imp (pe_lk (pe_disp P a1 a2 (fun e => ?_) (by omega))) fun σ H Q' z p hp => ?_
    · rw [e] at a3
      cases l with
      | nil => cases h1
      | cons => cases a3
    obtain ⟨ω, env, st, Q, Ex, E, S, hm, kq, kx⟩ := z
    refine q σ _ _ ⟨upd_same, l.map fun p => ((Sum.inr p.1 : Key), V.str p.2), ?_, by simpa using h2, ?_⟩
    · rw [List.map_map]; rfl
    · have hdD := S.dfree hp
      have haD : ¬ Alive ω st p := fun z => by obtain ⟨o, e⟩ := S.alive_some z; rw [hp] at e; cases e
      obtain ⟨rr, nd⟩ := dctS_rel (K := X.K) (ω := ω) l (ws := []) (vs := []) (by simp) .nil
      exact KQ.takeD kq ((Stp.refl.outside hp).outside hp) ((S.outside hdD haD).outside hdD haD) hp upd_same hdD haD nd rr hm
  · cases h
theorem look_memS {k : Str} {i : Str} : ∀ {l : List (Str × Str)}, l.lookup k = some i → (k, i) ∈ l
  | [], h => by cases h
  | p :: l, h => by
    obtain ⟨k', i'⟩ := p
    rw [List.lookup_cons] at h
    by_cases hb : (k == k') = true
    · simp only [hb] at h
      cases h
      rw [beq_iff_eq.mp hb]
      exact List.mem_cons_self ..
    · simp only [Bool.not_eq_true] at hb
      simp only [hb] at h
      exact List.mem_cons_of_mem _ (look_memS h)
theorem s_gdxS {t : Nat} {e : Ex} (he : SE T n C e) : SE T n C (.gdxS t e) := fun c Wx X x g h => by
  unfold chkE at h
  split at h
  · simp only [Bool.and_eq_true, decide_eq_true_eq] at h
    obtain ⟨⟨⟨⟨h1, h2⟩, h3⟩, h4⟩, h5⟩ := h
    rw [g.tss, List.getElem?_map] at h1
    cases hq : T.tss[t]? with
    | none => rw [hq] at h1; cases h1
    | some q =>
      rw [hq] at h1
      simp only [Option.map_some, Option.some.injEq] at h1
      subst h1
      have k := g.tb.ts t q hq
      obtain ⟨es, m, D⟩ := k.kd
      have hi : IxR X (fun x y H Q' => ∃ kk i, x = .ref q.at_ ∧ y = .str kk ∧ q.kvs.lookup kk = some i ∧ Q' (.str i) H) := by
        intro value slice pins s σ H x y v u Q' I rx ry ⟨kk, i, ex, ey, hl, q'⟩ hs
        subst ex ey
        have ev := relV_ref rx
        subst ev
        obtain ⟨tk, rfl⟩ := (show ∃ t, u = Value.str kk t from ry)
        obtain ⟨u0, e0, r0⟩ := k.vl (kk, i) (look_memS hl)
        exact PyProof.Rows.subscriptTail_builtinR (x := u0) (kd_type D I) PySem.F.slot_dict_getitem.lookup (wpAny_getItem_of (PySem.strKind_is X.prog X.w kk tk) (PySem.W.mapOf_K (prog := X.prog) I.kIn D.at_ D.lit) (PySem.W.find_K D.at_ e0) ⟨rfl, .str i, H, I.tok _, r0, q'⟩) hs
      refine pe_imp (pe_ix hi (pe_glob (v := .ref q.at_) (g.gl h2) k.gm rfl (plB_1 h3)) (he c Wx X _ g h5) (plainIx_of h4)) fun σ H Q' z => ?_
      obtain ⟨ω, env, st, Q, Ex, E, S, hm, kq, kx⟩ := z
      show TO T X.K Wx _ σ H _
      refine TO.step E S hm kx fun ω1 x v st1 H1 t1 S1 E1 r1 q1 kx1 => ?_
      obtain ⟨kk, i, rfl, hl, q1⟩ := q1
      cases r1.str_inv
      have hl' : (((T.tss[t]?).map (·.kvs)).getD []).lookup kk = some i := hl
      rw [hq] at hl'
      exact ⟨kk, i, rfl, rfl, hl', (kq.on t1).at S1 (.str _) q1⟩
  · cases h
/-! two loops -/
def l2F (t : Tg) (vs : List Nat) (env : Env') (mc : Env' → Sto → XPo → Po → Prop) : W → Sto → (Option Env' → Sto → Prop) → Prop := fun x s K =>
  tgP t x (wipeE env vs) fun env1 => mc env1 s noX fun cw s1 => (cw = .tup [] ∧ K (some env1) s1) ∨ ∃ x b, cw = .tup [x] ∧ truth s1 x = some b ∧ ((b = true → K (some env1) s1) ∧ (b = false → K none s1))
def l2H (mi1 : Env' → Sto → XPo → Po → Prop) : Env' → Sto → (List W → (Sto → Prop) → Sto → Prop) → Prop := fun env1 s K => mi1 env1 s noX fun w s1 => walkP w s1 fun items grd s2 => K items grd s2
def l2G (t1 : Tg) (mc1 me : Env' → Sto → XPo → Po → Prop) : Env' → W → Sto → (Option W → Sto → Prop) → Prop := fun env1 x s K => tgP t1 x (wipeE env1 t1.slots) fun env2 => mc1 env2 s noX fun cw s1 =>
  (cw = .tup [] ∧ me env2 s1 noX fun y s2 => K (some y) s2) ∨ ∃ x b, cw = .tup [x] ∧ truth s1 x = some b ∧ ((b = true → me env2 s1 noX fun y s2 => K (some y) s2) ∧ (b = false → K none s1))
theorem lc2_imp {m : Bool} {own : List (Str × Nat)} {t t1 : Tg} {it cs it1 cs1 e : Ex} (slots : ∀ j, j ∉ own.map (·.2) → j ∉ t.slots) (hv : ∀ i ∈ t1.slots, i ∈ own.map (·.2)) {σ : L2.St} {H : Hp} {Q' : VK} (q : TO T X.K Wx (wpE T.G C (.lc2 m own t it cs t1 it1 cs1 e)) σ H Q') :
    tLc2 (TIo T X.K Wx (wpE T.G C it)) (TGo X.K t) (TTs T X.K WF (wpE T.G C cs)) (TIo T X.K WF (wpE T.G C it1)) (TGo X.K t1) (TTs T X.K WF (wpE T.G C cs1)) (TO T X.K WF (wpE T.G C e)) (own.map (·.2)) t1.slots σ H Q' := by
    obtain ⟨ω, env, st, Q, Ex, E, S, hm, k, kx⟩ := q
    refine ⟨ω, env, st, Ex, _, E, S, hm, fun ω1 items grd st1 H1 J t01 S1 it ⟨hz, hq⟩ D hD => ?_, kx⟩
    have E1 := E.up t01.le
    have hdD := S1.dfree hD
    have haD : ¬ Alive ω1 st1 D := fun z => by obtain ⟨o, e⟩ := S1.alive_some z; rw [hD] at e; cases e
    refine ⟨fun i mm H => mm = items.length - i ∧ i ≤ items.length ∧ ∃ ω2 st2 accW accV, Stp ω1 st1 H1 ω2 st2 H ∧ StR X.K ω2 st2 H ∧ H D = some (.lst accV) ∧ ω2.D D = none ∧ ¬ Alive ω2 st2 D ∧ RelL X.K ω2 accW accV ∧
        lc2P (l2F t (List.map (fun p : Str × Nat => p.2) own) env (wpE T.G C cs)) (l2H (wpE T.G C it1)) (l2G t1 (wpE T.G C cs1) (wpE T.G C e)) grd (items.drop i) accW st2 fun ws st3 => newL m ws st3 Q,
      ⟨_, rfl, Nat.zero_le _, ω1, st1, [], [], Stp.refl.outside hD, S1.outside hdD haD, upd_same, hdD, haD, .nil, hq⟩, ?_⟩
    rintro i mm H2 ⟨rfl, hil, ω2, st2, accW, accV, t2, S2, hD2, hd2, ha2, ra, hq2⟩
    have hgrd : grd st2 := by
      cases e : items.drop i with
      | nil => rw [e] at hq2; exact hq2.1
      | cons => rw [e] at hq2; exact hq2.1
    obtain ⟨itg, its⟩ := it ω2 st2 H2 t2.le S2 hgrd i
    by_cases hlt : i < items.length
    · refine .inr ⟨(itg hlt).1, fun H' => (items.length - (i + 1)) = items.length - (i + 1) ∧ i + 1 ≤ items.length ∧ ∃ ω2 st2 accW accV, Stp ω1 st1 H1 ω2 st2 H' ∧ StR X.K ω2 st2 H' ∧ H' D = some (.lst accV) ∧ ω2.D D = none ∧ ¬ Alive ω2 st2 D ∧ RelL X.K ω2 accW accV ∧
        lc2P (l2F t (List.map (fun p : Str × Nat => p.2) own) env (wpE T.G C cs)) (l2H (wpE T.G C it1)) (l2G t1 (wpE T.G C cs1) (wpE T.G C e)) grd (items.drop (i + 1)) accW st2 fun ws st3 => newL m ws st3 Q, fun H' h => ⟨_, by omega, h⟩, fun x H'' y => ?_⟩
      obtain ⟨ω2', t2', S2', w, hw, rw'⟩ := (itg hlt).2 x H'' y
      obtain ⟨hD2', ha2'⟩ := t2'.keep D _ hD2 ha2
      have hd2' := t2'.kd D _ hD2 ha2 hd2
      have ra' := ra.up t2'.le
      have t2n := t2.trans t2'
      have hdrop : items.drop i = w :: items.drop (i + 1) := by
        rw [List.drop_eq_getElem_cons hlt]
        rw [List.getElem?_eq_getElem hlt] at hw
        cases hw; rfl
      rw [hdrop] at hq2
      replace hq2 := hq2.2
      obtain ⟨Kn, hKn⟩ : ∃ Kn : Option Env' → Sto → Prop, Kn = fun o st1 => match o with
          | some env1 => l2H (wpE T.G C it1) env1 st1 fun items1 g1 st2 => accW.length + items1.length ≤ sizeLine ∧ lcP (l2G t1 (wpE T.G C cs1) (wpE T.G C e) env1) g1 items1 accW st2 fun acc' st3 => lc2P (l2F t (List.map (fun p : Str × Nat => p.2) own) env (wpE T.G C cs)) (l2H (wpE T.G C it1)) (l2G t1 (wpE T.G C cs1) (wpE T.G C e)) grd (items.drop (i + 1)) acc' st3 fun ws st3 => newL m ws st3 Q
          | none => lc2P (l2F t (List.map (fun p : Str × Nat => p.2) own) env (wpE T.G C cs)) (l2H (wpE T.G C it1)) (l2G t1 (wpE T.G C cs1) (wpE T.G C e)) grd (items.drop (i + 1)) accW st1 fun ws st3 => newL m ws st3 Q := ⟨_, rfl⟩
      have hq3 : l2F t (List.map (fun p : Str × Nat => p.2) own) env (wpE T.G C cs) w st2 Kn := by rw [hKn]; exact hq2
      clear hq2
      -- the target
      have hq3' : tgP t w (wipeE env (List.map (fun p : Str × Nat => p.2) own)) fun env1 => wpE T.G C cs env1 st2 noX fun cw s1 => (cw = .tup [] ∧ Kn (some env1) s1) ∨ ∃ x b, cw = .tup [x] ∧ truth s1 x = some b ∧ ((b = true → Kn (some env1) s1) ∧ (b = false → Kn none s1)) := hq3
      refine ⟨ω2', wipeE env (List.map (fun p : Str × Nat => p.2) own), st2, w, _, (E1.up t2n.le).wipe _, S2', rw', hq3', fun env1 σ1 E2 ho hsl q1 => ⟨wipe_eq (by rw [hsl, wipe_length]) fun j hj => ho j (slots j hj), ?_⟩⟩
      -- the test
      refine ⟨ω2', env1, st2, noX, fun b s1 => (b = true → Kn (some env1) s1) ∧ (b = false → Kn none s1), E2, S2', ?_, ?_, fun _ _ _ _ _ _ _ z => False.elim z⟩
      · refine Eq.mp (congrArg (wpE T.G C cs env1 st2 noX) ?_) q1
        funext cw s1
        refine propext ⟨fun h => ?_, fun h => ?_⟩
        · rcases h with ⟨e, h⟩ | ⟨x, b, e1, e2, h⟩
          · exact .inl ⟨e, fun _ => h, fun z => by cases z⟩
          · exact .inr ⟨x, b, e1, e2, h⟩
        · rcases h with ⟨e, h⟩ | ⟨x, b, e1, e2, h⟩
          · exact .inl ⟨e, h.1 rfl⟩
          · exact .inr ⟨x, b, e1, e2, h⟩
      · intro ω3 b st3 H3 t3 S3 ⟨k1, k2⟩
        obtain ⟨hD3, ha3⟩ := t3.keep D _ hD2' ha2'
        have hd3 := t3.kd D _ hD2' ha2' hd2'
        cases b with
        | false =>
          rw [if_neg Bool.false_ne_true]
          have k2 := k2 rfl
          rw [hKn] at k2
          exact ⟨rfl, hlt, ω3, st3, accW, accV, t2n.trans t3, S3, hD3, hd3, ha3, ra'.up t3.le, k2⟩
        | true =>
          rw [if_pos rfl]
          have k1 := k1 rfl
          rw [hKn] at k1
          refine ⟨ω3, env1, st3, noX, _, E2.up t3.le, S3, k1, fun ω4 items1 g1 st4 H4 J1 t4 S4 it1' ⟨hz1, hq4⟩ => ?_, fun _ _ _ _ _ _ _ z => False.elim z⟩
          obtain ⟨hD4, ha4⟩ := t4.keep D _ hD3 ha3
          have hd4 := t4.kd D _ hD3 ha3 hd3
          have E4 : EnvR X.K ω4 env1 σ1 := (E2.up t3.le).up t4.le
          refine ⟨fun j kk H => kk = items1.length - j ∧ j ≤ items1.length ∧ ∃ ω5 st5 accW' accV', ω4.le ω5 ∧ StR X.K ω5 st5 H ∧ H D = some (.lst accV') ∧ ω5.D D = none ∧ ¬ Alive ω5 st5 D ∧ RelL X.K ω5 accW' accV' ∧ accV'.length ≤ accW.length + j ∧ Stp ω1 st1 H1 ω5 st5 H ∧
              lcP (l2G t1 (wpE T.G C cs1) (wpE T.G C e) env1) g1 (items1.drop j) accW' st5 fun acc' st3 => lc2P (l2F t (List.map (fun p : Str × Nat => p.2) own) env (wpE T.G C cs)) (l2H (wpE T.G C it1)) (l2G t1 (wpE T.G C cs1) (wpE T.G C e)) grd (items.drop (i + 1)) acc' st3 fun ws st3 => newL m ws st3 Q,
            ⟨_, rfl, Nat.zero_le _, ω4, st4, accW, accV, .refl _, S4, hD4, hd4, ha4, (ra'.up t3.le).up t4.le, by rw [ra.length]; omega, (t2n.trans t3).trans t4, hq4⟩, ?_⟩
          rintro j kk H5 ⟨rfl, hjl, ω5, st5, accW', accV', t5, S5, hD5, hd5, ha5, ra5, hal, t15, hq5⟩
          have hg1 : g1 st5 := by
            cases e : items1.drop j with
            | nil => rw [e] at hq5; exact hq5.1
            | cons => rw [e] at hq5; exact hq5.1
          obtain ⟨itg1, its1⟩ := it1' ω5 st5 H5 t5 S5 hg1 j
          by_cases hlt1 : j < items1.length
          · refine .inr ⟨(itg1 hlt1).1, fun H' => (items1.length - (j + 1)) = items1.length - (j + 1) ∧ j + 1 ≤ items1.length ∧ ∃ ω5 st5 accW' accV', ω4.le ω5 ∧ StR X.K ω5 st5 H' ∧ H' D = some (.lst accV') ∧ ω5.D D = none ∧ ¬ Alive ω5 st5 D ∧ RelL X.K ω5 accW' accV' ∧ accV'.length ≤ accW.length + (j + 1) ∧ Stp ω1 st1 H1 ω5 st5 H' ∧
              lcP (l2G t1 (wpE T.G C cs1) (wpE T.G C e) env1) g1 (items1.drop (j + 1)) accW' st5 fun acc' st3 => lc2P (l2F t (List.map (fun p : Str × Nat => p.2) own) env (wpE T.G C cs)) (l2H (wpE T.G C it1)) (l2G t1 (wpE T.G C cs1) (wpE T.G C e)) grd (items.drop (i + 1)) acc' st3 fun ws st3 => newL m ws st3 Q, fun H' h => ⟨_, by omega, h⟩, fun x' H6 y' => ?_⟩
            obtain ⟨ω6, t6, S6, w1, hw1, rw1⟩ := (itg1 hlt1).2 x' H6 y'
            obtain ⟨hD6, ha6⟩ := t6.keep D _ hD5 ha5
            have hd6 := t6.kd D _ hD5 ha5 hd5
            have hdrop1 : items1.drop j = w1 :: items1.drop (j + 1) := by
              rw [List.drop_eq_getElem_cons hlt1]
              rw [List.getElem?_eq_getElem hlt1] at hw1
              cases hw1; rfl
            rw [hdrop1] at hq5
            replace hq5 := hq5.2
            obtain ⟨Kq, hKq⟩ : ∃ Kq : List W → Sto → Prop, Kq = fun acc' st3 => lc2P (l2F t (List.map (fun p : Str × Nat => p.2) own) env (wpE T.G C cs)) (l2H (wpE T.G C it1)) (l2G t1 (wpE T.G C cs1) (wpE T.G C e)) grd (items.drop (i + 1)) acc' st3 fun ws st3 => newL m ws st3 Q := ⟨_, rfl⟩
            rw [← hKq] at hq5 ⊢
            have hq6 : tgP t1 w1 (wipeE env1 t1.slots) fun env2 => wpE T.G C cs1 env2 st5 noX fun cw s1 => (cw = .tup [] ∧ wpE T.G C e env2 s1 noX fun y s2 => lcP (l2G t1 (wpE T.G C cs1) (wpE T.G C e) env1) g1 (items1.drop (j + 1)) (accW' ++ [y]) s2 Kq) ∨
                ∃ x b, cw = .tup [x] ∧ truth s1 x = some b ∧ ((b = true → wpE T.G C e env2 s1 noX fun y s2 => lcP (l2G t1 (wpE T.G C cs1) (wpE T.G C e) env1) g1 (items1.drop (j + 1)) (accW' ++ [y]) s2 Kq) ∧ (b = false → lcP (l2G t1 (wpE T.G C cs1) (wpE T.G C e) env1) g1 (items1.drop (j + 1)) accW' s1 Kq)) := hq5
            refine ⟨ω6, wipeE env1 t1.slots, st5, w1, _, ((E4.up t5).up t6.le).wipe _, S6, rw1, hq6, fun env2 σ2 E5 ho2 hsl2 q2 => ⟨wipe_eq (by rw [hsl2, wipe_length]) fun j hj => ho2 j hj, ?_⟩⟩
            refine ⟨ω6, env2, st5, noX, fun b s1 => (b = true → wpE T.G C e env2 s1 noX fun y s2 => lcP (l2G t1 (wpE T.G C cs1) (wpE T.G C e) env1) g1 (items1.drop (j + 1)) (accW' ++ [y]) s2 Kq) ∧ (b = false → lcP (l2G t1 (wpE T.G C cs1) (wpE T.G C e) env1) g1 (items1.drop (j + 1)) accW' s1 Kq), E5, S6, ?_, ?_, fun _ _ _ _ _ _ _ z => False.elim z⟩
            · refine Eq.mp (congrArg (wpE T.G C cs1 env2 st5 noX) ?_) q2
              funext cw s1
              refine propext ⟨fun h => ?_, fun h => ?_⟩
              · rcases h with ⟨e, h⟩ | ⟨x, b, e1, e2, h⟩
                · exact .inl ⟨e, fun _ => h, fun z => by cases z⟩
                · exact .inr ⟨x, b, e1, e2, h⟩
              · rcases h with ⟨e, h⟩ | ⟨x, b, e1, e2, h⟩
                · exact .inl ⟨e, h.1 rfl⟩
                · exact .inr ⟨x, b, e1, e2, h⟩
            · intro ω7 b7 st7 H7 t7 S7 ⟨n1, n2⟩
              obtain ⟨hD7, ha7⟩ := t7.keep D _ hD6 ha6
              have hd7 := t7.kd D _ hD6 ha6 hd6
              have t17 := (t15.trans t6).trans t7
              cases b7 with
              | false =>
                rw [if_neg Bool.false_ne_true]
                exact ⟨rfl, hlt1, ω7, st7, accW', accV', (t5.trans t6.le).trans t7.le, S7, hD7, hd7, ha7, (ra5.up t6.le).up t7.le, by omega, t17, n2 rfl⟩
              | true =>
                rw [if_pos rfl]
                refine ⟨ω7, env2, st7, _, noX, E5.up t7.le, S7, n1 rfl, fun ω8 z v st8 H8 t8 S8 r8 q8 => ?_, fun _ _ _ _ _ _ _ z => False.elim z⟩
                obtain ⟨hD8, ha8⟩ := t8.keep D _ hD7 ha7
                have hd8 := t8.kd D _ hD7 ha7 hd7
                exact ⟨accV', hD8, by omega, rfl, hlt1, ω8, st8, accW' ++ [z], accV' ++ [v], ((t5.trans t6.le).trans t7.le).trans t8.le, S8.outside hd8 ha8, upd_same, hd8, ha8, (((ra5.up t6.le).up t7.le).up t8.le).append (.cons r8 .nil), by simp; omega, (t17.trans t8).outside hD, q8⟩
          · have hj : j = items1.length := by omega
            subst hj
            rw [List.drop_length] at hq5
            exact .inl ⟨its1 (Nat.le_refl _), rfl, hlt, ω5, st5, accW', accV', t15, S5, hD5, hd5, ha5, ra5, hq5.2⟩
    · have hi : i = items.length := by omega
      subst hi
      rw [List.drop_length] at hq2
      exact .inl ⟨its (Nat.le_refl _), KQ.take (k.on t01) t2 S2 hD hD2 hd2 ha2 ra hq2.2⟩
theorem s_lc2 {m : Bool} {own : List (Str × Nat)} {t t1 : Tg} {it cs it1 cs1 e : Ex} (hi : SI T n C it) (hcs : SC T n C cs) (hi1 : SI T n C it1) (hcs1 : SC T n C cs1) (he : SE T n C e) : SE T n C (.lc2 m own t it cs t1 it1 cs1 e) := fun c Wx X x g h => by
  unfold chkE at h
  split at h
  · rename_i elt tg ix ifs tg1 ix1 ifs1 scope pos
    simp only [Bool.and_eq_true] at h
    obtain ⟨⟨⟨⟨⟨⟨⟨⟨⟨⟨⟨⟨⟨h1, h2⟩, h2'⟩, h3⟩, h3'⟩, h4, h4t⟩, h5, h5t⟩, h6⟩, h7⟩, h8⟩, h9⟩, h10⟩, h11⟩, h12⟩ := h
    have hb := h3
    simp only [blkB, Bool.and_eq_true, List.all_eq_true] at hb
    obtain ⟨hb1, hb2⟩ := hb
    have slots : ∀ j, j ∉ own.map (·.2) → j ∉ t.slots := fun j hj hm => hj (by have := hb2 j hm; simpa using this)
    have hv : ∀ i ∈ t1.slots, i ∈ own.map (·.2) := fun i hm => by
      have := List.all_eq_true.mp h3' i hm
      simpa using this
    have P : PE X (.ListComp elt [⟨tg, ix, ifs, 0⟩, ⟨tg1, ix1, ifs1, 0⟩] scope pos) (tLc2 (TIo T X.K Wx (wpE T.G C it)) (TGo X.K t) (TTs T X.K WF (wpE T.G C cs)) (TIo T X.K WF (wpE T.G C it1)) (TGo X.K t1) (TTs T X.K WF (wpE T.G C cs1)) (TO T X.K WF (wpE T.G C e)) (own.map (·.2)) t1.slots) := pe_lc2 (pos := pos) (vs1 := t1.slots) (g.calm h1) (by rw [g.N]; exact g.nd) (hi c Wx X tg ix g h1 h4t h6) (blkOk_by (by rw [g.N, g.sc]; exact hb1)) hv (fun s H D cl fp => pg_of (g.blk scope s H D cl fp) (g.calm h1) h4)
      (fun s H D cl fp => hcs _ WF _ _ (g.blk scope s H D cl fp) h9 h8) (fun s H D cl fp => hi1 _ WF _ _ _ (g.blk scope s H D cl fp) h1 h5t h7) (fun s H D cl fp => pg_of (g.blk scope s H D cl fp) (g.calm h1) h5)
      (fun s H D cl fp => hcs1 _ WF _ _ (g.blk scope s H D cl fp) h11 h10) (fun s H D cl fp => he _ WF _ _ (g.blk scope s H D cl fp) h12) (fun y => fold_of h2 y) (fun env y => fold_of h2' y)
    exact pe_imp P fun σ H Q' q => lc2_imp slots hv q
  · cases h
end
/-! ### an own object in a list of one -/
section
open PySem.SeqAt AutoSeq1 MeetsSeq MeetsSeq2 MeetsSeq3 SeqRoads2
section
variable {prog : Program} {w : World}
def Lst1 (s : Shared) (l : Addr) (y : Value) : Prop := ∃ n dd sl, s.heap.get? l = some { cls := .type "list", dict := dd, data := .seq #[y] n, slots := sl }
theorem cont1 (l : Addr) (y x : Value) : MeetsIn prog w (Builtin.«list.__contains__.loop» ⟨[.ref l, x, rawInt ((1 : Nat) : Int)], []⟩)
    (fun A R s => Lst1 s l y ∧ R (.ok (.ret (.bool false))) s) := by
  intro A R s h
  obtain ⟨hp, g, d, tk, os⟩ := s; obtain ⟨⟨n, dd, sl, hl⟩, h⟩ := h
  wp_walk using wpAny_loadPart' hl
  exact h
theorem cont0 (l : Addr) (y x : Value) (i : Nat) (i0 : i = 0) (items : Array Value) (hit : items = #[y]) : MeetsIn prog w (Builtin.«list.__contains__.loop» ⟨[.ref l, x, rawInt (i : Int)], []⟩)
    (fun A R s => Lst1 s l y ∧ wpAny (model prog w) A.in1 (eqBool y x) (fun b s' => Lst1 s' l y ∧ R (.ok (.ret (.bool b))) s') (fun e s' => R (.error e) s') s) := by
  intro A R s h
  obtain ⟨hp, g, d, tk, os⟩ := s; obtain ⟨⟨n, dd, sl, hl⟩, h⟩ := h
  rw [← hit] at hl
  wp_walk using wpAny_loadPart' hl
  have hi : items[((i : Nat) : Int).toNat]? = some y := by subst i0 hit; simp
  rw [hi]
  refine wpAny_bind (wpAny_mono h (fun b s' hb => ?_) fun _ _ e => e)
  obtain ⟨hp', g', d', tk', os'⟩ := s'; obtain ⟨hl', hr⟩ := hb
  cases b with
  | true =>
    wp_walk
    exact hr
  | false =>
    have hc : (((i : Nat) : Int) + 1) = ((1 : Nat) : Int) := by subst i0; rfl
    wp_walk
    rw [hc]
    exact ⟨plainId_quiet plain_contains_loop _, codeAny_builtin entry_contains_loop (by
      rw [Around.under_plainId plain_contains_loop _]
      exact cont1 (prog := prog) (w := w) l y x A R _ ⟨hl', hr⟩)⟩
theorem contL (l : Addr) (y x : Value) : MeetsIn prog w (Builtin.«list.__contains__» ⟨[.ref l, x], []⟩)
    (fun A R s => Lst1 s l y ∧ wpAny (model prog w) A.in1 (eqBool y x) (fun b s' => Lst1 s' l y ∧ R (.ok (.ret (.bool b))) s') (fun e s' => R (.error e) s') s) := by
  intro A R s h
  obtain ⟨hp, g, d, tk, os⟩ := s; obtain ⟨hl, h⟩ := h
  obtain ⟨n, dd, sl, hl0⟩ := id hl
  wp_walk using wpAny_loadPart' hl0
  exact ⟨plainId_quiet plain_contains_loop _, codeAny_builtin entry_contains_loop (by
    rw [Around.under_plainId plain_contains_loop _]
    exact cont0 (prog := prog) (w := w) l y x 0 rfl _ rfl A R _ ⟨hl, h⟩)⟩
theorem in_one {A : Around} {E : Value → Shared → Prop} {s : Shared} {l : Addr} {y x : Value} {Q : Value → Shared → Prop} (hl : Lst1 s l y) (h : wpAny (model prog w) A.in1 (eqBool y x) (fun b s' => Lst1 s' l y ∧ Q (.bool b) s') E s) : wpAny (model prog w) A (compareOp .In x (.ref l)) Q E s := by
  obtain ⟨n, dd, sl, ho⟩ := id hl
  have hT : s.TypeIs (.ref l) "list" := ⟨_, ho, rfl⟩
  show wpAny _ A (do return .bool (← contains (.ref l) x)) Q E s
  refine wpAny_bind (wpAny_contains_slot hT F.slot_list_contains (wpAny_mono (call_meetsIn F.slot_list_contains hT F.entry_list_contains (F.args_list_contains_2 _ _) (contL l y x) (S := _) (Q := fun v s' => ∃ b, v = .bool b ∧ Q (.bool b) s') (E := E) ⟨hl, wpAny_mono h (fun b s' z => ⟨z.1, _, rfl, z.2⟩) fun _ _ e => e⟩) (fun v s' hv => ?_) fun _ _ e => e))
  obtain ⟨b, rfl, hq⟩ := hv
  exact wpAny_truthy_bool (wpAny_pure hq)
/-- the same object, or what == says -/
theorem eqBool_refs {A : Around} {E : Value → Shared → Prop} {s : Shared} {a b : Addr} {Q : Bool → Shared → Prop} (same : a = b → Q true s) (h : wpAny (model prog w) A (richCompare .Eq (.ref a) (.ref b)) (fun v s' => ∃ k, v = .bool k ∧ Q k s') E s) : wpAny (model prog w) A (eqBool (.ref a) (.ref b)) Q E s := by
  unfold eqBool
  refine wpAny_holding ?_
  refine wpAny_ite_split (fun hab => ?_) (fun _ => ?_)
  · have e : a = b := by have := eq_of_beq hab; injection this
    exact wpAny_bind (wpAny_rule (wpAny_pure (same e)))
  · refine wpAny_bind (wpAny_mono h (fun v s' hv => ?_) fun _ _ e => e)
    obtain ⟨k, rfl, hq⟩ := hv
    exact wpAny_truthy_bool hq
end
end
section
variable {T : Tb} {n : Nat} {C : Calls}
mutual
theorem Dp.uniq {X : Cx} {pins : List (Addr × Obj)} {σ : L2.St} {H : Hp} {s : Shared} (I : Inv X pins σ H s) : ∀ {d d' : PyData} {v : V}, Dp X.K H v d → Dp X.K H v d' → d = d'
  | _, _, _, .non, h => by cases h; rfl
  | _, _, _, .bl _, h => by cases h; rfl
  | _, _, _, .int _, h => by cases h; rfl
  | _, _, _, .str _, h => by cases h; rfl
  | _, _, _, .lst hs ha, h => by
    cases h with
    | lst hs' ha' =>
      have e := I.list_inj hs hs'
      subst e
      rw [Dp.uniqs I ha ha']
    | tup hs' ha' =>
      obtain ⟨_, _, p, _⟩ := I.list hs
      obtain ⟨⟨cls, dd, data, sl⟩, ho, hc, _⟩ := p.isList
      obtain ⟨_, _, ⟨o', ho', hc', _⟩, _⟩ := I.tuple hs'
      rw [ho] at ho'
      cases ho'
      rw [hc] at hc'
      injection hc' with e
      exact absurd e (by decide)
  | _, _, _, .tup hs ha, h => by
    cases h with
    | tup hs' ha' =>
      have e := I.tuple_inj hs hs'
      subst e
      rw [Dp.uniqs I ha ha']
    | lst hs' ha' =>
      obtain ⟨_, _, p, _⟩ := I.list hs'
      obtain ⟨⟨cls, dd, data, sl⟩, ho, hc, _⟩ := p.isList
      obtain ⟨_, _, ⟨o', ho', hc', _⟩, _⟩ := I.tuple hs
      rw [ho] at ho'
      cases ho'
      rw [hc] at hc'
      injection hc' with e
      exact absurd e (by decide)
theorem Dp.uniqs {X : Cx} {pins : List (Addr × Obj)} {σ : L2.St} {H : Hp} {s : Shared} (I : Inv X pins σ H s) : ∀ {d d' : List PyData} {v : List V}, DpAll X.K H v d → DpAll X.K H v d' → d = d'
  | _, _, _, .nil, h => by cases h; rfl
  | _, _, _, .cons a b, h => by
    cases h with
    | cons a' b' => rw [Dp.uniq I a a', Dp.uniqs I b b']
end
theorem one_at {X : Cx} {pins : List (Addr × Obj)} {σ : L2.St} {H : Hp} {s : Shared} (I : Inv X pins σ H s) {l p : Addr} (h : SqL X.K H l [V.ref p]) : Lst1 s l (.ref p) := by
  obtain ⟨its, rv, pl, _⟩ := I.list h
  have e := Vals.ref1 rv
  subst e
  obtain ⟨⟨cls, dd, data, sl⟩, ho, hc, n, hd⟩ := pl.isList
  simp only at hc hd
  subst hc hd
  exact ⟨n, dd, sl, ho⟩
def mInO (T : Tb) (C : Calls) (j i : Nat) (ma mb : Env' → Sto → XPo → Po → Prop) : Env' → Sto → XPo → (Bool → Sto → Prop) → Prop := fun env st Ex K => ma env st Ex fun x st1 => mb env st1 Ex fun y st2 =>
  ∃ fs fz, x = .obj (T.G.A j) fs ∧ y = .lst [.obj (T.G.A j) fz] ∧ j < T.G.n ∧ (SameF fz fs → K true st2) ∧ C i [.obj (T.G.A j) fz, .obj (T.G.A j) fs] st2 noX fun w s => ∃ k, w = .bl k ∧ K k s
theorem s_inO {j i : Nat} {a b : Ex} (ha : SE T n C a) (hb : SE T n C b) : SE T n C (.inO j i a b) ∧ ST T n C (.inO j i a b) := st_both fun c Wx X x g h => by
  unfold chkE at h
  split at h
  · rename_i xl y pos
    simp only [Bool.and_eq_true] at h
    obtain ⟨⟨⟨⟨h0, h2⟩, h3⟩, h4⟩, h5⟩ := h
    obtain ⟨q, hq, hm', hA⟩ := Cz.has_ok g h2
    have hm : (("__eq__" : Str), i) ∈ q.ci.mets := by simpa using hm'
    have k := g.tb.cl j q hq
    have ho : OpR X (compareOp .In) (fun x y H Q' => ∃ ω st Q fs fz, StR X.K ω st H ∧ Rel X.K ω (.obj q.at_ fs) x ∧ Rel X.K ω (.lst [.obj q.at_ fz]) y ∧ KQ X.K ω st H Q Q' ∧ j < T.G.n ∧ (SameF fz fs → Q (.bl true) st) ∧ C i [.obj q.at_ fz, .obj q.at_ fs] st noX fun w s => ∃ k, w = .bl k ∧ Q (.bl k) s) := by
      intro pins s σ H x y v u Q' I rx ry ⟨ω, st, Q, fs, fz, S, ra, rb, kq, hj, hsame, hC⟩
      obtain ⟨p, dx, vs, rfl, e, rf⟩ := objS S ra
      cases relV_ref rx
      cases rb with
      | @lst la _ _ sl rl =>
        obtain ⟨zv, rfl, rz⟩ := rl.one
        obtain ⟨pz, dz, vz, rfl, ez, rfz⟩ := objS S rz
        cases relV_ref ry
        have sq := S.lst (.inl sl)
        have h1 := one_at I sq
        refine in_one h1 (eqBool_refs (fun ee => ⟨h1, .bl true, H, I, rfl, kq.at S (.bl _) (hsame fun f w w' d d' e1 e2 d1 d2 => ?_)⟩) ?_)
        · subst ee
          rw [e] at ez
          cases ez
          obtain ⟨v1, l1, r1⟩ := RelF.look f rfz e1
          obtain ⟨v2, l2, r2⟩ := RelF.look f rf e2
          rw [l1] at l2
          cases l2
          exact Dp.uniq I (dat0_ok S r1 d1) (dat0_ok S r2 d2)
        · cases hfn : T.fns[i]? with
          | none => exact absurd hC (g.tb.no i _ _ _ _ hfn)
          | some fd =>
            obtain ⟨m1, m2⟩ := k.me _ hm fd hfn
            obtain ⟨mA, O, _, _, _, _⟩ := ins_get I.hok ez
            obtain ⟨od, J, _⟩ := O.look
            obtain ⟨m, hF⟩ := I.fr
            have hA' : T.G.A j = q.at_ := hA
            obtain ⟨t, lk, nf⟩ := rightTy g hq k I S ra rx (.inr (.inl ⟨j, fs, hj, by rw [hA']⟩))
            refine PySem.W.cmp_K (op := .Eq) (A := X.A.in1) (tb := t) g.big.u1 hF I.ok.mod.kin J lk nf m1 m2 ?_
            refine wpAny_call (codeAny_mono (run_in g hfn (A := X.A.in1) (Room.in1G (g.room h0)) I.env0.in1 I.kIn S (.cons rz (.cons ra .nil)) (.cons (show RelV (V.ref pz) (Value.ref pz) from rfl) (.cons rx .nil)) hC (Q2 := fun v H' => ∃ k, v = .bl k ∧ SqL X.K H' la [V.ref pz] ∧ Q' (.bl k) H') fun ω' w v st' H' t' S' r' ⟨kk, e, q'⟩ => ?_) fun rr s' ⟨z, e, hq⟩ => ?_)
            · subst e
              exact ⟨kk, r'.bl_inv, S'.lst (.inl (Rd.up t'.le.2 sl)), kq _ _ _ _ _ t' S' (.bl _) q'⟩
            · subst e
              obtain ⟨v', H', I3, rv, kk, e, sq', q3⟩ := I.after hq
              subst e
              cases (show z = Value.bool kk from rv)
              exact ⟨kk, rfl, one_at I3 sq', .bl kk, H', I3, rfl, q3⟩
    refine both (M := mInO T C j i (wpE T.G C a) (wpE T.G C b)) (pc_imp (pc_of ho (ha c Wx X _ g h4) (hb c Wx X _ g h5)) fun σ H Q' z => ?_) h3
    obtain ⟨ω, env, st, Q, Ex, E, S, hm, kq, kx⟩ := z
    refine TO.step E S hm kx fun ω1 x v st1 H1 t1 S1 E1 r1 q1 kx1 => ?_
    refine TO.step E1 S1 q1 kx1 fun ω2 y u st2 H2 t2 S2 E2 r2 q2 kx2 => ?_
    obtain ⟨fs, fz, rfl, rfl, hj, hs, hC⟩ := q2
    have hA' : T.G.A j = q.at_ := hA
    rw [hA'] at r1 r2 hC
    exact ⟨ω2, st2, Q, fs, fz, S2, r1.up t2.le, r2, kq.on (t1.trans t2), hj, hs, hC⟩
  · cases h
end
end Zk

namespace Zk
open PySem PySem.Spec PyProof.Rows L2

section
variable {T : Tb} {n : Nat} {C : Calls}
def SM (T : Tb) (n : Nat) (C : Calls) : Ex → Prop
  | .cons a r => SE T n C a ∧ SM T n C r
  | _ => True
structure Al (T : Tb) (n : Nat) (C : Calls) (e : Ex) : Prop where
  E : SE T n C e
  Te : ST T n C e
  L : SL T n C e
  I : SI T n C e
  Cs : SC T n C e
  Ks : SK T n C e
  A : SA T n C e
  O : SO T n C e
  M : SM T n C e
theorem Al.mk' {e : Ex} (hm : SM T n C e) (hE : SE T n C e) (hT : ST T n C e) (hl : ∀ c xs, chkL c e xs = false) (hi : ∀ c x, chkI c e x = chkE c e x) (ha : ∀ c y z r p, chkE c e (.BoolOp .And (y :: z :: r) p) = false) (ho : ∀ c y z r p, chkE c e (.BoolOp .Or (y :: z :: r) p) = false) : Al T n C e :=
  ⟨hE, hT, (fun c Wx X xs g _ h => by rw [hl] at h; cases h), i_val hE hi, (fun c Wx X xs g _ h => by rw [hl] at h; cases h), (fun c Wx X xs g h => by rw [hl] at h; cases h),
   sa_one hT (fun c y z r p h => by rw [ha] at h; cases h), so_one hT (fun c y z r p h => by rw [ho] at h; cases h), hm⟩
theorem Al.pl {e : Ex} (hm : SM T n C e) (hE : SE T n C e) (hp : ∀ c x, chkE c e x = true → plainT x = true) (hl : ∀ c xs, chkL c e xs = false) (hi : ∀ c x, chkI c e x = chkE c e x) (ha : ∀ c y z r p, chkE c e (.BoolOp .And (y :: z :: r) p) = false) (ho : ∀ c y z r p, chkE c e (.BoolOp .Or (y :: z :: r) p) = false) : Al T n C e := .mk' hm hE (st_plain hE hp) hl hi ha ho
/-- never the small form of a text -/
theorem Al.no {e : Ex} (hm : SM T n C e) (hE : ∀ c x, chkE c e x = false) (hl : ∀ c xs, chkL c e xs = false) (hi : ∀ c x, chkI c e x = chkE c e x) : Al T n C e :=
  .mk' hm (fun c Wx X x g h => by rw [hE] at h; cases h) (fun c Wx X x g _ h => by rw [hE] at h; cases h) hl hi (fun _ _ _ _ _ => hE _ _) (fun _ _ _ _ _ => hE _ _)
theorem s_isI {a : Ex} {t : Ty} (ha : SE T n C a) : SE T n C (.isI a t) := fun c Wx X x g h => by
  unfold chkE at h
  split at h
  · simp only [Bool.and_eq_true, decide_eq_true_eq] at h
    obtain ⟨⟨⟨⟨⟨⟨h1, h2⟩, h3⟩, h4⟩, h5⟩, h6⟩, h7⟩ := h
    subst h2
    subst h3
    obtain ⟨b1, b2, b3⟩ := ty_blt t
    have hN : ∀ p3, PE X (.Name (t.name : Str) p3) (tC (.ty t.name)) := fun p3 => pe_bltn (g.gl h5) (g.tb.bl _ b1) (ty_boot t) rfl b2 b3
    refine pe_imp (pe_callB call_isi (g.gl h4) (g.tb.bl _ (by decide +kernel)) boot_isinstance (pa_cons (ha c Wx X _ g h7) (pa_cons (hN _) pa_nil (by rfl)) (starEach_of h6)) (by decide) (by decide) (starEach_of h6) (star_any rfl)) fun σ H Q' q => ?_
    obtain ⟨ω, env, st, Q, Ex, E, S, hm, k, kx⟩ := q
    refine TO.step E S hm kx fun ω1 x v st1 H1 t1 S1 E1 r1 q1 kx1 => ?_
    rcases q1 with ⟨rfl, q1⟩ | ⟨t', e, q1⟩
    · cases r1
      exact ⟨_, _, _, _, _, rfl, .ty _, .base .non, kit_ty (kit_nt t), (k.on t1).at S1 (.bl _) q1⟩
    · exact ⟨_, _, _, _, _, rfl, .ty _, tyX_of (tyOf_ok S1 r1 e), kit_ty (kit_tt t' t), (k.on t1).at S1 (.bl _) q1⟩
  · cases h
theorem s_dct1 {m : Bool} {a b : Ex} (ha : SE T n C a) (hb : SE T n C b) : SE T n C (.dct1 m a b) := fun c Wx X x g h => by
  unfold chkE at h
  split at h
  · simp only [Bool.and_eq_true] at h
    refine pe_imp (pe_lk (pe_disp (pps_cons (ha c Wx X _ g h.1) (hb c Wx X _ g h.2) pps_nil) rfl rfl (by simp) (by simp))) fun σ H Q' q p hp => ?_
    obtain ⟨ω, env, st, Q, Ex, E, S, hm, k, kx⟩ := q
    have hdD := S.dfree hp
    have haD : ¬ Alive ω st p := fun z => by obtain ⟨o, e⟩ := S.alive_some z; rw [hp] at e; cases e
    have t0 : Stp ω st H ω st (upd H p (.dK [])) := Stp.refl.outside hp
    have S0 : StR X.K ω st (upd H p (.dK [])) := S.outside hdD haD
    show TO T X.K Wx (wpE T.G C a) σ (upd H p (.dK [])) fun x H1 => TO T X.K Wx (wpE T.G C b) σ H1 fun y H2 => _
    refine TO.step E S0 hm (kx.on t0) fun ω1 x v st1 H1 t1 S1 E1 r1 q1 kx1 => ?_
    refine TO.step E1 S1 q1 kx1 fun ω2 y u st2 H2 t2 S2 E2 r2 q2 kx2 => ?_
    obtain ⟨ky, e1, q2⟩ := q2
    obtain ⟨f1, f2⟩ := (t1.trans t2).keep p _ upd_same haD
    have f3 := (t1.trans t2).kd p _ upd_same haD hdD
    refine ⟨f1, [(ky, u)], ?_, by simp, ?_⟩
    · rw [keyOf_ok e1 r1]; rfl
    · exact KQ.takeD k ((t0.trans (t1.trans t2)).outside hp) (S2.outside f3 f2) hp upd_same f3 f2 (by simp) (.cons r2 .nil) q2
  · cases h
theorem all_ok : ∀ e : Ex, Al T n C e := by
  intro e
  induction e with
  | var i => exact .pl trivial (s_var i) (by intro c x h; unfold chkE at h; split at h <;> first | rfl | (cases h)) (by intros; first | rfl | simp [chkL] | simp [chkI] | simp [chkE]) (by intros; first | rfl | simp [chkL] | simp [chkI] | simp [chkE]) (by intros; first | rfl | simp [chkL] | simp [chkI] | simp [chkE]) (by intros; first | rfl | simp [chkL] | simp [chkI] | simp [chkE])
  | int i => exact .pl trivial (s_int i) (by intro c x h; unfold chkE at h; split at h <;> first | rfl | (cases h)) (by intros; first | rfl | simp [chkL] | simp [chkI] | simp [chkE]) (by intros; first | rfl | simp [chkL] | simp [chkI] | simp [chkE]) (by intros; first | rfl | simp [chkL] | simp [chkI] | simp [chkE]) (by intros; first | rfl | simp [chkL] | simp [chkI] | simp [chkE])
  | bl i => exact .pl trivial (s_bl i) (by intro c x h; unfold chkE at h; split at h <;> first | rfl | (cases h)) (by intros; first | rfl | simp [chkL] | simp [chkI] | simp [chkE]) (by intros; first | rfl | simp [chkL] | simp [chkI] | simp [chkE]) (by intros; first | rfl | simp [chkL] | simp [chkI] | simp [chkE]) (by intros; first | rfl | simp [chkL] | simp [chkI] | simp [chkE])
  | non => exact .pl trivial s_non (by intro c x h; unfold chkE at h; split at h <;> first | rfl | (cases h)) (by intros; first | rfl | simp [chkL] | simp [chkI] | simp [chkE]) (by intros; first | rfl | simp [chkL] | simp [chkI] | simp [chkE]) (by intros; first | rfl | simp [chkL] | simp [chkI] | simp [chkE]) (by intros; first | rfl | simp [chkL] | simp [chkI] | simp [chkE])
  | str i => exact .pl trivial (s_str i) (by intro c x h; unfold chkE at h; split at h <;> first | rfl | (cases h)) (by intros; first | rfl | simp [chkL] | simp [chkI] | simp [chkE]) (by intros; first | rfl | simp [chkL] | simp [chkI] | simp [chkE]) (by intros; first | rfl | simp [chkL] | simp [chkI] | simp [chkE]) (by intros; first | rfl | simp [chkL] | simp [chkI] | simp [chkE])
  | glb i => exact .pl trivial (s_glb i) (by intro c x h; unfold chkE at h; split at h <;> first | rfl | (cases h)) (by intros; first | rfl | simp [chkL] | simp [chkI] | simp [chkE]) (by intros; first | rfl | simp [chkL] | simp [chkI] | simp [chkE]) (by intros; first | rfl | simp [chkL] | simp [chkI] | simp [chkE]) (by intros; first | rfl | simp [chkL] | simp [chkI] | simp [chkE])
  | bin op m a b ha hb => exact .pl trivial (s_bin ha.E hb.E) (by intro c x h; unfold chkE at h; split at h <;> first | rfl | (cases h)) (by intros; first | rfl | simp [chkL] | simp [chkI] | simp [chkE]) (by intros; first | rfl | simp [chkL] | simp [chkI] | simp [chkE]) (by intros; first | rfl | simp [chkL] | simp [chkI] | simp [chkE]) (by intros; first | rfl | simp [chkL] | simp [chkI] | simp [chkE])
  | neg a ha => exact .pl trivial (s_neg ha.E) (by intro c x h; unfold chkE at h; split at h <;> first | rfl | (cases h)) (by intros; first | rfl | simp [chkL] | simp [chkI] | simp [chkE]) (by intros; first | rfl | simp [chkL] | simp [chkI] | simp [chkE]) (by intros; first | rfl | simp [chkL] | simp [chkI] | simp [chkE]) (by intros; first | rfl | simp [chkL] | simp [chkI] | simp [chkE])
  | nt a ha => exact .mk' trivial (s_nt ha.E) (t_nt ha.Te) (by intros; first | rfl | simp [chkL] | simp [chkI] | simp [chkE]) (by intros; first | rfl | simp [chkL] | simp [chkI] | simp [chkE]) (by intros; first | rfl | simp [chkL] | simp [chkI] | simp [chkE]) (by intros; first | rfl | simp [chkL] | simp [chkI] | simp [chkE])
  | an a b ha hb =>
    obtain ⟨h1, h2⟩ := t_an ha.Te hb.A
    exact ⟨s_an ha.E hb.E, h1, fun c Wx X xs g _ h => by simp [chkL] at h, i_val (s_an ha.E hb.E) (by intros; first | rfl | simp [chkL] | simp [chkI] | simp [chkE]), fun c Wx X xs g _ h => by simp [chkL] at h, fun c Wx X xs g h => by simp [chkL] at h, h2, so_one h1 (fun c y z r p h => by simp [chkE] at h), trivial⟩
  | or a b ha hb =>
    obtain ⟨h1, h2⟩ := t_or ha.Te hb.O
    exact ⟨s_or ha.E hb.E, h1, fun c Wx X xs g _ h => by simp [chkL] at h, i_val (s_or ha.E hb.E) (by intros; first | rfl | simp [chkL] | simp [chkI] | simp [chkE]), fun c Wx X xs g _ h => by simp [chkL] at h, fun c Wx X xs g h => by simp [chkL] at h, sa_one h1 (fun c y z r p h => by simp [chkE] at h), h2, trivial⟩
  | cmp op a b ha hb => exact .mk' trivial (b_cmp ha.E hb.E).1 (b_cmp ha.E hb.E).2 (by intros; first | rfl | simp [chkL] | simp [chkI] | simp [chkE]) (by intros; first | rfl | simp [chkL] | simp [chkI] | simp [chkE]) (by intros; first | rfl | simp [chkL] | simp [chkI] | simp [chkE]) (by intros; first | rfl | simp [chkL] | simp [chkI] | simp [chkE])
  | cm2 op op' a b d ha hb hd => exact .mk' trivial (b_cm2 ha.E hb.E hd.E).1 (b_cm2 ha.E hb.E hd.E).2 (by intros; first | rfl | simp [chkL] | simp [chkI] | simp [chkE]) (by intros; first | rfl | simp [chkL] | simp [chkI] | simp [chkE]) (by intros; first | rfl | simp [chkL] | simp [chkI] | simp [chkE]) (by intros; first | rfl | simp [chkL] | simp [chkI] | simp [chkE])
  | isN neg a ha => exact .mk' trivial (b_isN ha.E).1 (b_isN ha.E).2 (by intros; first | rfl | simp [chkL] | simp [chkI] | simp [chkE]) (by intros; first | rfl | simp [chkL] | simp [chkI] | simp [chkE]) (by intros; first | rfl | simp [chkL] | simp [chkI] | simp [chkE]) (by intros; first | rfl | simp [chkL] | simp [chkI] | simp [chkE])
  | tyI neg a t ha => exact .mk' trivial (b_tyI ha.E).1 (b_tyI ha.E).2 (by intros; first | rfl | simp [chkL] | simp [chkI] | simp [chkE]) (by intros; first | rfl | simp [chkL] | simp [chkI] | simp [chkE]) (by intros; first | rfl | simp [chkL] | simp [chkI] | simp [chkE]) (by intros; first | rfl | simp [chkL] | simp [chkI] | simp [chkE])
  | isI a t ha => exact .pl trivial (s_isI ha.E) (by intro c x h; unfold chkE at h; split at h <;> first | rfl | (cases h)) (by intros; first | rfl | simp [chkL] | simp [chkI] | simp [chkE]) (by intros; first | rfl | simp [chkL] | simp [chkI] | simp [chkE]) (by intros; first | rfl | simp [chkL] | simp [chkI] | simp [chkE]) (by intros; first | rfl | simp [chkL] | simp [chkI] | simp [chkE])
  | ite a b d ha hb hd => exact .mk' trivial (s_ite ha.Te hb.E hd.E) (fun c Wx X x g h _ => by simp [tT] at h) (by intros; first | rfl | simp [chkL] | simp [chkI] | simp [chkE]) (by intros; first | rfl | simp [chkL] | simp [chkI] | simp [chkE]) (by intros; first | rfl | simp [chkL] | simp [chkI] | simp [chkE]) (by intros; first | rfl | simp [chkL] | simp [chkI] | simp [chkE])
  | lst m es hl => exact .pl trivial (s_lst hl.L) (by intro c x h; unfold chkE at h; split at h <;> first | rfl | (cases h)) (by intros; first | rfl | simp [chkL] | simp [chkI] | simp [chkE]) (by intros; first | rfl | simp [chkL] | simp [chkI] | simp [chkE]) (by intros; first | rfl | simp [chkL] | simp [chkI] | simp [chkE]) (by intros; first | rfl | simp [chkL] | simp [chkI] | simp [chkE])
  | tup es hl => exact .pl trivial (s_tup hl.L) (by intro c x h; unfold chkE at h; split at h <;> first | rfl | (cases h)) (by intros; first | rfl | simp [chkL] | simp [chkI] | simp [chkE]) (by intros; first | rfl | simp [chkL] | simp [chkI] | simp [chkE]) (by intros; first | rfl | simp [chkL] | simp [chkI] | simp [chkE]) (by intros; first | rfl | simp [chkL] | simp [chkI] | simp [chkE])
  | dct m es hl => exact .pl trivial s_dct (by intro c x h; unfold chkE at h; split at h <;> first | rfl | (cases h)) (by intros; first | rfl | simp [chkL] | simp [chkI] | simp [chkE]) (by intros; first | rfl | simp [chkL] | simp [chkI] | simp [chkE]) (by intros; first | rfl | simp [chkL] | simp [chkI] | simp [chkE]) (by intros; first | rfl | simp [chkL] | simp [chkI] | simp [chkE])
  | dct1 m a b ha hb => exact .pl trivial (s_dct1 ha.E hb.E) (by intro c x h; unfold chkE at h; split at h <;> first | rfl | (cases h)) (by intros; first | rfl | simp [chkL] | simp [chkI] | simp [chkE]) (by intros; first | rfl | simp [chkL] | simp [chkI] | simp [chkE]) (by intros; first | rfl | simp [chkL] | simp [chkI] | simp [chkE]) (by intros; first | rfl | simp [chkL] | simp [chkI] | simp [chkE])
  | ix a b ha hb => exact .pl trivial (s_ix ha.E hb.E) (by intro c x h; unfold chkE at h; split at h <;> first | rfl | (cases h)) (by intros; first | rfl | simp [chkL] | simp [chkI] | simp [chkE]) (by intros; first | rfl | simp [chkL] | simp [chkI] | simp [chkE]) (by intros; first | rfl | simp [chkL] | simp [chkI] | simp [chkE]) (by intros; first | rfl | simp [chkL] | simp [chkI] | simp [chkE])
  | dix a b ha hb => exact .pl trivial (s_dix ha.E hb.E) (by intro c x h; unfold chkE at h; split at h <;> first | rfl | (cases h)) (by intros; first | rfl | simp [chkL] | simp [chkI] | simp [chkE]) (by intros; first | rfl | simp [chkL] | simp [chkI] | simp [chkE]) (by intros; first | rfl | simp [chkL] | simp [chkI] | simp [chkE]) (by intros; first | rfl | simp [chkL] | simp [chkI] | simp [chkE])
  | sl m a lo hi ha hl hh => exact .pl trivial (s_sl ha.E hl.E hh.E) (by intro c x h; unfold chkE at h; split at h <;> first | rfl | (cases h)) (by intros; first | rfl | simp [chkL] | simp [chkI] | simp [chkE]) (by intros; first | rfl | simp [chkL] | simp [chkI] | simp [chkE]) (by intros; first | rfl | simp [chkL] | simp [chkI] | simp [chkE]) (by intros; first | rfl | simp [chkL] | simp [chkI] | simp [chkE])
  | cal f es hl => exact .pl trivial (s_cal hl.L) (by intro c x h; unfold chkE at h; split at h <;> first | rfl | (cases h)) (by intros; first | rfl | simp [chkL] | simp [chkI] | simp [chkE]) (by intros; first | rfl | simp [chkL] | simp [chkI] | simp [chkE]) (by intros; first | rfl | simp [chkL] | simp [chkI] | simp [chkE]) (by intros; first | rfl | simp [chkL] | simp [chkI] | simp [chkE])
  | calK f j m mk perm es ks hl hk => exact .pl trivial (s_calK hl.L hk.Ks) (by intro c x h; unfold chkE at h; split at h <;> first | rfl | (cases h)) (by intros; first | rfl | simp [chkL] | simp [chkI] | simp [chkE]) (by intros; first | rfl | simp [chkL] | simp [chkI] | simp [chkE]) (by intros; first | rfl | simp [chkL] | simp [chkI] | simp [chkE]) (by intros; first | rfl | simp [chkL] | simp [chkI] | simp [chkE])
  | bi f m es hl => exact .pl trivial (s_bi hl.L) (by intro c x h; unfold chkE at h; split at h <;> first | rfl | (cases h)) (by intros; first | rfl | simp [chkL] | simp [chkI] | simp [chkE]) (by intros; first | rfl | simp [chkL] | simp [chkI] | simp [chkE]) (by intros; first | rfl | simp [chkL] | simp [chkI] | simp [chkE]) (by intros; first | rfl | simp [chkL] | simp [chkI] | simp [chkE])
  | mt f o es ho hl =>
    refine .pl trivial (s_mt ho.E hl.L fun a b z => ?_) (by intro c x h; unfold chkE at h; split at h <;> first | rfl | (cases h)) (by intros; first | rfl | simp [chkL] | simp [chkI] | simp [chkE]) (by intros; first | rfl | simp [chkL] | simp [chkI] | simp [chkE]) (by intros; first | rfl | simp [chkL] | simp [chkI] | simp [chkE]) (by intros; first | rfl | simp [chkL] | simp [chkI] | simp [chkE])
    have hm := hl.M
    rw [z] at hm
    exact ⟨hm.1, hm.2.1⟩
  | lc m own t it cs e hi hc he => exact .pl trivial (s_lc hi.I hc.Cs he.E) (by intro c x h; unfold chkE at h; split at h <;> first | rfl | (cases h)) (by intros; first | rfl | simp [chkL] | simp [chkI] | simp [chkE]) (by intros; first | rfl | simp [chkL] | simp [chkI] | simp [chkE]) (by intros; first | rfl | simp [chkL] | simp [chkI] | simp [chkE]) (by intros; first | rfl | simp [chkL] | simp [chkI] | simp [chkE])
  | dc m own t it cs k e hi hc hk he => exact .pl trivial (s_dc hi.I hc.Cs hk.E he.E) (by intro c x h; unfold chkE at h; split at h <;> first | rfl | (cases h)) (by intros; first | rfl | simp [chkL] | simp [chkI] | simp [chkE]) (by intros; first | rfl | simp [chkL] | simp [chkI] | simp [chkE]) (by intros; first | rfl | simp [chkL] | simp [chkI] | simp [chkE]) (by intros; first | rfl | simp [chkL] | simp [chkI] | simp [chkE])
  | rvs a ha => exact .pl trivial (s_rvs ha.E) (by intro c x h; unfold chkE at h; split at h <;> first | rfl | (cases h)) (by intros; first | rfl | simp [chkL] | simp [chkI] | simp [chkE]) (by intros; first | rfl | simp [chkL] | simp [chkI] | simp [chkE]) (by intros; first | rfl | simp [chkL] | simp [chkI] | simp [chkE]) (by intros; first | rfl | simp [chkL] | simp [chkI] | simp [chkE])
  | lrg1 m a ha => exact .pl trivial (s_lrg1 ha.E) (by intro c x h; unfold chkE at h; split at h <;> first | rfl | (cases h)) (by intros; first | rfl | simp [chkL] | simp [chkI] | simp [chkE]) (by intros; first | rfl | simp [chkL] | simp [chkI] | simp [chkE]) (by intros; first | rfl | simp [chkL] | simp [chkI] | simp [chkE]) (by intros; first | rfl | simp [chkL] | simp [chkI] | simp [chkE])
  | lrg2 m a b ha hb => exact .pl trivial (s_lrg2 ha.E hb.E) (by intro c x h; unfold chkE at h; split at h <;> first | rfl | (cases h)) (by intros; first | rfl | simp [chkL] | simp [chkI] | simp [chkE]) (by intros; first | rfl | simp [chkL] | simp [chkI] | simp [chkE]) (by intros; first | rfl | simp [chkL] | simp [chkI] | simp [chkE]) (by intros; first | rfl | simp [chkL] | simp [chkI] | simp [chkE])
  | inO j i a b ha hb => exact .mk' trivial (s_inO ha.E hb.E).1 (s_inO ha.E hb.E).2 (by intros; first | rfl | simp [chkL] | simp [chkI] | simp [chkE]) (by intros; first | rfl | simp [chkL] | simp [chkI] | simp [chkE]) (by intros; first | rfl | simp [chkL] | simp [chkI] | simp [chkE]) (by intros; first | rfl | simp [chkL] | simp [chkI] | simp [chkE])
  | rgv a ha => exact .pl trivial (s_rgv ha.E) (by intro c x h; unfold chkE at h; split at h <;> first | rfl | (cases h)) (by intros; first | rfl | simp [chkL] | simp [chkI] | simp [chkE]) (by intros; first | rfl | simp [chkL] | simp [chkI] | simp [chkE]) (by intros; first | rfl | simp [chkL] | simp [chkI] | simp [chkE]) (by intros; first | rfl | simp [chkL] | simp [chkI] | simp [chkE])
  | wrg a ha => exact ⟨fun c Wx X x g h => by simp [chkE] at h, fun c Wx X x g _ h => by simp [chkE] at h, fun c Wx X xs g _ h => by simp [chkL] at h, i_wrg ha.E, fun c Wx X xs g _ h => by simp [chkL] at h, fun c Wx X xs g h => by simp [chkL] at h,
      sa_one (fun c Wx X x g _ h => by simp [chkE] at h) fun c y z r p h => by simp [chkE] at h, so_one (fun c Wx X x g _ h => by simp [chkE] at h) (fun c y z r p h => by simp [chkE] at h), trivial⟩
  | rg1 a ha => exact ⟨fun c Wx X x g h => by simp [chkE] at h, fun c Wx X x g _ h => by simp [chkE] at h, fun c Wx X xs g _ h => by simp [chkL] at h, i_rg1 ha.E, fun c Wx X xs g _ h => by simp [chkL] at h, fun c Wx X xs g h => by simp [chkL] at h,
      sa_one (fun c Wx X x g _ h => by simp [chkE] at h) fun c y z r p h => by simp [chkE] at h, so_one (fun c Wx X x g _ h => by simp [chkE] at h) (fun c y z r p h => by simp [chkE] at h), trivial⟩
  | rg2 a b ha hb => exact ⟨fun c Wx X x g h => by simp [chkE] at h, fun c Wx X x g _ h => by simp [chkE] at h, fun c Wx X xs g _ h => by simp [chkL] at h, i_rg2 ha.E hb.E, fun c Wx X xs g _ h => by simp [chkL] at h, fun c Wx X xs g h => by simp [chkL] at h,
      sa_one (fun c Wx X x g _ h => by simp [chkE] at h) fun c y z r p h => by simp [chkE] at h, so_one (fun c Wx X x g _ h => by simp [chkE] at h) (fun c y z r p h => by simp [chkE] at h), trivial⟩
  | its a ha => exact ⟨fun c Wx X x g h => by simp [chkE] at h, fun c Wx X x g _ h => by simp [chkE] at h, fun c Wx X xs g _ h => by simp [chkL] at h, i_its ha.E, fun c Wx X xs g _ h => by simp [chkL] at h, fun c Wx X xs g h => by simp [chkL] at h,
      sa_one (fun c Wx X x g _ h => by simp [chkE] at h) fun c y z r p h => by simp [chkE] at h, so_one (fun c Wx X x g _ h => by simp [chkE] at h) (fun c y z r p h => by simp [chkE] at h), trivial⟩
  | vls a ha => exact ⟨fun c Wx X x g h => by simp [chkE] at h, fun c Wx X x g _ h => by simp [chkE] at h, fun c Wx X xs g _ h => by simp [chkL] at h, i_vls ha.E, fun c Wx X xs g _ h => by simp [chkL] at h, fun c Wx X xs g h => by simp [chkL] at h,
      sa_one (fun c Wx X x g _ h => by simp [chkE] at h) fun c y z r p h => by simp [chkE] at h, so_one (fun c Wx X x g _ h => by simp [chkE] at h) (fun c y z r p h => by simp [chkE] at h), trivial⟩
  | enm a ha => exact ⟨fun c Wx X x g h => by simp [chkE] at h, fun c Wx X x g _ h => by simp [chkE] at h, fun c Wx X xs g _ h => by simp [chkL] at h, i_enm ha.E, fun c Wx X xs g _ h => by simp [chkL] at h, fun c Wx X xs g h => by simp [chkL] at h,
      sa_one (fun c Wx X x g _ h => by simp [chkE] at h) fun c y z r p h => by simp [chkE] at h, so_one (fun c Wx X x g _ h => by simp [chkE] at h) (fun c y z r p h => by simp [chkE] at h), trivial⟩
  | zp a b ha hb => exact ⟨fun c Wx X x g h => by simp [chkE] at h, fun c Wx X x g _ h => by simp [chkE] at h, fun c Wx X xs g _ h => by simp [chkL] at h, i_zp ha.E hb.E, fun c Wx X xs g _ h => by simp [chkL] at h, fun c Wx X xs g h => by simp [chkL] at h,
      sa_one (fun c Wx X x g _ h => by simp [chkE] at h) fun c y z r p h => by simp [chkE] at h, so_one (fun c Wx X x g _ h => by simp [chkE] at h) (fun c y z r p h => by simp [chkE] at h), trivial⟩
  | excv j => exact .pl trivial s_excv (by intro c x h; unfold chkE at h; split at h <;> first | rfl | (cases h)) (by intros; first | rfl | simp [chkL] | simp [chkI] | simp [chkE]) (by intros; first | rfl | simp [chkL] | simp [chkI] | simp [chkE]) (by intros; first | rfl | simp [chkL] | simp [chkI] | simp [chkE]) (by intros; first | rfl | simp [chkL] | simp [chkI] | simp [chkE])
  | isC a cs ha => exact .pl trivial (s_isC ha.E) (by intro c x h; unfold chkE at h; split at h <;> first | rfl | (cases h)) (by intros; first | rfl | simp [chkL] | simp [chkI] | simp [chkE]) (by intros; first | rfl | simp [chkL] | simp [chkI] | simp [chkE]) (by intros; first | rfl | simp [chkL] | simp [chkI] | simp [chkE]) (by intros; first | rfl | simp [chkL] | simp [chkI] | simp [chkE])
  | gdxS t e he => exact .pl trivial (s_gdxS he.E) (by intro c x h; unfold chkE at h; split at h <;> first | rfl | (cases h)) (by intros; first | rfl | simp [chkL] | simp [chkI] | simp [chkE]) (by intros; first | rfl | simp [chkL] | simp [chkI] | simp [chkE]) (by intros; first | rfl | simp [chkL] | simp [chkI] | simp [chkE]) (by intros; first | rfl | simp [chkL] | simp [chkI] | simp [chkE])
  | dctS m l => exact .pl trivial s_dctS (by intro c x h; unfold chkE at h; split at h <;> first | rfl | (cases h)) (by intros; first | rfl | simp [chkL] | simp [chkI] | simp [chkE]) (by intros; first | rfl | simp [chkL] | simp [chkI] | simp [chkE]) (by intros; first | rfl | simp [chkL] | simp [chkI] | simp [chkE]) (by intros; first | rfl | simp [chkL] | simp [chkI] | simp [chkE])
  | gcd2 a b ha hb => exact .pl trivial (s_gcd2 ha.E hb.E) (by intro c x h; unfold chkE at h; split at h <;> first | rfl | (cases h)) (by intros; first | rfl | simp [chkL] | simp [chkI] | simp [chkE]) (by intros; first | rfl | simp [chkL] | simp [chkI] | simp [chkE]) (by intros; first | rfl | simp [chkL] | simp [chkI] | simp [chkE]) (by intros; first | rfl | simp [chkL] | simp [chkI] | simp [chkE])
  | rvL m a ha => exact .pl trivial (s_rvL ha.E) (by intro c x h; unfold chkE at h; split at h <;> first | rfl | (cases h)) (by intros; first | rfl | simp [chkL] | simp [chkI] | simp [chkE]) (by intros; first | rfl | simp [chkL] | simp [chkI] | simp [chkE]) (by intros; first | rfl | simp [chkL] | simp [chkI] | simp [chkE]) (by intros; first | rfl | simp [chkL] | simp [chkI] | simp [chkE])
  | lc2 m own t it cs t1 it1 cs1 e hi hc hi1 hc1 he => exact .pl trivial (s_lc2 hi.I hc.Cs hi1.I hc1.Cs he.E) (by intro c x h; unfold chkE at h; split at h <;> first | rfl | (cases h)) (by intros; first | rfl | simp [chkL] | simp [chkI] | simp [chkE]) (by intros; first | rfl | simp [chkL] | simp [chkI] | simp [chkE]) (by intros; first | rfl | simp [chkL] | simp [chkI] | simp [chkE]) (by intros; first | rfl | simp [chkL] | simp [chkI] | simp [chkE])
  | frz a ha => exact ⟨s_frz ha.E, fun c Wx X x g h _ => by simp [tT] at h, fun c Wx X xs g _ h => by simp [chkL] at h, i_val (s_frz ha.E) (by intros; first | rfl | simp [chkL] | simp [chkI] | simp [chkE]), fun c Wx X xs g _ h => by simp [chkL] at h, fun c Wx X xs g h => by simp [chkL] at h, fun c Wx X y r p g h _ => by simp [tT] at h, (fun c Wx X y r p g h _ => by simp [tT] at h), trivial⟩
  | fld j a f ha => exact .pl trivial (s_fld ha.E) (by intro c x h; unfold chkE at h; split at h <;> first | rfl | (cases h)) (by intros; first | rfl | simp [chkL] | simp [chkI] | simp [chkE]) (by intros; first | rfl | simp [chkL] | simp [chkI] | simp [chkE]) (by intros; first | rfl | simp [chkL] | simp [chkI] | simp [chkE]) (by intros; first | rfl | simp [chkL] | simp [chkI] | simp [chkE])
  | prp j i a f ha => exact .pl trivial (s_prp ha.E) (by intro c x h; unfold chkE at h; split at h <;> first | rfl | (cases h)) (by intros; first | rfl | simp [chkL] | simp [chkI] | simp [chkE]) (by intros; first | rfl | simp [chkL] | simp [chkI] | simp [chkE]) (by intros; first | rfl | simp [chkL] | simp [chkI] | simp [chkE]) (by intros; first | rfl | simp [chkL] | simp [chkI] | simp [chkE])
  | mk j i es hl => exact .pl trivial (s_mk hl.L) (by intro c x h; unfold chkE at h; split at h <;> first | rfl | (cases h)) (by intros; first | rfl | simp [chkL] | simp [chkI] | simp [chkE]) (by intros; first | rfl | simp [chkL] | simp [chkI] | simp [chkE]) (by intros; first | rfl | simp [chkL] | simp [chkI] | simp [chkE]) (by intros; first | rfl | simp [chkL] | simp [chkI] | simp [chkE])
  | mkK j i k m mk perm es ks hl hk => exact .pl trivial (s_mkK hl.L hk.Ks) (by intro c x h; unfold chkE at h; split at h <;> first | rfl | (cases h)) (by intros; first | rfl | simp [chkL] | simp [chkI] | simp [chkE]) (by intros; first | rfl | simp [chkL] | simp [chkI] | simp [chkE]) (by intros; first | rfl | simp [chkL] | simp [chkI] | simp [chkE]) (by intros; first | rfl | simp [chkL] | simp [chkI] | simp [chkE])
  | lenO j i a ha => exact .pl trivial (s_lenO ha.E) (by intro c x h; unfold chkE at h; split at h <;> first | rfl | (cases h)) (by intros; first | rfl | simp [chkL] | simp [chkI] | simp [chkE]) (by intros; first | rfl | simp [chkL] | simp [chkI] | simp [chkE]) (by intros; first | rfl | simp [chkL] | simp [chkI] | simp [chkE]) (by intros; first | rfl | simp [chkL] | simp [chkI] | simp [chkE])
  | eqO neg j i a b ha hb => exact .mk' trivial (s_eqO ha.E hb.E).1 (s_eqO ha.E hb.E).2 (by intros; first | rfl | simp [chkL] | simp [chkI] | simp [chkE]) (by intros; first | rfl | simp [chkL] | simp [chkI] | simp [chkE]) (by intros; first | rfl | simp [chkL] | simp [chkI] | simp [chkE]) (by intros; first | rfl | simp [chkL] | simp [chkI] | simp [chkE])
  | addO j i a b ha hb => exact .pl trivial (s_addO ha.E hb.E) (by intro c x h; unfold chkE at h; split at h <;> first | rfl | (cases h)) (by intros; first | rfl | simp [chkL] | simp [chkI] | simp [chkE]) (by intros; first | rfl | simp [chkL] | simp [chkI] | simp [chkE]) (by intros; first | rfl | simp [chkL] | simp [chkI] | simp [chkE]) (by intros; first | rfl | simp [chkL] | simp [chkI] | simp [chkE])
  | addN j i a b ha hb => exact .pl trivial (s_addN ha.E hb.E) (by intro c x h; unfold chkE at h; split at h <;> first | rfl | (cases h)) (by intros; first | rfl | simp [chkL] | simp [chkI] | simp [chkE]) (by intros; first | rfl | simp [chkL] | simp [chkI] | simp [chkE]) (by intros; first | rfl | simp [chkL] | simp [chkI] | simp [chkE]) (by intros; first | rfl | simp [chkL] | simp [chkI] | simp [chkE])
  | isO a j ha => exact .pl trivial (s_isO ha.E) (by intro c x h; unfold chkE at h; split at h <;> first | rfl | (cases h)) (by intros; first | rfl | simp [chkL] | simp [chkI] | simp [chkE]) (by intros; first | rfl | simp [chkL] | simp [chkI] | simp [chkE]) (by intros; first | rfl | simp [chkL] | simp [chkI] | simp [chkE]) (by intros; first | rfl | simp [chkL] | simp [chkI] | simp [chkE])
  | lset a ha => exact .pl trivial (s_lset ha.E) (by intro c x h; unfold chkE at h; split at h <;> first | rfl | (cases h)) (by intros; first | rfl | simp [chkL] | simp [chkI] | simp [chkE]) (by intros; first | rfl | simp [chkL] | simp [chkI] | simp [chkE]) (by intros; first | rfl | simp [chkL] | simp [chkI] | simp [chkE]) (by intros; first | rfl | simp [chkL] | simp [chkI] | simp [chkE])
  | dctI m l => exact .pl trivial s_dctI (by intro c x h; unfold chkE at h; split at h <;> first | rfl | (cases h)) (by intros; first | rfl | simp [chkL] | simp [chkI] | simp [chkE]) (by intros; first | rfl | simp [chkL] | simp [chkI] | simp [chkE]) (by intros; first | rfl | simp [chkL] | simp [chkI] | simp [chkE]) (by intros; first | rfl | simp [chkL] | simp [chkI] | simp [chkE])
  | gdx t e he => exact .pl trivial (s_gdx he.E) (by intro c x h; unfold chkE at h; split at h <;> first | rfl | (cases h)) (by intros; first | rfl | simp [chkL] | simp [chkI] | simp [chkE]) (by intros; first | rfl | simp [chkL] | simp [chkI] | simp [chkE]) (by intros; first | rfl | simp [chkL] | simp [chkI] | simp [chkE]) (by intros; first | rfl | simp [chkL] | simp [chkI] | simp [chkE])
  | no => exact .no trivial (by intros; first | rfl | simp [chkL] | simp [chkI] | simp [chkE]) (by intros; first | rfl | simp [chkL] | simp [chkI] | simp [chkE]) (by intros; first | rfl | simp [chkL] | simp [chkI] | simp [chkE])
  | nil => exact ⟨fun c Wx X x g h => by simp [chkE] at h, fun c Wx X x g _ h => by simp [chkE] at h, l_nil, fun c Wx X tg x g _ _ h => by simp [chkI, chkE] at h, c_nil, k_nil,
      sa_one (fun c Wx X x g _ h => by simp [chkE] at h) fun c y z r p h => by simp [chkE] at h, so_one (fun c Wx X x g _ h => by simp [chkE] at h) (fun c y z r p h => by simp [chkE] at h), trivial⟩
  | cons a r ha hr => exact ⟨fun c Wx X x g h => by simp [chkE] at h, fun c Wx X x g _ h => by simp [chkE] at h, l_cons ha.E hr.L, fun c Wx X tg x g _ _ h => by simp [chkI, chkE] at h, c_cons ha.Te, k_cons ha.E hr.Ks,
      sa_one (fun c Wx X x g _ h => by simp [chkE] at h) fun c y z r p h => by simp [chkE] at h, so_one (fun c Wx X x g _ h => by simp [chkE] at h) (fun c y z r p h => by simp [chkE] at h), ⟨ha.E, hr.M⟩⟩
end
end Zk

namespace Zk
open PySem PySem.Spec PyProof.Rows L2

/-! ### the check again, by one recursion that the kernel runs -/
structure Ck where
  e : Expr → Bool
  l : List Expr → Bool
  p : Option Expr → Bool
  i : Expr → Bool
def mkC (f : Expr → Bool) : Ck := ⟨f, fun _ => false, fun x => match x with | some y => f y | none => false, f⟩
def fR : Ex → Cz → Ck
  | .var i, c => mkC fun x => match x with | .Name x _ => decide (c.N[i]? = some x) && visB c.sc x && plB x | _ => false
  | .int i, c => mkC fun x => match x with | .Constant (.int j) _ _ => decide (i = j) | _ => false
  | .bl b, c => mkC fun x => match x with | .Constant (.bool d) _ _ => b == d | _ => false
  | .non, c => mkC fun x => match x with | .Constant .none _ _ => true | _ => false
  | .str x, c => mkC fun y => match y with | .Constant (.str y) _ _ => decide (x = y) | _ => false
  | .glb g, c => mkC fun x => match x with | .Name x _ => decide (c.gbs[g]? = some x) && glB c.sc x && plB x | _ => false
  | .bin op _ a b, c => mkC fun x => match x with | .BinOp l o r _ => isBop op o && (fR a c).e l && (fR b c).e r | _ => false
  | .neg a, c => mkC fun x => match x with | .UnaryOp .USub x _ => (fR a c).e x | _ => false
  | .nt a, c => mkC fun x => match x with | .UnaryOp .Not x _ => (fR a c).e x | _ => false
  | .an a b, c => mkC fun x => match x with | .BoolOp .And (x :: y :: r) p => (fR a c).e x && (fR b c).e (if r.isEmpty then y else .BoolOp .And (y :: r) p) | _ => false
  | .or a b, c => mkC fun x => match x with | .BoolOp .Or (x :: y :: r) p => (fR a c).e x && (fR b c).e (if r.isEmpty then y else .BoolOp .Or (y :: r) p) | _ => false
  | .cmp op a b, c => mkC fun x => match x with | .Compare x [o] [y] _ => isCop op o && notSet y && (fR a c).e x && (fR b c).e y | _ => false
  | .cm2 op op' a b d, c => mkC fun x => match x with | .Compare x [o, o'] [y, z] _ => isCop op o && isCop op' o' && op.plain && op'.plain && notSet y && notSet z && (fR a c).e x && (fR b c).e y && (fR d c).e z | _ => false
  | .isN neg a, c => mkC fun x => match x with | .Compare x [o] [.Constant .none _ _] _ => (match o with | .Is => !neg | .IsNot => neg | _ => false) && (fR a c).e x | _ => false
  | .ite a b d, c => mkC fun x => match x with | .IfExp x y z _ => tT a && (fR a c).e x && (fR b c).e y && (fR d c).e z | _ => false
  | .lst _ es, c => mkC fun x => match x with | .List xs _ => argB xs && (fR es c).l xs | _ => false
  | .tup es, c => mkC fun x => match x with | .Tuple xs _ _ => argB xs && (fR es c).l xs | _ => false
  | .dct _ es, c => mkC fun x => match x with | .Dict [] [] _ => true | _ => false
  | .dct1 _ k v, c => mkC fun x => match x with | .Dict [some a] [b] _ => (fR k c).e a && (fR v c).e b | _ => false
  | .ix a b, c => mkC fun x => match x with | .Subscript x y _ => notSlice y && (fR a c).e x && (fR b c).e y | _ => false
  | .dix a b, c => mkC fun x => match x with | .Subscript x y _ => notSlice y && (fR a c).e x && (fR b c).e y | _ => false
  | .sl _ a lo hi, c => mkC fun x => match x with | .Subscript x (.Slice l h none _) _ => (fR a c).e x && (fR lo c).p l && (fR hi c).p h | _ => false
  | .cal f es, c => mkC fun x => match x with | .Call (.Name x _) args [] _ => c.calm && decide (c.fns[f]? = some (x, args.length)) && glB c.sc x && plB x && argB args && (fR es c).l args | _ => false
  | .calK f k n nk perm es ks', c => mkC fun x => match x with
    | .Call (.Name x _) args kws _ => c.calm && (match c.kws[k]? with
      | some w => decide (w.f = f) && decide (w.perm = perm) && decide (w.n = n) && decide (args.length = n) && decide (kws.length = nk) && decide (kws.map (·.arg) = w.ks.map some)
      | none => false) && decide ((c.fns[f]?).map (·.1) = some x) && glB c.sc x && plB x && argB args && (fR es c).l args && (fR ks' c).l (kws.map (·.value))
    | _ => false
  | .lrg1 _ a, c => mkC fun x => match x with | .Call (.Name l _) [.Call (.Name r _) [x] [] _] [] _ => c.calm && decide (l = ("list" : Str)) && decide (r = ("range" : Str)) && glB c.sc l && glB c.sc r && notStar x && (fR a c).e x | _ => false
  | .lrg2 _ a b, c => mkC fun x => match x with | .Call (.Name l _) [.Call (.Name r _) [x, y] [] _] [] _ => c.calm && decide (l = ("list" : Str)) && decide (r = ("range" : Str)) && glB c.sc l && glB c.sc r && notStar x && notStar y && (fR a c).e x && (fR b c).e y | _ => false
  | .bi f _ es, c => mkC fun x => match x with | .Call (.Name x _) (y :: ys) [] _ => c.calm && decide (x = biName f) && glB c.sc x && argB (y :: ys) && (fR es c).l (y :: ys) | _ => false
  | .mt f o es, c => mkC fun x => match x with
    | .Call (.Attribute ox m ap) args [] cp => decide (m = mtName f) && (ap.endLine == cp.line) && notSuper ox && argB args && mtArity f args.length && (fR o c).e ox && (fR es c).l args
    | _ => false
  | .lc _ own t it cs e, c => mkC fun x => match x with
    | .ListComp elt [⟨tg, ix, ifs, 0⟩] scope _ => c.calm && notSet ix && blkB c scope own t && (tgB (c.blk scope) t tg && tupT it tg) && (fR it c).i ix && (fR cs (c.blk scope)).l ifs && tL cs && (fR e (c.blk scope)).e elt
    | _ => false
  | .frz a, c => mkC fun x => (fR a c).e x
  | .dc _ own t it cs k e, c => mkC fun x => match x with
    | .DictComp kx elt [⟨tg, ix, ifs, 0⟩] scope _ => c.calm && notSet ix && blkB c scope own t && (tgB (c.blk scope) t tg && tupT it tg) && (fR it c).i ix && (fR cs (c.blk scope)).l ifs && tL cs && (fR k (c.blk scope)).e kx && (fR e (c.blk scope)).e elt
    | _ => false
  | .rvs a, c => mkC fun x => match x with | .Subscript y (.Slice none (some (.Constant (.int 0) _ _)) (some (.UnaryOp .USub (.Constant (.int 1) _ _) _)) _) _ => (fR a c).e y | _ => false
  | .fld j a f, c => mkC fun x => match x with | .Attribute y g _ => decide (f = g) && c.has j (fun q => q.flds.contains f) && notSuper y && (fR a c).e y | _ => false
  | .prp j i a f, c => mkC fun x => match x with | .Attribute y g _ => c.calm && decide (f = g) && c.has j (fun q => q.prps.contains (f, i)) && notSuper y && (fR a c).e y | _ => false
  | .mk j i es, c => mkC fun x => match x with | .Call (.Name x _) (y :: ys) [] _ => c.calm && c.has j (fun q => decide (q.nm = x) && q.mets.contains ("__init__", i)) && glB c.sc x && plB x && argB (y :: ys) && (fR es c).l (y :: ys) | _ => false
  | .mkK j i k n nk perm es ks', c => mkC fun x => match x with
    | .Call (.Name x _) args kws _ => c.calm && (match c.kws[k]? with
      | some w => decide (w.f = i) && decide (w.perm = perm) && decide (w.n = n + 1) && decide (args.length = n) && decide (kws.length = nk) && decide (kws.map (·.arg) = w.ks.map some)
      | none => false) && c.has j (fun q => decide (q.nm = x) && q.mets.contains ("__init__", i)) && glB c.sc x && plB x && argB args && (fR es c).l args && (fR ks' c).l (kws.map (·.value))
    | _ => false
  | .lenO j i a, c => mkC fun x => match x with | .Call (.Name l _) [y] [] _ => c.calm && decide (l = ("len" : Str)) && c.has j (fun q => q.mets.contains ("__len__", i)) && glB c.sc l && notStar y && (fR a c).e y | _ => false
  | .eqO neg j i a b, c => mkC fun x => match x with | .Compare x [o] [y] _ => c.calm && (match o with | .Eq => !neg | .NotEq => neg | _ => false) && c.has j (fun q => q.mets.contains ("__eq__", i)) && notSet y && (fR a c).e x && (fR b c).e y | _ => false
  | .addO j i a b, c => mkC fun x => match x with | .BinOp l .Add r _ => c.calm && c.has j (fun q => q.mets.contains ("__add__", i)) && (fR a c).e l && (fR b c).e r | _ => false
  | .addN j i a b, c => mkC fun x => match x with | .BinOp l .Add r _ => c.calm && c.has j (fun q => q.mets.contains ("__add__", i)) && (fR a c).e l && (fR b c).e r | _ => false
  | .isO a j, c => mkC fun x => match x with | .Call (.Name f _) [y, .Name nm _] [] _ => c.calm && decide (f = ("isinstance" : Str)) && c.has j (fun q => decide (q.nm = nm)) && glB c.sc f && glB c.sc nm && plB nm && notStar y && (fR a c).e y | _ => false
  | .lset a, c => mkC fun x => match x with | .Call (.Name l _) [.Call (.Name s _) [y] [] _] [] _ => c.calm && decide (l = ("len" : Str)) && decide (s = ("set" : Str)) && glB c.sc l && glB c.sc s && notStar y && (fR a c).e y | _ => false
  | .dctI _ l, c => mkC fun x => match x with | .Dict ks vs _ => !l.isEmpty && decide (l.length ≤ 15) && dctB l ks vs | _ => false
  | .gdx t e, c => mkC fun x => match x with | .Subscript (.Name x _) y _ => decide (c.tas[t]? = some x) && glB c.sc x && plB x && notSlice y && (fR e c).e y | _ => false
  | .its d, c => ⟨fun _ => false, fun _ => false, fun x => match x with | some _ => false | none => false, fun x => match x with | .Call (.Attribute y m ap) [] [] cp => decide (m = ("items" : Str)) && (ap.endLine == cp.line) && notSuper y && (fR d c).e y | _ => false⟩
  | .vls d, c => ⟨fun _ => false, fun _ => false, fun x => match x with | some _ => false | none => false, fun x => match x with | .Call (.Attribute y m ap) [] [] cp => decide (m = ("values" : Str)) && (ap.endLine == cp.line) && notSuper y && (fR d c).e y | _ => false⟩
  | .enm a, c => ⟨fun _ => false, fun _ => false, fun x => match x with | some _ => false | none => false, fun x => match x with | .Call (.Name r _) [x] [] _ => decide (r = ("enumerate" : Str)) && glB c.sc r && notStar x && (fR a c).e x | _ => false⟩
  | .zp a b, c => ⟨fun _ => false, fun _ => false, fun x => match x with | some _ => false | none => false, fun x => match x with | .Call (.Name r _) [x, y] [] _ => decide (r = ("zip" : Str)) && glB c.sc r && notStar x && notStar y && (fR a c).e x && (fR b c).e y | _ => false⟩
  | .excv j, c => mkC fun x => match x with | .Call (.Name y _) [.Constant (.str _) _ _] [] _ => decide (c.exs[j]? = some y) && glB c.sc y && plB y | _ => false
  | .isC a cs, c => mkC fun x => match x with | .Call (.Name f _) [y, z] [] _ => c.calm && decide (f = ("isinstance" : Str)) && glB c.sc f && notStar y && cnT c cs z && (fR a c).e y | _ => false
  | .gdxS t e, c => mkC fun x => match x with | .Subscript (.Name x _) y _ => decide (c.tss[t]? = some x) && glB c.sc x && plB x && notSlice y && (fR e c).e y | _ => false
  | .dctS _ l, c => mkC fun x => match x with | .Dict ks vs _ => !l.isEmpty && decide (l.length ≤ 15) && dctC l ks vs | _ => false
  | .gcd2 a b, c => mkC fun x => match x with | .Call (.Name f _) [y, z] [] _ => c.gcd && decide (f = ("gcd" : Str)) && glB c.sc f && notStar y && notStar z && (fR a c).e y && (fR b c).e z | _ => false
  | .rvL _ a, c => mkC fun x => match x with | .Subscript y (.Slice none none (some (.UnaryOp .USub (.Constant (.int 1) _ _) _)) _) _ => (fR a c).e y | _ => false
  | .lc2 _ own t it cs t1 it1 cs1 e, c => mkC fun x => match x with
    | .ListComp elt [⟨tg, ix, ifs, 0⟩, ⟨tg1, ix1, ifs1, 0⟩] scope _ => c.calm && notSet ix && notSet ix1 && blkB c scope own t && t1.slots.all (fun i => (own.map (·.2)).contains i) && (tgB (c.blk scope) t tg && tupT it tg) && (tgB (c.blk scope) t1 tg1 && tupT it1 tg1) && (fR it c).i ix && (fR it1 (c.blk scope)).i ix1 && (fR cs (c.blk scope)).l ifs && tL cs && (fR cs1 (c.blk scope)).l ifs1 && tL cs1 && (fR e (c.blk scope)).e elt
    | _ => false
  | .tyI neg a t, c => mkC fun x => match x with
    | .Compare (.Call (.Name ty _) [x] [] _) [o] [.Name nm _] _ => c.calm && (match o with | .Is => !neg | .IsNot => neg | _ => false) && decide (ty = ("type" : Str)) && decide (nm = (t.name : Str)) && glB c.sc ty && glB c.sc nm && notStar x && (fR a c).e x
    | _ => false
  | .isI a t, c => mkC fun x => match x with | .Call (.Name f _) [y, .Name nm _] [] _ => c.calm && decide (f = ("isinstance" : Str)) && decide (nm = (t.name : Str)) && glB c.sc f && glB c.sc nm && notStar y && (fR a c).e y | _ => false
  | .inO j i a b, c => mkC fun x => match x with | .Compare x [.In] [y] _ => c.calm && c.has j (fun q => q.mets.contains ("__eq__", i)) && notSet y && (fR a c).e x && (fR b c).e y | _ => false
  | .rgv a, c => mkC fun x => match x with | .Call (.Name r _) [x] [] _ => c.calm && decide (r = ("range" : Str)) && glB c.sc r && notStar x && (fR a c).e x | _ => false
  | .wrg a, c => ⟨fun _ => false, fun _ => false, fun x => match x with | some _ => false | none => false, fun x => match x with | .Name n p => (fR a c).e (.Name n p) | _ => false⟩
  | .rg1 a, c => ⟨fun _ => false, fun _ => false, fun x => match x with | some _ => false | none => false, fun x => match x with | .Call (.Name r _) [x] [] _ => decide (r = ("range" : Str)) && glB c.sc r && notStar x && (fR a c).e x | _ => false⟩
  | .rg2 a b, c => ⟨fun _ => false, fun _ => false, fun x => match x with | some _ => false | none => false, fun x => match x with | .Call (.Name r _) [x, y] [] _ => decide (r = ("range" : Str)) && glB c.sc r && notStar x && notStar y && (fR a c).e x && (fR b c).e y | _ => false⟩
  | .no, c => ⟨fun _ => false, fun _ => false, fun x => x.isNone, fun _ => false⟩
  | .nil, c => ⟨fun _ => false, fun xs => xs.isEmpty, fun x => match x with | some _ => false | none => false, fun _ => false⟩
  | .cons a r, c => ⟨fun _ => false, fun xs => match xs with | x :: xs => (fR a c).e x && (fR r c).l xs | [] => false, fun x => match x with | some _ => false | none => false, fun _ => false⟩
set_option maxHeartbeats 0 in
theorem fR_ok : ∀ (e : Ex) (c : Cz), (∀ x, (fR e c).e x = chkE c e x) ∧ (∀ x, (fR e c).l x = chkL c e x) ∧ (∀ x, (fR e c).p x = chkP c e x) ∧ ∀ x, (fR e c).i x = chkI c e x := by
  intro e
  induction e <;> intro c <;> refine ⟨fun x => ?_, fun x => ?_, fun x => ?_, fun x => ?_⟩
  all_goals first
    | (unfold chkE; simp only [fR, mkC, *]; done)
    | (unfold chkE; simp only [fR, mkC, *]; rfl)
    | (unfold chkL; simp only [fR, mkC, *]; done)
    | (unfold chkL; simp only [fR, mkC, *]; rfl)
    | (unfold chkP; unfold chkE; simp only [fR, mkC, *]; done)
    | (unfold chkP; unfold chkE; simp only [fR, mkC, *]; rfl)
    | (unfold chkP; simp only [fR, mkC, *]; done)
    | (unfold chkP; simp only [fR, mkC, *]; rfl)
    | (unfold chkI; unfold chkE; simp only [fR, mkC, *]; done)
    | (unfold chkI; unfold chkE; simp only [fR, mkC, *]; rfl)
    | (unfold chkI; simp only [fR, mkC, *]; done)
    | (unfold chkI; simp only [fR, mkC, *]; rfl)
    | skip
theorem fR_e (e : Ex) (c : Cz) (x : Expr) : (fR e c).e x = chkE c e x := (fR_ok e c).1 x
theorem fR_i (e : Ex) (c : Cz) (x : Expr) : (fR e c).i x = chkI c e x := (fR_ok e c).2.2.2 x
end Zk

namespace Zk
open PySem PySem.Spec PyProof.Rows L2

/-! ### try .. except X as e, where what was caught stays known -/
/-- an error that was caught: its class, its dict -/
def ExT (cls : Value) (d : Option Addr) (a : Addr) : HO := .ext fun h => ∃ (oe : Obj) (vs : Array Value), h.get? a = some oe ∧ Zc cls d oe ∧ oe.data = .fields vs
section
variable {X : Cx} {pins : List (Addr × Obj)} {σ : L2.St} {H : Hp} {s : Shared}
theorem Inv.track {a : Addr} {o : HO} (I : Inv X pins σ H s) (na : H a = none) (n0 : X.s_0.heap.get? a = none) (nL : a ≠ X.env.locals) (nc : ∀ ob, s.heap.get? a = some ob → ∀ v, ob.data ≠ .cell v) (np : ∀ p ∈ X.pn ++ pins, p.1 ≠ a)
    (new : ObjOk X.prog X.w (upd H a o) s.heap a o) : Inv X pins σ (upd H a o) s := by
  have ne : ∀ {b : Addr} {u : HO}, H b = some u → b ≠ a := fun {b u} e z => by rw [z, na] at e; cases e
  refine ⟨I.ok, I.os, I.bare, ⟨I.base.keep, I.base.slot, fun b ob e n hx => ?_, I.base.there, fun b xs e => ?_, fun b ob u e => ?_, fun b ps e => ?_⟩, I.loc, I.cell, ?_, fun x c e => ?_, fun p hp => ?_, fun b u e => ?_, I.len⟩
  · rw [upd_ne (fun z => by rw [z, n0] at e; cases e)]; exact I.base.free b ob e n hx
  · have q := I.base.tups b xs e
    rw [upd_ne (ne q)]; exact q
  · have q := I.base.frzs b ob u e
    rw [upd_ne (ne q)]; exact q
  · obtain ⟨m, q⟩ := I.base.tbls b ps e
    exact ⟨m, by rw [upd_ne (ne q)]; exact q⟩
  · rw [upd_ne (Ne.symm nL)]; exact I.free
  · obtain ⟨v, ob, ho, hd⟩ := I.cell x c e
    rw [upd_ne (fun z => by rw [z] at ho; exact nc ob ho v hd)]
    exact I.freeC x c e
  · obtain ⟨e, n, r⟩ := I.pin p hp
    exact ⟨e, by rw [upd_ne (np p hp)]; exact n, r⟩
  · by_cases hb : b = a
    · subst hb
      rw [upd_same] at e
      cases e
      exact new
    · rw [upd_ne hb] at e
      exact (I.hok b u e).stay (fun c v _ q => q) (fun c q => by rw [upd_ne (ne_of_none q na)]; exact q) fun c xs q => by rw [upd_ne (ne_of_none q na)]; exact q
end
/-- what an exception out of the body is wished to meet: the suite with the name, then the name is gone; what was caught is known from then on -/
def wAsT (K : PySem.W.Frag) (c : Value) (i : Nat) (ts : Addr → Value → Option Addr → TS) (Wout : WX) (D : Ends) : WX := fun cls d σ H =>
  ∃ b, PySem.W.exmOne K cls c = some b ∧ (b = true → ∀ a, H a = none → ts a cls d { nx := fun σ' H' => H' a = none → D.nx (σ'.set i none) (upd H' a (ExT cls d a)), rt := fun v H' => H' a = none → D.rt v (upd H' a (ExT cls d a)), bk := fun σ' H' => H' a = none → D.bk (σ'.set i none) (upd H' a (ExT cls d a)), ct := fun σ' H' => H' a = none → D.ct (σ'.set i none) (upd H' a (ExT cls d a)) } (σ.set i (some (.ref a))) H) ∧
    (b = false → Wout cls d σ H)
section
variable {X : Cx} {x n : Str} {c : Value} {i : Nat} {body suite : List Stmt} {b₀ : Stmt} {np pos pos' : Pos} {tb : WX → TS} {ts : Addr → Value → Option Addr → TS} {Wout : WX}
theorem ps_try_asT (hex : X.ex = []) (hs : X.stack = X.env :: X.outer) (hf : X.env.frame = some X.env.locals) (hN : X.N.Nodup) (hi : X.N[i]? = some n) (hln : X.env.kindOf n = some .local) (hc : Names X x c) (tk : Takes X Wout)
    (hb : ∀ (W : WX) (pn : List (Addr × Obj)) (xe : Value → Shared → Prop), Takes (X.tr pn xe) W → PassesOwn (model X.prog X.w) X.A X.env xe → PSs (X.tr pn xe) body (tb W))
    (hsu : ∀ (a : Addr) (oe : Obj) (cls : Value) (d : Option Addr) (pn : List (Addr × Obj)), Zc cls d oe → (∃ vs, oe.data = .fields vs) → PSs (X.suite a ((a, oe) :: pn)) (b₀ :: suite) (ts a cls d)) :
    PS X (.Try body [.ExceptHandler (some (.Name x np)) (some n) (b₀ :: suite) pos'] [] [] pos) (fun D σ H => tb (wAsT X.K c i ts Wout D) D σ H) := by
  refine ⟨fun pins s σ H D I h => ?_⟩
  have ok := I.ok
  have hfr : X.A.frames = some (X.env :: X.outer) := by rw [ok.frames, hs]
  have hloc : Loc X.env.scope n := .inl hln
  refine wpAny_Try_except ?_
  refine wpAny_mono ((hb (wAsT X.K c i ts Wout D) (X.pn ++ pins) (fun e s₁ => wpAny (model X.prog X.w) X.A (noteFrame e X.env) (fun _ s₂ => wpAny (model X.prog X.w) X.A (setFlight e none) (fun _ s₃ =>
    wpAny (model X.prog X.w) X.A (handleBy e X.env [.ExceptHandler (some (.Name x np)) (some n) (b₀ :: suite) pos']) (SP X pins D) X.xe s₃) X.xe s₂) X.xe s₁) (fun u s' xx => ?_) PassesOwn.looking).run [] s σ H D (I.toTry _) h) (fun f s1 hsp => ?_) (fun e s1 he => he)
  · -- the catch
    obtain ⟨a, B, sI, pins', σ', H', cls, d, rfl, J', nb, up, sky, na, os, ag, b, hb1, hyes, hno⟩ := xx
    have J : Inv X pins σ' H' sI := J'.ofTry ok
    have sky' : Sky B (X.env :: X.outer) a (Zc cls d) X.env.locals s'.heap := by rw [← hs]; exact sky
    show wpAny (model X.prog X.w) X.A (noteFrame (.ref a) X.env) _ _ _
    refine Sky.land Zc.steady hfr hf sky' fun h3 fl3 up3 => ?_
    have J3 : Inv X pins σ' H' { s' with heap := h3 } := J.landed nb fl3.1 (up.trans up3) os ag
    obtain ⟨oe3, vs3, he3, hz3, hd3⟩ := fl3.there
    have notFr : ∀ {h : Heap} {o : Obj} {vs : Array Value}, h.FunFrames B (X.env :: X.outer) → h.get? a = some o → o.data = .fields vs → a ∉ frs (X.env :: X.outer) := fun {h o vs} ff e dd hm => by
      obtain ⟨_, o', e', hnf⟩ := ff.mem hm
      rw [e] at e'; cases e'
      exact hnf _ dd
    have nfr := notFr fl3.2.2.1 he3 hd3
    have nL : a ≠ X.env.locals := fun z => nfr (List.mem_filterMap.mpr ⟨X.env, List.mem_cons_self, by rw [hf, z]⟩)
    have nF : a ∉ X.fs := fun hm => by
      obtain ⟨e, he, q⟩ := List.mem_filterMap.mp hm
      exact nfr (List.mem_filterMap.mpr ⟨e, List.mem_cons_of_mem _ he, q⟩)
    -- it is new
    have nI : sI.heap.get? a = none := by
      cases e : sI.heap.get? a with
      | none => rfl
      | some o =>
        have := nb a o e (by rw [hs]; exact nfr)
        rw [fl3.2.1] at this; cases this
    have n0 : X.s_0.heap.get? a = none := by
      cases e : X.s_0.heap.get? a with
      | none => rfl
      | some o =>
        obtain ⟨o', q⟩ := J.base.there a o e (by rw [hex]; exact fun z => nomatch z)
        rw [nI] at q; cases q
    have npn : ∀ p ∈ X.pn ++ pins, p.1 ≠ a := fun p hp z => by
      have := (J.pin p hp).1
      rw [z, nI] at this; cases this
    have S3 := J3.suite he3 hd3 na nL nF
    refine wpAny_handleBy_cons (codeAny_handlers_test ?_) (by intro q; cases q)
    have LT : PySem.W.Looks (model X.prog X.w) h3 (typeOf (.ref a)) cls := fun A Q E s k q => wpAny_typeOf_ref (k _ _ he3) (by rw [hz3.1]; exact q)
    have LM := PySem.W.exm_one (M := model X.prog X.w) (J3.kIn) LT hb1
    have test : ∀ {Q : Value → Shared → Prop} {E : Value → Shared → Prop}, Q c { s' with heap := h3 } → wpAny (model X.prog X.w) (X.A.mark (some (.ref a))) (eval (.Name x np) X.env) Q E { s' with heap := h3 } := fun {Q E} q => by
      obtain ⟨hg, hdbg, hm | ⟨hm, hv, hnn⟩⟩ := hc
      · exact ld_glob (X := X.suite a ((a, oe3) :: (X.pn ++ pins))) S3 hg hm q hdbg
      · exact ld_blt (X := X.suite a ((a, oe3) :: (X.pn ++ pins))) S3 hg hm hv q hnn hdbg
    refine test (LM.here ?_)
    cases b with
    | true =>
      refine codeAny_handlers_suite_as ?_
      refine HandSPX.lands_againZ fl3 fun h4 fl4 up4 => ?_
      have J4 : Inv X pins σ' H' { s' with heap := h4 } := J.landed nb fl4.1 ((up.trans up3).trans up4) os ag
      obtain ⟨oe4, vs4, he4, hz4, hd4⟩ := fl4.there
      have S4 := J4.suite he4 hd4 na nL nF
      refine store_ok (X := X.suite a ((a, oe4) :: (X.pn ++ pins))) (v := .ref a) S4 hN hi hloc rfl (fun s5 S5 => ?_) (.inr hln)
      refine wpAny_mono ((hsu a oe4 cls d (X.pn ++ pins) hz4 ⟨_, hd4⟩).run [] s5 _ H' _ S5 (hyes rfl a na)) (fun f s6 hsp => ?_) (fun _ _ z => False.elim z)
      have end_ : ∀ {σ6 : L2.St} {H6 : Hp} {Q : Shared → Prop}, Inv (X.suite a ((a, oe4) :: (X.pn ++ pins))) [] σ6 H6 s6 → (H6 a = none → ∀ s7, Inv X pins (σ6.set i none) (upd H6 a (ExT cls d a)) s7 → Q s7) →
          wpAny (model X.prog X.w) X.A (do bindName X.env n .none; unbindBehindTheSuite X.env n pos') (fun _ s7 => Q s7) X.xe s6 := fun {σ6 H6 Q} S6 hq => by
        obtain ⟨p1, p2, _⟩ := S6.pin (a, oe4) (List.mem_append.mpr (.inl List.mem_cons_self))
        have J6 := S6.unsuite ok
        have T6 : Inv X pins σ6 (upd H6 a (ExT cls d a)) s6 := Zk.Inv.track J6 p2 n0 nL (fun ob e v z => by rw [p1] at e; cases e; rw [hd4] at z; cases z) npn
          ⟨⟨oe4, vs4, p1, hz4, hd4⟩, ⟨oe4, p1⟩, fun _ _ ⟨o, v, q, r⟩ k => ⟨o, v, k o q, r⟩⟩
        exact gone_ok T6 hN hi hln (hq p2)
      cases f with
      | next =>
        obtain ⟨σ6, H6, S6, q6⟩ := hsp
        exact end_ S6 fun hn s7 J7 => ⟨_, _, J7, q6 hn⟩
      | brk =>
        obtain ⟨σ6, H6, S6, q6⟩ := hsp
        exact end_ S6 fun hn s7 J7 => ⟨_, _, J7, q6 hn⟩
      | cont =>
        obtain ⟨σ6, H6, S6, q6⟩ := hsp
        exact end_ S6 fun hn s7 J7 => ⟨_, _, J7, q6 hn⟩
      | ret u =>
        obtain ⟨v6, σ6, H6, S6, r6, q6⟩ := hsp
        exact end_ S6 fun hn s7 J7 => ⟨_, _, _, J7, r6, q6 hn⟩
    | false =>
      show wpAny _ X.A (handleBy (.ref a) X.env []) _ _ _
      refine wpAny_handleBy_nil ?_
      obtain ⟨k1, k2, k3, oe, vs, T, oT, ts', he, hz, hd, h1, hr⟩ := id fl3
      unfold PySem.passOn
      refine wpAny_bind (wpAny_field he hd h1 ?_)
      rw [if_neg (show ¬ ((Value.ref T == Value.none) = true) from by simp)]
      have fin : wpAny (model X.prog X.w) X.A (setFlight (.ref a) X.env.frame) (fun _ s4 => wpAny (model X.prog X.w) X.A (throw (.ref a) : Sem Flow) (SP X pins D) X.xe s4) X.xe { s' with heap := h3 } := by
        rw [hf]
        refine HandSPX.setFlight_upZ fl3 fun h4 hh4 up4 => wpAny_throw (tk _ _ ?_)
        exact ⟨a, B, sI, pins, σ', H', cls, d, rfl, J, nb, (up.trans up3).trans up4, .inr (.inr (by rw [hs]; exact hh4)), na, os, ag, hno rfl⟩
      first
        | exact wpAny_bind (wpAny_pure (wpAny_bind fin))
        | exact wpAny_bind fin
  · cases f with
    | next =>
      obtain ⟨σ', H', J', q⟩ := hsp
      exact wpAny_execs_nil ⟨σ', H', J'.ofTry ok, q⟩
    | brk =>
      obtain ⟨σ', H', J', q⟩ := hsp
      exact ⟨σ', H', J'.ofTry ok, q⟩
    | cont =>
      obtain ⟨σ', H', J', q⟩ := hsp
      exact ⟨σ', H', J'.ofTry ok, q⟩
    | ret u =>
      obtain ⟨v, σ', H', J', r, q⟩ := hsp
      exact ⟨v, σ', H', J'.ofTry ok, r, q⟩
end
end Zk

namespace Zk
open PySem PySem.Spec PyProof.Rows L2

/-! ### statements -/
def KN (K : PySem.W.Frag) (ω : Wd) (st : Sto) (H : Hp) (P : Env' → Sto → Prop) (P' : L2.St → Hp → Prop) : Prop :=
  ∀ ω' env' σ' st' H', Stp ω st H ω' st' H' → StR K ω' st' H' → EnvR K ω' env' σ' → P env' st' → P' σ' H'
structure KD (T : Tb) (K : PySem.W.Frag) (Wx : WX) (ω : Wd) (st : Sto) (H : Hp) (D : En) (D' : Ends) : Prop where
  nx : KN K ω st H D.nx D'.nx
  rt : KQ K ω st H D.rt D'.rt
  bk : KN K ω st H D.bk D'.bk
  ct : KN K ω st H D.ct D'.ct
  ex : ∀ ω' x env' σ' st' H' d, Stp ω st H ω' st' H' → StR K ω' st' H' → EnvR K ω' env' σ' → D.ex x env' st' → (x.2 = none → d = none) → Wx (.ref (T.exA x.1)) d σ' H'
def TSo (T : Tb) (K : PySem.W.Frag) (Wx : WX) (m : Env' → Sto → En → Prop) : TS := fun D' σ H => ∃ ω env st D, EnvR K ω env σ ∧ StR K ω st H ∧ m env st D ∧ KD T K Wx ω st H D D'
theorem ps_imp {X : Cx} {e : Stmt} {t t' : TS} (h : PS X e t) (w : ∀ D σ H, t' D σ H → t D σ H) : PS X e t' := ⟨fun pins s σ H D I q => h.run pins s σ H D I (w D σ H q)⟩
theorem pss_imp {X : Cx} {e : List Stmt} {t t' : TS} (h : PSs X e t) (w : ∀ D σ H, t' D σ H → t D σ H) : PSs X e t' := ⟨fun pins s σ H D I q => h.run pins s σ H D I (w D σ H q)⟩
section
variable {T : Tb} {K : PySem.W.Frag} {Wx : WX} {ω ω' : Wd} {st st' : Sto} {H H' : Hp} {D : En} {D' : Ends}
theorem KN.on {P : Env' → Sto → Prop} {P' : L2.St → Hp → Prop} (k : KN K ω st H P P') (s : Stp ω st H ω' st' H') : KN K ω' st' H' P P' := fun _ _ _ _ _ t => k _ _ _ _ _ (s.trans t)
theorem KN.at {P : Env' → Sto → Prop} {P' : L2.St → Hp → Prop} (k : KN K ω st H P P') {env : Env'} {σ : L2.St} (S : StR K ω st H) (E : EnvR K ω env σ) (q : P env st) : P' σ H := k _ _ _ _ _ .refl S E q
theorem KD.on (k : KD T K Wx ω st H D D') (s : Stp ω st H ω' st' H') : KD T K Wx ω' st' H' D D' := ⟨k.nx.on s, k.rt.on s, k.bk.on s, k.ct.on s, fun _ _ _ _ _ _ _ t => k.ex _ _ _ _ _ _ _ (s.trans t)⟩
theorem KD.kx (k : KD T K Wx ω st H D D') {env : Env'} {σ : L2.St} (E : EnvR K ω env σ) : KX T K ω st H (fun x s => D.ex x env s) fun c d H' => Wx c d σ H' := fun ω' x st' H' d t S q => k.ex _ _ _ _ _ _ _ t S (E.up t.le) q
/-- an expression of a statement, then what follows -/
theorem KD.step {m : Env' → Sto → XPo → Po → Prop} {σ : L2.St} {env : Env'} {f : W → Sto → Prop} {Q' : VK} (k : KD T K Wx ω st H D D') (E : EnvR K ω env σ) (S : StR K ω st H) (h : m env st (fun x s => D.ex x env s) f)
    (n : ∀ ω' w v st' H', Stp ω st H ω' st' H' → StR K ω' st' H' → EnvR K ω' env σ → Rel K ω' w v → f w st' → KD T K Wx ω' st' H' D D' → Q' v H') : TO T K Wx m σ H Q' :=
  TO.step E S h (k.kx E) fun ω' w v st' H' t S' E' r q _ => n _ _ _ _ _ t S' E' r q (k.on t)
end
def isLC : Expr → Bool
  | .ListComp .. => true | _ => false
/-- a store that the list comprehension's own end does -/
def swB (sc : Scope) (y : Str) (p : Pos) (scope : Scope) (vp : Pos) : Bool :=
  ((if sc.kind.isAnnotationScope then .function else sc.kind) == ScopeKind.function) && sc.names.lookup y == some .local && p.line == vp.line && !(scope.names.any fun (n, k) => n == y && (k == .local || k == .cell))
theorem sw_lc {X : Cx} {sc : Scope} (hs : X.env.scope = sc) {elt : Expr} {gs : List Comprehension} {scope : Scope} {vp p : Pos} {y : Str} {l : Nat} : swapsWith (.ListComp elt gs scope vp) (some (.Name y p)) l X.env = pure (swB sc y p scope vp) := by
  subst hs; rfl
theorem sw_dc {X : Cx} {sc : Scope} (hs : X.env.scope = sc) {kx elt : Expr} {gs : List Comprehension} {scope : Scope} {vp p : Pos} {y : Str} {l : Nat} : swapsWith (.DictComp kx elt gs scope vp) (some (.Name y p)) l X.env = pure (swB sc y p scope vp) := by
  subst hs; rfl
def setB (c : Cz) (y : Str) (p : Pos) : Ex → Expr → Bool
  | .lc .., .ListComp _ _ scope vp => !swB c.sc y p scope vp || (match c.sc.names.lookup y with | some .local => true | _ => false)
  | .lc2 .., .ListComp _ _ scope vp => !swB c.sc y p scope vp || (match c.sc.names.lookup y with | some .local => true | _ => false)
  | _, .ListComp _ _ scope vp => !swB c.sc y p scope vp
  | _, .SetComp .. => false
  | .dc m .., .DictComp _ _ _ scope vp => !swB c.sc y p scope vp || (m && (match c.sc.names.lookup y with | some .local => true | _ => false))
  | _, .DictComp .. => false
  | _, _ => true
def notTup : Expr → Bool
  | .Tuple .. => false | _ => true
def augB : Bo → Operator → Bool
  | .add, .Add => true | .sub, .Sub => true | _, _ => false
def parB (sc : Scope) (x y : Str) (px py : Pos) (a b : Expr) : Bool :=
  ((if sc.kind.isAnnotationScope then .function else sc.kind) == ScopeKind.function) && (sc.names.lookup x == some .local) && (sc.names.lookup y == some .local) && (py.line == px.line) && decide (x ≠ y) && notStar a && notStar b &&
    !(foldedForSure 8 a && foldedForSure 8 b) && !(constantsAlone 8 a && constantsAlone 8 b)
theorem par_ok {X : Cx} {sc : Scope} (hs : X.env.scope = sc) {x y : Str} {px py pt pt2 : Pos} {kt k2 : Nat} {a b : Expr} (h : parB sc x y px py a b = true) :
    swappedStores [.Tuple [.Name x px, .Name y py] kt pt] (.Tuple [a, b] k2 pt2) X.env = pure (some [x, y]) := by
  subst hs
  simp only [parB, Bool.and_eq_true, Bool.not_eq_true', decide_eq_true_eq] at h
  obtain ⟨⟨⟨⟨⟨⟨⟨⟨h1, h2⟩, h3⟩, h4⟩, h5⟩, h6⟩, h7⟩, h8⟩, h9⟩ := h
  have e1 : X.env.kindOf x = some .local := by simpa [Env.kindOf] using h2
  have e2 : X.env.kindOf y = some .local := by simpa [Env.kindOf] using h3
  have e3 : X.env.blockKind = .function := by unfold Env.blockKind; simpa using h1
  have s1 : ∀ {e : Expr}, notStar e = true → (match e with | .Starred .. => true | _ => false) = false := fun {e} h => by
    cases e <;> first | rfl | cases h
  have e4 : [a, b].any (fun | .Starred .. => true | _ => false) = false := by
    rw [List.any_cons, List.any_cons, List.any_nil, Bool.or_false, Bool.or_eq_false_iff]
    exact ⟨s1 h6, s1 h7⟩
  have e5 : (y == x) = false := by simpa using fun z => h5 z.symm
  unfold swappedStores
  simp only [e3, e4, List.length_cons, List.length_nil, List.filterMap_cons, List.filterMap_nil, e1, e2, Expr.pos, List.head?_cons, Option.map_some, Option.getD_some, h4, beq_self_eq_true, Bool.and_self, if_true, List.all_cons, List.all_nil, Bool.and_true, h8, h9]
  simp [List.eraseDups, List.eraseDupsBy, List.eraseDupsBy.loop, e5, h5]
  intro z
  exfalso
  rcases z with z | z
  · cases a <;> first | exact absurd z Bool.false_ne_true | exact absurd h6 Bool.false_ne_true
  · cases b <;> first | exact absurd z Bool.false_ne_true | exact absurd h7 Bool.false_ne_true
/-- some target is a name that no fast local is -/
def nlE (sc : Scope) : Expr → Bool
  | .Name y _ => (match sc.names.lookup y with | some .local => false | _ => true)
  | _ => true
theorem fm_lt {α β : Type} {f : α → Option β} {p : α → Bool} (h : ∀ x, p x = true → f x = none) : ∀ {l : List α}, l.any p = true → (l.filterMap f).length < l.length
  | [], e => by cases e
  | a :: l, e => by
    rw [List.filterMap_cons]
    by_cases q : p a = true
    · rw [h a q]
      exact Nat.lt_succ_of_le (List.length_filterMap_le ..)
    · have e' : l.any p = true := by
        rw [List.any_cons] at e
        simpa [q] using e
      have := fm_lt h e'
      cases f a with
      | none => exact Nat.lt_succ_of_lt this
      | some b => exact Nat.succ_lt_succ this
theorem sw_nl {X : Cx} {sc : Scope} (hs : X.env.scope = sc) {es vs : List Expr} {k k2 : Nat} {p p2 : Pos} (h : es.any (nlE sc) = true) : swappedStores [.Tuple es k p] (.Tuple vs k2 p2) X.env = pure none := by
  subst hs
  unfold swappedStores
  dsimp only
  split
  · rfl
  · split
    · rfl
    · refine if_pos (Bool.or_eq_true_iff.mpr (.inl (bne_iff_ne.mpr (Nat.ne_of_lt (fm_lt (p := nlE X.env.scope) (fun x hx => ?_) h)))))
      cases x <;> first | rfl | skip
      rename_i y q
      have : ¬ X.env.kindOf y = some .local := fun z => by
        have z' : X.env.scope.names.lookup y = some .local := by simpa [Env.kindOf] using z
        simp [nlE, z'] at hx
      simp [this]
mutual
def chk1 (c : Cz) : Sm → Stmt → Bool
  | .pas, x => match x with | .Pass _ => true | .Expr (.Constant (.str _) _ _) _ => true | _ => false
  | .ex e, x => match x with | .Expr y _ => notComp y && (fR e c).e y | _ => false
  | .set i e, x => match x with | .Assign [.Name y p] v _ => decide (c.N[i]? = some y) && stB c y && setB c y p e v && (fR e c).e v | _ => false
  | .unp is e, x => match x with | .Assign [.Tuple es k p] v _ => c.calm && tgB c (.tup is) (.Tuple es k p) && (notTup v || es.any (nlE c.sc)) && notComp v && (fR e c).e v | _ => false
  | .put o i e, x => match x with | .Assign [.Subscript ox ix _] v _ => notSlice ix && (fR e c).e v && (fR o c).e ox && (fR i c).e ix | _ => false
  | .dput o i e, x => match x with | .Assign [.Subscript ox ix _] v _ => (fR e c).e v && (fR o c).e ox && (fR i c).e ix | _ => false
  | .sfld j o f e, x => match x with | .Assign [.Attribute ox g _] v _ => decide (f = g) && c.has j (fun q => q.flds.contains f) && notComp v && (fR e c).e v && (fR o c).e ox | _ => false
  | .ret e, x => match x with | .Return (some v) _ => (fR e c).e v | _ => false
  | .retN, x => match x with | .Return none _ => true | _ => false
  | .ife t a b, x => match x with | .If tx ax bx _ => tT t && (fR t c).e tx && chkS c a ax && chkS c b bx | _ => false
  | .ifd i a b, x => match x with | .If tx ax bx _ => plainT tx && (fR (.var i) c).e tx && chkS c a ax && chkS c b bx | _ => false
  | .whl t b, x => match x with | .While tx bx [] _ => c.calm && tT t && (fR t c).e tx && chkS c b bx | _ => false
  | .frc t it b, x => match x with | .For tg ix bx [] _ => c.calm && notSet ix && (tgB c t tg && tupT it tg) && (fR it c).i ix && chkS c b bx | _ => false
  | .aug i op e, x => match x with | .AugAssign (.Name y _) o v _ => decide (c.N[i]? = some y) && stB c y && augB op o && (fR e c).e v | _ => false
  | .brk, x => match x with | .Break _ => true | _ => false
  | .cnt, x => match x with | .Continue _ => true | _ => false
  | .nev, _ => true
  | .par i j a b, x => match x with | .Assign [.Tuple [.Name y py, .Name z pz] _ _] (.Tuple [u, v] _ _) _ => c.calm && decide (i ≠ j) && decide (c.N[i]? = some y) && decide (c.N[j]? = some z) && parB c.sc y z py pz u v && (fR a c).e u && (fR b c).e v | _ => false
  | .put2 o i p j a b, x => match x with | .Assign [.Tuple [.Subscript ox ix _, .Subscript px jx _] _ _] (.Tuple [u, v] _ _) _ => c.calm && notStar u && notStar v && notSlice ix && notSlice jx && (fR a c).e u && (fR b c).e v && (fR o c).e ox && (fR i c).e ix && (fR p c).e px && (fR j c).e jx | _ => false
  | .frd .., _ => false
  | .rse j, x => match x with | .Raise (some (.Call (.Name y _) [.Constant (.str _) _ _] [] _)) none _ => c.calm && decide (c.exs[j]? = some y) && glB c.sc y && plB y | _ => false
  | .tri b h, x => match x with | .Try bx (h0 :: hx) [] [] _ => c.calm && chkS c b bx && chkH c h (h0 :: hx) | _ => false
  | .hnd .., _ => false
  | .triC b j k cs i t, x => match x with
    | .Try bx [.ExceptHandler (some (.Name y _)) (some n) [.Assign [.Name z _] (.Name n2 _) _] _] [] [] _ => c.calm && chkS c b bx && decide (c.exs[j]? = some y) && decide (c.em[j]? = some cs) && decide (k = c.exs.length) && glB c.sc y && plB y &&
        decide (n2 = n) && decide (i ≠ t) && decide (c.N[i]? = some n) && decide (c.N[t]? = some z) && (match c.sc.names.lookup n with | some .local => true | _ => false) && stB c z && plB n
    | _ => false
  | .augO i j k e, x => match x with | .AugAssign (.Name y _) .Add v _ => c.calm && decide (c.N[i]? = some y) && stB c y && c.has j (fun q => q.mets.contains ("__add__", k)) && (fR e c).e v | _ => false
  | .nil, _ => false
  | .cons .., _ => false
def chkS (c : Cz) : Sm → List Stmt → Bool
  | .nil, xs => xs.isEmpty
  | .cons a r, xs => match xs with | x :: xs => chk1 c a x && chkS c r xs | [] => false
  | .nev, _ => true
  | _, _ => false
def chkH (c : Cz) : Sm → List ExceptHandler → Bool
  | .hnd j k cs s r, xs => match xs with
    | .ExceptHandler (some (.Name y _)) none (b0 :: sx) _ :: xs => decide (c.exs[j]? = some y) && decide (c.em[j]? = some cs) && decide (k = c.exs.length) && glB c.sc y && plB y && chkS { c with calm := false } s (b0 :: sx) && chkH c r xs
    | _ => false
  | .nil, xs => xs.isEmpty
  | _, _ => false
end
section
variable {T : Tb} {n : Nat} {C : Calls}
/-- what loops and try want of a context -/
def Ctl (c : Cz) (X : Cx) : Prop := c.calm = true → PassesOwn (model X.prog X.w) X.A X.env X.xe ∧ X.stack = X.env :: X.outer ∧ X.env.frame = some X.env.locals ∧ X.ex = []
def U1 (T : Tb) (n : Nat) (C : Calls) (s : Sm) : Prop := ∀ (c : Cz) (Wx : WX) (X : Cx) (x : Stmt), Good T n C c Wx X → Ctl c X → chk1 c s x = true → PS X x (TSo T X.K Wx (wpS T.G C s))
def US (T : Tb) (n : Nat) (C : Calls) (s : Sm) : Prop := ∀ (c : Cz) (Wx : WX) (X : Cx) (xs : List Stmt), Good T n C c Wx X → Ctl c X → chkS c s xs = true → PSs X xs (TSo T X.K Wx (wpS T.G C s))
theorem u_pas : U1 T n C .pas := fun c Wx X x g hp h => by
  unfold chk1 at h
  try simp only [fR_e, fR_i] at h
  split at h
  · refine ps_imp ps_pass fun D σ H q => ?_
    obtain ⟨ω, env, st, D, E, S, q, k⟩ := q
    exact k.nx.at S E q
  · refine ps_imp ps_doc fun D σ H q => ?_
    obtain ⟨ω, env, st, D, E, S, q, k⟩ := q
    exact k.nx.at S E q
  · cases h
theorem u_ex {e : Ex} : U1 T n C (.ex e) := fun c Wx X x g hp h => by
  unfold chk1 at h
  try simp only [fR_e, fR_i] at h
  split at h
  · simp only [Bool.and_eq_true] at h
    refine ps_imp (ps_expr ((all_ok e).E c Wx X _ g h.2) (swaps_of h.1)) fun D' σ H q => ?_
    obtain ⟨ω, env, st, D, E, S, q, k⟩ := q
    exact k.step E S q fun ω' w v st' H' t S' E' r q k' => k'.nx.at S' E' q
  · cases h
theorem u_set {i : Nat} {e : Ex} : U1 T n C (.set i e) := fun c Wx X x g hp h => by
  unfold chk1 at h
  try simp only [fR_e, fR_i] at h
  split at h
  · rename_i y p v pos
    simp only [Bool.and_eq_true, decide_eq_true_eq] at h
    obtain ⟨⟨⟨h1, h2⟩, h3⟩, h4⟩ := h
    obtain ⟨hl, hf⟩ := stB_ok h2
    have fin : ∀ D' σ H, TSo T X.K Wx (wpS T.G C (.set i e)) D' σ H → tAsg (TO T X.K Wx (wpE T.G C e)) (gName i) D' σ H := fun D' σ H q => by
      obtain ⟨ω, env, st, D, E, S, q, k⟩ := q
      exact k.step E S q fun ω' w v st' H' t S' E' r q k' => k'.nx.at S' (E'.set r i) q
    have plain : swapsWith v (some (.Name y p)) pos.line X.env = pure false → PS X (.Assign [.Name y p] v pos) (TSo T X.K Wx (wpS T.G C (.set i e))) := fun hs =>
      ps_imp (ps_set (i := i) (by rw [g.N]; exact g.nd) (by rw [g.N]; exact h1) (by rw [g.sc]; exact hl) ((all_ok e).E c Wx X _ g h4) hs (by rw [g.sc]; exact hf.imp (g.fnl y) id)) fin
    by_cases hcv : notComp v = true
    · exact plain (swaps_of hcv)
    · cases v with
      | ListComp elt gs scope vp =>
        cases hsw : swB c.sc y p scope vp with
        | false => exact plain (by rw [sw_lc g.sc, hsw])
        | true =>
          cases e with
          | lc m own t it cs e =>
            simp only [setB, hsw, Bool.not_true, Bool.false_or] at h3
            have hloc : X.env.scope.names.lookup y = some .local := by
              rw [g.sc]
              split at h3
              · assumption
              · cases h3
            unfold chkE at h4
            split at h4
            · rename_i elt tg ix ifs scope pos' he
              cases he
              simp only [Bool.and_eq_true] at h4
              obtain ⟨⟨⟨⟨⟨⟨⟨g1, g2⟩, g3⟩, g4, g4t⟩, g5⟩, g6⟩, g7⟩, g8⟩ := h4
              obtain ⟨R, hR, hQ⟩ := pe_lcG g g1 (m := m) (own := own) (scope := scope) (elt := elt) (pos := vp) g2 g3 g4 ((all_ok it).I c Wx X tg ix g g1 g4t g5)
                (fun s H D cl fp => (all_ok cs).Cs _ WF _ _ (g.blk scope s H D cl fp) g7 g6) (fun s H D cl fp => (all_ok e).E _ WF _ _ (g.blk scope s H D cl fp) g8)
              have P : PS X (.Assign [.Name y p] (.ListComp elt [⟨tg, ix, ifs, 0⟩] scope vp) pos) (tAsg R (gName i)) := hR (fun R => PS X (.Assign [.Name y p] (.ListComp elt [⟨tg, ix, ifs, 0⟩] scope vp) pos) (tAsg R (gName i))) (by
                simp only [blkB, Bool.and_eq_true] at g3
                refine ps_setLc (i := i) (g.calm g1) (by rw [g.N]; exact g.nd) (by rw [g.N]; exact h1) hloc (by rw [sw_lc g.sc, hsw]) ((all_ok it).I c Wx X tg ix g g1 g4t g5) (blkOk_by (by rw [g.N, g.sc]; exact g3.1)) (fun s H D cl fp => pg_of (g.blk scope s H D cl fp) (g.calm g1) g4)
                  (fun s H D cl fp => (all_ok cs).Cs _ WF _ _ (g.blk scope s H D cl fp) g7 g6) (fun s H D cl fp => (all_ok e).E _ WF _ _ (g.blk scope s H D cl fp) g8) (fun y => fold_of g2 y))
              exact ps_imp P fun D' σ H q => hQ σ H _ (fin D' σ H q)
            · cases h4
          | lc2 m own t it cs t1 it1 cs1 e =>
            simp only [setB, hsw, Bool.not_true, Bool.false_or] at h3
            have hloc : X.env.scope.names.lookup y = some .local := by
              rw [g.sc]
              split at h3
              · assumption
              · cases h3
            unfold chkE at h4
            split at h4
            · rename_i elt tg ix ifs tg1 ix1 ifs1 scope pos' he
              cases he
              simp only [Bool.and_eq_true] at h4
              obtain ⟨⟨⟨⟨⟨⟨⟨⟨⟨⟨⟨⟨⟨g1, g2⟩, g2'⟩, g3⟩, g3'⟩, g4, g4t⟩, g5, g5t⟩, g6⟩, g7⟩, g8⟩, g9⟩, g10⟩, g11⟩, g12⟩ := h4
              have hb := g3
              simp only [blkB, Bool.and_eq_true, List.all_eq_true] at hb
              obtain ⟨hb1, hb2⟩ := hb
              have slots : ∀ j, j ∉ own.map (·.2) → j ∉ t.slots := fun j hj hm => hj (by have := hb2 j hm; simpa using this)
              have hv : ∀ i ∈ t1.slots, i ∈ own.map (·.2) := fun i hm => by
                have := List.all_eq_true.mp g3' i hm
                simpa using this
              have P : PS X (.Assign [.Name y p] (.ListComp elt [⟨tg, ix, ifs, 0⟩, ⟨tg1, ix1, ifs1, 0⟩] scope vp) pos) (tAsg (tLc2 (TIo T X.K Wx (wpE T.G C it)) (TGo X.K t) (TTs T X.K WF (wpE T.G C cs)) (TIo T X.K WF (wpE T.G C it1)) (TGo X.K t1) (TTs T X.K WF (wpE T.G C cs1)) (TO T X.K WF (wpE T.G C e)) (own.map (·.2)) t1.slots) (gName i)) :=
                ps_setLc2 (i := i) (vs1 := t1.slots) (g.calm g1) (by rw [g.N]; exact g.nd) (by rw [g.N]; exact h1) hloc (by rw [sw_lc g.sc, hsw]) ((all_ok it).I c Wx X tg ix g g1 g4t g6) (blkOk_by (by rw [g.N, g.sc]; exact hb1)) hv (fun s H D cl fp => pg_of (g.blk scope s H D cl fp) (g.calm g1) g4)
                  (fun s H D cl fp => (all_ok cs).Cs _ WF _ _ (g.blk scope s H D cl fp) g9 g8) (fun s H D cl fp => (all_ok it1).I _ WF _ _ _ (g.blk scope s H D cl fp) g1 g5t g7) (fun s H D cl fp => pg_of (g.blk scope s H D cl fp) (g.calm g1) g5)
                  (fun s H D cl fp => (all_ok cs1).Cs _ WF _ _ (g.blk scope s H D cl fp) g11 g10) (fun s H D cl fp => (all_ok e).E _ WF _ _ (g.blk scope s H D cl fp) g12) (fun y => fold_of g2 y) (fun env y => fold_of g2' y)
              exact ps_imp P fun D' σ H q => lc2_imp slots hv (fin D' σ H q)
            · cases h4
          | _ => simp [setB, hsw] at h3
      | SetComp => cases e <;> simp [setB] at h3
      | DictComp kx elt gs scope vp =>
        cases hsw : swB c.sc y p scope vp with
        | false => exact plain (by rw [sw_dc g.sc, hsw])
        | true =>
          cases e with
          | dc m own t it cs k e =>
            simp only [setB, hsw, Bool.not_true, Bool.false_or, Bool.and_eq_true] at h3
            obtain ⟨hm, h3⟩ := h3
            have hloc : X.env.scope.names.lookup y = some .local := by
              rw [g.sc]
              split at h3
              · assumption
              · cases h3
            unfold chkE at h4
            split at h4
            · rename_i kx elt tg ix ifs scope pos' he
              cases he
              simp only [Bool.and_eq_true] at h4
              obtain ⟨⟨⟨⟨⟨⟨⟨⟨g1, g2⟩, g3⟩, g4, g4t⟩, g5⟩, g6⟩, g7⟩, g8⟩, g9⟩ := h4
              obtain ⟨R, hR, hQ⟩ := pe_dcG g g1 (m := m) (own := own) (kx := kx) (tg := tg) (iter := ix) (ifs := ifs) (t := t) (scope := scope) (elt := elt) (pos := vp) (mi := wpE T.G C it) (mc := wpE T.G C cs) (mk := wpE T.G C k) (me := wpE T.G C e) g3
              have P : PS X (.Assign [.Name y p] (.DictComp kx elt [⟨tg, ix, ifs, 0⟩] scope vp) pos) (tAsg R (gName i)) := hR (fun R => PS X (.Assign [.Name y p] (.DictComp kx elt [⟨tg, ix, ifs, 0⟩] scope vp) pos) (tAsg R (gName i))) (by
                simp only [blkB, Bool.and_eq_true] at g3
                refine ps_setDc (i := i) (g.calm g1) (by rw [g.N]; exact g.nd) (by rw [g.N]; exact h1) hloc (by rw [sw_dc g.sc, hsw]) ((all_ok it).I c Wx X tg ix g g1 g4t g5) (blkOk_by (by rw [g.N, g.sc]; exact g3.1)) (fun s H D cl fp => pg_of (g.blk scope s H D cl fp) (g.calm g1) g4)
                  (fun s H D cl fp => (all_ok cs).Cs _ WF _ _ (g.blk scope s H D cl fp) g7 g6) (fun s H D cl fp => (all_ok k).E _ WF _ _ (g.blk scope s H D cl fp) g8) (fun s H D cl fp => (all_ok e).E _ WF _ _ (g.blk scope s H D cl fp) g9) (fun y => fold_of g2 y))
              exact ps_imp P fun D' σ H q => hQ σ H _ _ (.inr ⟨hm, fun _ _ z => z⟩) (fin D' σ H q)
            · cases h4
          | _ => simp [setB] at h3
      | _ => exact absurd rfl hcv
  · cases h
theorem sub_asg {o i : Expr} {pos : Pos} {X : Cx} (h : notSlice i = true) : ∀ v, assign (.Subscript o i pos) X.env v = (do
      let ov ← holding [v] (eval o X.env)
      let iv ← holding [v, ov] (eval i X.env)
      standAt pos
      holding [v, ov, iv] (setItem ov iv v)
      release [v, ov, iv] []) := by
  intro v
  cases i <;> first | rfl | cases h
theorem sw_sub {o i v : Expr} {p : Pos} {l : Nat} {env : Env} : swapsWith v (some (.Subscript o i p)) l env = pure false := by
  cases v <;> rfl
theorem sw_sub1 (o i v : Expr) (p : Pos) (l : Nat) (env : Env) : swapsWithSole [.Subscript o i p] v l env = pure false := by
  cases v <;> rfl
theorem u_put {o i e : Ex} : U1 T n C (.put o i e) := fun c Wx X x g hp h => by
  unfold chk1 at h
  try simp only [fR_e, fR_i] at h
  split at h
  · simp only [Bool.and_eq_true] at h
    obtain ⟨⟨⟨h1, h2⟩, h3⟩, h4⟩ := h
    refine ps_imp (ps_asg ((all_ok e).E c Wx X _ g h2) (pg_sub ((all_ok o).E c Wx X _ g h3) ((all_ok i).E c Wx X _ g h4) set_list (sub_asg h1)) (sw_sub1 _ _ _ _ _ _)) fun D' σ H q => ?_
    obtain ⟨ω, env, st, D, E, S, q, k⟩ := q
    refine k.step E S q fun ω1 v u st1 H1 t1 S1 E1 r1 q1 k1 => ?_
    refine k1.step E1 S1 q1 fun ω2 x y st2 H2 t2 S2 E2 r2 q2 k2 => ?_
    refine k2.step E2 S2 q2 fun ω3 z w st3 H3 t3 S3 E3 r3 q3 k3 => ?_
    obtain ⟨m, l, i, j, rfl, e1, rfl, hj, q4⟩ := q3
    cases r2.up t3.le with
    | ref e2 =>
      cases r3
      obtain ⟨vs, hh, rl⟩ := S3.cel _ _ _ e2 e1
      have r1' := r1.up (t2.le.trans t3.le)
      obtain ⟨S4, t4⟩ := S3.put (c' := .lst (l.set j v)) (o := .lst (vs.set j u)) e2 e1 ⟨_, upd_same, rl.set r1' j⟩
      exact ⟨_, vs, i, j, rfl, rfl, hh, by rw [← rl.length]; exact hj, (k3.on t4).nx.at S4 (E3.up t4.le) q4⟩
  · cases h
theorem sws_sub {o i o' i' : Expr} {p p' pt p2 : Pos} {k k2 : Nat} {u v : Expr} {env : Env} : swappedStores [.Tuple [.Subscript o i p, .Subscript o' i' p'] k pt] (.Tuple [u, v] k2 p2) env = pure none := by
  unfold swappedStores
  simp
theorem u_put2 {o i p j a b : Ex} : U1 T n C (.put2 o i p j a b) := fun c Wx X x g hp h => by
  unfold chk1 at h
  try simp only [fR_e, fR_i] at h
  split at h
  · rename_i ox ix _ px jx _ _ _ u v _ _ _
    simp only [Bool.and_eq_true] at h
    obtain ⟨⟨⟨⟨⟨⟨⟨⟨⟨⟨hc, k1⟩, k2⟩, k3⟩, k4⟩, h5⟩, h6⟩, h7⟩, h8⟩, h9⟩, h10⟩ := h
    have hl : PA X [u, v] (TL T X.K Wx (wpE T.G C (.cons a (.cons b .nil)))) := (all_ok (.cons a (.cons b .nil))).L c Wx X [u, v] g (by simp [argB, k1, k2]) (by simp [chkL, h5, h6])
    refine ps_imp (ps_asg (pe_tup hl) (pg_tup (n := 2) (g.calm hc) (pgs_cons (pg_sub ((all_ok o).E c Wx X _ g h7) ((all_ok i).E c Wx X _ g h8) set_list (sub_asg k3)) (pgs_cons (pg_sub ((all_ok p).E c Wx X _ g h9) ((all_ok j).E c Wx X _ g h10) set_list (sub_asg k4)) pgs_nil))) rfl sws_sub) fun D' σ H q => ?_
    obtain ⟨ω, env, st, D, E, S, q, k⟩ := q
    show TL T X.K Wx (wpE T.G C (.cons a (.cons b .nil))) σ H fun xs H1 => _
    refine ⟨ω, env, st, _, _, E, S, q, fun ω1 w st1 H1 t1 S1 hq ws vs ew rl => ?_, k.kx E⟩
    obtain ⟨v, u, rfl, hq⟩ := hq
    cases ew
    have k1 := k.on t1
    have E1 := E.up t1.le
    refine ⟨by rw [← rl.length]; exact (show 2 ≤ sizeLine by decide), fun a0 ha0 => ?_⟩
    obtain ⟨S2, t2⟩ := S1.laid ha0 (.tup vs)
    have rl2 := rl.up t2.le
    refine ⟨a0, vs, rfl, .inl (.inl upd_same), by rw [← rl.length]; rfl, ?_⟩
    cases rl2 with
    | @cons _ v' _ _ r1 rl2 =>
      cases rl2 with
      | @cons _ u' _ _ r2 rl2 =>
        cases rl2
        have k2 := k1.on t2
        refine ⟨v', [u'], rfl, ?_⟩
        refine k2.step (E1.up t2.le) S2 hq fun ω2 x y st2 H2 t3 S3 E3 rx q2 k3 => ?_
        refine k3.step E3 S3 q2 fun ω3 z w st3 H3 t4 S4 E4 rz q3 k4 => ?_
        obtain ⟨m, l, i', j', rfl, e1, rfl, hj, q4⟩ := q3
        cases rx.up t4.le with
        | ref e2 =>
          cases rz
          obtain ⟨vs', hh, rl'⟩ := S4.cel _ _ _ e2 e1
          have r1' := r1.up (t3.le.trans t4.le)
          obtain ⟨S5, t5⟩ := S4.put (c' := .lst (l.set j' v)) (o := .lst (vs'.set j' v')) e2 e1 ⟨_, upd_same, rl'.set r1' j'⟩
          refine ⟨_, vs', i', j', rfl, rfl, hh, by rw [← rl'.length]; exact hj, ?_⟩
          have k5 := k4.on t5
          refine ⟨u', [], rfl, ?_⟩
          refine k5.step (E4.up t5.le) S5 q4 fun ω6 x y st6 H6 t6 S6 E6 rx q6 k6 => ?_
          refine k6.step E6 S6 q6 fun ω7 z w st7 H7 t7 S7 E7 rz q7 k7 => ?_
          obtain ⟨m2, l2, i2, j2, rfl, e3, rfl, hj2, q8⟩ := q7
          cases rx.up t7.le with
          | ref e4 =>
            cases rz
            obtain ⟨vs2, hh2, rl2⟩ := S7.cel _ _ _ e4 e3
            have r2' := r2.up (((t3.le.trans t4.le).trans t5.le).trans (t6.le.trans t7.le))
            obtain ⟨S8, t8⟩ := S7.put (c' := .lst (l2.set j2 u)) (o := .lst (vs2.set j2 u')) e4 e3 ⟨_, upd_same, rl2.set r2' j2⟩
            exact ⟨_, vs2, i2, j2, rfl, rfl, hh2, by rw [← rl2.length]; exact hj2, rfl, (k7.on t8).nx.at S8 (E7.up t8.le) q8⟩
  · cases h
theorem RelK.len {K : PySem.W.Frag} {ω : Wd} : ∀ {ws : List (Key × W)} {vs : List (Key × V)}, RelK K ω ws vs → ws.length = vs.length
  | _, _, .nil => rfl
  | _, _, .cons _ r => by rw [List.length_cons, List.length_cons, RelK.len r]
theorem u_dput {o i e : Ex} : U1 T n C (.dput o i e) := fun c Wx X x g hp h => by
  unfold chk1 at h
  try simp only [fR_e, fR_i] at h
  split at h
  · simp only [Bool.and_eq_true] at h
    obtain ⟨⟨h2, h3⟩, h4⟩ := h
    refine ps_imp (ps_dput g.big.u1 ((all_ok o).E c Wx X _ g h3) ((all_ok i).E c Wx X _ g h4) ((all_ok e).E c Wx X _ g h2) sw_sub) fun D' σ H q => ?_
    obtain ⟨ω, env, st, D, E, S, q, k⟩ := q
    refine k.step E S q fun ω1 v u st1 H1 t1 S1 E1 r1 q1 k1 => ?_
    refine k1.step E1 S1 q1 fun ω2 x y st2 H2 t2 S2 E2 r2 q2 k2 => ?_
    refine k2.step E2 S2 q2 fun ω3 z w st3 H3 t3 S3 E3 r3 q3 k3 => ?_
    obtain ⟨m, l, ky, rfl, e1, ek, hz, q4⟩ := q3
    cases r2.up t3.le with
    | ref e2 =>
      obtain ⟨vs, hh, nd, rl⟩ := S3.cel _ _ _ e2 e1
      have r1' := r1.up (t2.le.trans t3.le)
      have hlen : vs.length < sizeLine := by
        have : l.length = vs.length := RelK.len rl
        omega
      obtain ⟨S4, t4⟩ := S3.put (c' := .dct (Zk.put l ky v)) (o := .dK (putK vs ky u)) e2 e1 ⟨_, upd_same, put_keys l ky v nd, RelK.put r1' rl⟩
      refine ⟨_, _, rfl, ?_, (k3.on t4).nx.at S4 (E3.up t4.le) q4⟩
      rw [keyOf_ok ek r3]
      exact DPut.k hh hlen
  · cases h
theorem RelF.put {K : PySem.W.Frag} {ω : Wd} {f : Str} {w : W} {v : V} (r : Rel K ω w v) : ∀ {ws : List (Str × W)} {vs : List (Str × V)}, RelF K ω ws vs → RelF K ω (putW f w ws) (putF f v vs)
  | _, _, .nil => .cons r .nil
  | _, _, .cons (k := k) q t => by
    by_cases e : k = f
    · simp only [putW, putF, e, if_true]; exact .cons r t
    · simp only [putW, putF, e, if_false]; exact .cons q (RelF.put r t)
theorem u_sfld {j : Nat} {o e : Ex} {f : Str} : U1 T n C (.sfld j o f e) := fun c Wx X x g hp h => by
  unfold chk1 at h
  try simp only [fR_e, fR_i] at h
  split at h
  · simp only [Bool.and_eq_true, decide_eq_true_eq] at h
    obtain ⟨⟨⟨⟨h1, h2⟩, h3⟩, h4⟩, h5⟩ := h
    subst h1
    obtain ⟨q, hq, hf, hA⟩ := Cz.has_ok g h2
    have kk := g.tb.cl j q hq
    refine ps_imp (ps_fld ((all_ok o).E c Wx X _ g h5) ((all_ok e).E c Wx X _ g h4) (swaps_of h3)) fun D' σ H z => ?_
    obtain ⟨ω, env, st, D, E, S, z, k⟩ := z
    refine k.step E S z fun ω1 v u st1 H1 t1 S1 E1 r1 q1 k1 => ?_
    refine k1.step E1 S1 q1 fun ω2 x y st2 H2 t2 S2 E2 r2 q2 k2 => ?_
    obtain ⟨m, fs, rfl, e1, hz, q3⟩ := q2
    have hA' : T.G.A j = q.at_ := hA
    rw [hA'] at e1 q3
    cases r2 with
    | ref e2 =>
      obtain ⟨dx, vs, hh, rf⟩ := S2.cel _ _ _ e2 e1
      obtain ⟨S4, t4⟩ := S2.put (c' := .ins q.at_ (putW f v fs)) (o := .ins q.at_ dx (putF f u vs)) e2 e1 ⟨_, _, upd_same, RelF.put (r1.up t2.le) rf⟩
      exact ⟨_, q.at_, dx, vs, rfl, hh, kk.cl, kk.fl f (by simpa using hf), by rw [← rf.length]; exact hz, (k2.on t4).nx.at S4 (E2.up t4.le) q3⟩
  · cases h
theorem u_ret {e : Ex} : U1 T n C (.ret e) := fun c Wx X x g hp h => by
  unfold chk1 at h
  try simp only [fR_e, fR_i] at h
  split at h
  · refine ps_imp (ps_ret ((all_ok e).E c Wx X _ g h)) fun D' σ H q => ?_
    obtain ⟨ω, env, st, D, E, S, q, k⟩ := q
    exact k.step E S q fun ω' w v st' H' t S' E' r q k' => k'.rt.at S' r q
  · cases h
theorem u_retN : U1 T n C .retN := fun c Wx X x g hp h => by
  unfold chk1 at h
  try simp only [fR_e, fR_i] at h
  split at h
  · refine ps_imp ps_retN fun D' σ H q => ?_
    obtain ⟨ω, env, st, D, E, S, q, k⟩ := q
    exact k.rt.at S .non q
  · cases h
theorem u_aug {i : Nat} {op : Bo} {e : Ex} : U1 T n C (.aug i op e) := fun c Wx X x g hp h => by
  unfold chk1 at h
  try simp only [fR_e, fR_i] at h
  split at h
  · rename_i y p o v pos
    simp only [Bool.and_eq_true, decide_eq_true_eq] at h
    obtain ⟨⟨⟨h1, h2⟩, h3⟩, h4⟩ := h
    obtain ⟨hl, hf⟩ := stB_ok h2
    have go : ∀ (f : Int → Int → Int), PIp X o (ipI f) → (∀ a b, augI op a b = some (f a b)) → PS X (.AugAssign (.Name y p) o v pos) (TSo T X.K Wx (wpS T.G C (.aug i op e))) := fun f hp hf' => by
      refine ps_imp (ps_aug (i := i) (by rw [g.N]; exact g.nd) (by rw [g.N]; exact h1) (by rw [g.sc]; exact hl) ((all_ok e).E c Wx X _ g h4) hp (by rw [g.sc]; exact hf.imp (g.fnl y) id)) fun D' σ H q => ?_
      obtain ⟨ω, env, st, D, E, S, ⟨x, ex, q⟩, k⟩ := q
      obtain ⟨vx, hx, rx⟩ := E.2 _ _ ex
      cases rx
      refine ⟨_, hx, k.step E S q fun ω' w v st' H' t S' E' r q k' => ?_⟩
      obtain ⟨b, z, rfl, hz, q⟩ := q
      cases r
      rw [hf'] at hz
      cases hz
      exact ⟨_, _, rfl, rfl, k'.nx.at S' (E'.set (.int _) i) q⟩
    unfold augB at h3
    split at h3
    · exact go _ ip_add fun _ _ => rfl
    · exact go _ ip_sub fun _ _ => rfl
    · cases h3
  · cases h
theorem u_augO {i j k : Nat} {e : Ex} : U1 T n C (.augO i j k e) := fun c Wx X x g hp h => by
  unfold chk1 at h
  try simp only [fR_e, fR_i] at h
  split at h
  · rename_i y p v pos
    simp only [Bool.and_eq_true, decide_eq_true_eq] at h
    obtain ⟨⟨⟨⟨h0, h1⟩, h2⟩, h3⟩, h4⟩ := h
    obtain ⟨hl, hf⟩ := stB_ok h2
    obtain ⟨q, hq, hm', hA⟩ := Cz.has_ok g h3
    have hm : (("__add__" : Str), k) ∈ q.ci.mets := by simpa using hm'
    have kk := g.tb.cl j q hq
    have hA' : T.G.A j = q.at_ := hA
    have ho : PIp X .Add (fun x y H Q' => ∃ ω a b st Q, StR X.K ω st H ∧ Rel X.K ω a x ∧ Rel X.K ω b y ∧ KQ X.K ω st H Q Q' ∧ (∃ fs, a = .obj q.at_ fs) ∧ (∃ fs, b = .obj q.at_ fs) ∧ C k [a, b] st noX Q) := by
      intro pins s σ H x y v u Q' I rx ry ⟨ω, a, b, st, Q, S, ra, rb, kq, ⟨fs, ea⟩, ⟨fs', eb⟩, hC⟩
      subst ea eb
      obtain ⟨p, dx, vs, rfl, e, rf⟩ := objS S ra
      have ev := relV_ref rx
      subst ev
      cases hfn : T.fns[k]? with
      | none => exact absurd hC (g.tb.no k _ _ _ _ hfn)
      | some fd =>
        obtain ⟨m1, m2⟩ := kk.me _ hm fd hfn
        obtain ⟨mA, O, _, _, _, _⟩ := ins_get I.hok e
        obtain ⟨od, J, _⟩ := O.look
        obtain ⟨m, hF⟩ := I.fr
        obtain ⟨P, Z, pz, _⟩ := kit_of I ry (tyXO S kk rb)
        refine augA_K hF I.ok.mod.kin J (Z.ty _ _ I.kIn pz) kk.sf m1 m2 kk.ia ?_
        refine run_op g h0 hfn I S ra rb rx ry hC (Q2 := Q') (fun ω' w v st' H' t' S' r' q' => kq _ _ _ _ _ t' S' r' q') fun z s' v' H' I3 rv q3 => ?_
        have : EP X pins σ Q' z s' := ⟨v', H', I3, rv, q3⟩
        have nn : z ≠ .notImplemented := fun e => by
          subst e
          cases v' with
          | int => obtain ⟨t, e⟩ := (show ∃ t, _ = _ from rv); cases e
          | str => obtain ⟨t, e⟩ := (show ∃ t, _ = _ from rv); cases e
          | byt => obtain ⟨t, e⟩ := (show ∃ t, _ = _ from rv); cases e
          | flt => obtain ⟨t, e⟩ := (show ∃ t, _ = _ from rv); cases e
          | _ => cases (show Value.notImplemented = _ from rv)
        cases z <;> first | exact this | exact absurd rfl nn
    refine ps_imp (ps_aug (i := i) (by rw [g.N]; exact g.nd) (by rw [g.N]; exact h1) (by rw [g.sc]; exact hl) ((all_ok e).E c Wx X _ g h4) ho (by rw [g.sc]; exact hf.imp (g.fnl y) id)) fun D' σ H z => ?_
    obtain ⟨ω, env, st, D, E, S, ⟨x, ex, ⟨fs, ox⟩, q2⟩, k'⟩ := z
    obtain ⟨vx, hx, rx⟩ := E.2 _ _ ex
    refine ⟨_, hx, k'.step E S q2 fun ω' w v st' H' t S' E' r q3 k'' => ?_⟩
    obtain ⟨⟨fs', ow⟩, hC⟩ := q3
    rw [hA'] at ox ow
    exact ⟨ω', x, w, st', _, S', rx.up t.le, r, fun ω2 w2 v2 st2 H2 t2 S2 r2 q4 => (k''.nx.on t2).at S2 ((E'.up t2.le).set r2 i) q4, ⟨fs, ox⟩, ⟨fs', ow⟩, hC⟩
  · cases h
theorem u_brk : U1 T n C .brk := fun c Wx X x g hp h => by
  unfold chk1 at h
  try simp only [fR_e, fR_i] at h
  split at h
  · refine ps_imp ps_break fun D' σ H q => ?_
    obtain ⟨ω, env, st, D, E, S, q, k⟩ := q
    exact k.bk.at S E q
  · cases h
theorem u_cnt : U1 T n C .cnt := fun c Wx X x g hp h => by
  unfold chk1 at h
  try simp only [fR_e, fR_i] at h
  split at h
  · refine ps_imp ps_continue fun D' σ H q => ?_
    obtain ⟨ω, env, st, D, E, S, q, k⟩ := q
    exact k.ct.at S E q
  · cases h
theorem u_nev : U1 T n C .nev := fun c Wx X x g hp h => ps_imp ps_never fun D' σ H q => by
  obtain ⟨ω, env, st, D, E, S, q, k⟩ := q
  exact q
theorem us_nev : US T n C .nev := fun c Wx X x g hp h => pss_imp pss_never fun D' σ H q => by
  obtain ⟨ω, env, st, D, E, S, q, k⟩ := q
  exact q
theorem us_nil : US T n C .nil := fun c Wx X x g hp h => by
  cases x with
  | nil =>
    refine pss_imp pss_nil fun D' σ H q => ?_
    obtain ⟨ω, env, st, D, E, S, q, k⟩ := q
    exact k.nx.at S E q
  | cons => cases h
theorem us_cons {a r : Sm} (h1 : U1 T n C a) (h2 : US T n C r) : US T n C (.cons a r) := fun c Wx X x g hp h => by
  cases x with
  | nil => simp [chkS] at h
  | cons x xs =>
    simp only [chkS, Bool.and_eq_true] at h
    refine pss_imp (pss_cons (h1 c Wx X _ g hp h.1) (h2 c Wx X _ g hp h.2)) fun D' σ H q => ?_
    obtain ⟨ω, env, st, D, E, S, q, k⟩ := q
    exact ⟨ω, env, st, _, E, S, q, fun ω' env' σ' st' H' t S' E' q => ⟨ω', env', st', D, E', S', q, k.on t⟩, k.rt, k.bk, k.ct, k.ex⟩
theorem u_ife {t : Ex} {a b : Sm} (ha : US T n C a) (hb : US T n C b) : U1 T n C (.ife t a b) := fun c Wx X x g hp h => by
  unfold chk1 at h
  try simp only [fR_e, fR_i] at h
  split at h
  · simp only [Bool.and_eq_true] at h
    obtain ⟨⟨⟨h1, h2⟩, h3⟩, h4⟩ := h
    refine ps_imp (ps_if ((all_ok t).Te c Wx X _ g h1 h2) (ha c Wx X _ g hp h3) (hb c Wx X _ g hp h4)) fun D' σ H q => ?_
    obtain ⟨ω, env, st, D, E, S, q, k⟩ := q
    refine ⟨ω, env, st, _, fun b' s => (b' = true → wpS T.G C a env s D) ∧ (b' = false → wpS T.G C b env s D), E, S, q, fun ω' b' st' H' t S' q => ?_, k.kx E⟩
    cases b' with
    | true => exact ⟨ω', env, st', D, E.up t.le, S', q.1 rfl, k.on t⟩
    | false => exact ⟨ω', env, st', D, E.up t.le, S', q.2 rfl, k.on t⟩
  · cases h
theorem pt_dct {c : Cz} {Wx : WX} {X : Cx} {i : Nat} {e : Expr} (h : PE X e (TO T X.K Wx (wpE T.G C (.var i)))) (hp : plainT e = true) : PT X e (fun σ H Q' => ∃ ω env st Ex l, EnvR X.K ω env σ ∧ StR X.K ω st H ∧ env[i]? = some (some (.dct l)) ∧ KX T X.K ω st H Ex (fun c d H' => Wx c d σ H') ∧
    ∀ ω' H' b, Stp ω st H ω' st H' → StR X.K ω' st H' → (b = true ↔ l ≠ []) → Q' b H') := by
  refine ⟨fun pins s σ H Q' I q => ?_⟩
  obtain ⟨ω, env, st, Ex, l, E, S, hl, kx, k⟩ := q
  refine isTrue_plain (thn (h.run pins s σ H (fun x H1 => ∃ p o kvs, x = .ref p ∧ H1 p = some (.frz o (.dK kvs)) ∧ Q' (!kvs.isEmpty) H1) I ?_) fun v s1 ⟨x, H1, I1, r1, q1⟩ => ?_) (isTrue_of hp _)
  · refine ⟨ω, env, st, fun w s => w = .dct l ∧ s = st, Ex, E, S, ⟨_, hl, rfl, rfl⟩, fun ω' w v st' H' t S' r ⟨e1, e2⟩ => ?_, kx⟩
    subst e1; subst e2
    cases r with
    | dct hd nd rl =>
      refine ⟨_, _, _, rfl, S'.fz _ _ _ hd, k ω' H' _ t S' ?_⟩
      cases rl <;> simp
  · obtain ⟨p, o, kvs, rfl, hx, q1⟩ := q1
    cases r1
    obtain ⟨hz, hS, vs, r, m⟩ : kvs.length ≤ sizeLine ∧ (p == sysModules) = false ∧ ∃ vs, KV kvs vs ∧ s1.heap.DictOf (mixKind X.prog X.w) p vs := (show ObjOk X.prog X.w H1 s1.heap p (.frz o (.dK kvs)) from I1.hok p _ hx).2
    have hl := line63
    have hlen : kvs.length = vs.length := Paired.length r
    exact wpAny_truthy_dict hS m (by omega) ⟨H1, I1.tok _, by rw [isEmpty_kv r]; exact q1⟩
theorem u_ifd {i : Nat} {a b : Sm} (ha : US T n C a) (hb : US T n C b) : U1 T n C (.ifd i a b) := fun c Wx X x g hp h => by
  unfold chk1 at h
  try simp only [fR_e, fR_i] at h
  split at h
  · simp only [Bool.and_eq_true] at h
    obtain ⟨⟨⟨h1, h2⟩, h3⟩, h4⟩ := h
    refine ps_imp (ps_if (pt_dct (c := c) ((all_ok (.var i)).E c Wx X _ g h2) h1) (ha c Wx X _ g hp h3) (hb c Wx X _ g hp h4)) fun D' σ H q => ?_
    obtain ⟨ω, env, st, D, E, S, q, k⟩ := q
    obtain ⟨l, hl, q1, q2⟩ := q
    refine ⟨ω, env, st, _, l, E, S, hl, k.kx E, fun ω' H' b' t S' hb => ?_⟩
    cases b' with
    | true => exact ⟨ω', env, st, D, E.up t.le, S', q1 (hb.mp rfl), k.on t⟩
    | false => exact ⟨ω', env, st, D, E.up t.le, S', q2 (Classical.byContradiction fun z => nomatch hb.mpr z), k.on t⟩
  · cases h
theorem u_whl {t : Ex} {b : Sm} (hb : US T n C b) : U1 T n C (.whl t b) := fun c Wx X x g hp h => by
  unfold chk1 at h
  try simp only [fR_e, fR_i] at h
  split at h
  · simp only [Bool.and_eq_true] at h
    obtain ⟨⟨⟨hc, h1⟩, h2⟩, h3⟩ := h
    refine ps_imp (ps_while (hp hc).1 ((all_ok t).Te c Wx X _ g h1 h2) (hb c Wx X _ g hp h3)) fun D' σ H q => ?_
    obtain ⟨ω, env, st, D, E, S, ⟨m, q⟩, k⟩ := q
    refine ⟨fun m σ H' => ∃ ω' env' st', Stp ω st H ω' st' H' ∧ EnvR X.K ω' env' σ ∧ StR X.K ω' st' H' ∧ whlP (fun e s K => wpE T.G C t e s (fun x s => D.ex x e s) fun w s1 => ∃ k, truth s1 w = some k ∧ K k s1) (fun e s D' => wpS T.G C b e s D') m env' st' D, ⟨m, ω, env, st, .refl, E, S, q⟩, ?_⟩
    rintro m σ1 H1 ⟨ω1, env1, st1, t1, E1, S1, q1⟩
    cases m with
    | zero => exact q1.elim
    | succ m =>
      have k1 := k.on t1
      refine ⟨ω1, env1, st1, _, _, E1, S1, q1, fun ω2 b' st2 H2 t2 S2 q2 => ?_, k1.kx E1⟩
      cases b' with
      | true =>
        refine ⟨fun σ H' => ∃ ω' env' st', Stp ω st H ω' st' H' ∧ EnvR X.K ω' env' σ ∧ StR X.K ω' st' H' ∧ whlP (fun e s K => wpE T.G C t e s (fun x s => D.ex x e s) fun w s1 => ∃ k, truth s1 w = some k ∧ K k s1) (fun e s D' => wpS T.G C b e s D') m env' st' D, fun σ' H' z => ⟨m, Nat.lt_succ_self m, z⟩, ?_⟩
        have k2 := k1.on t2
        have nxt : KN X.K ω2 st2 H2 (fun e s => whlP (fun e s K => wpE T.G C t e s (fun x s => D.ex x e s) fun w s1 => ∃ k, truth s1 w = some k ∧ K k s1) (fun e s D' => wpS T.G C b e s D') m e s D) (fun σ H' => ∃ ω' env' st', Stp ω st H ω' st' H' ∧ EnvR X.K ω' env' σ ∧ StR X.K ω' st' H' ∧ whlP (fun e s K => wpE T.G C t e s (fun x s => D.ex x e s) fun w s1 => ∃ k, truth s1 w = some k ∧ K k s1) (fun e s D' => wpS T.G C b e s D') m env' st' D) :=
          fun ω' env' σ' st' H' t S' E' q => ⟨ω', env', st', (t1.trans t2).trans t, E', S', q⟩
        exact ⟨ω2, env1, st2, _, E1.up t2.le, S2, q2.1 rfl, nxt, k2.rt, k2.nx, nxt, k2.ex⟩
      | false => exact (k1.on t2).nx.at S2 (E1.up t2.le) (q2.2 rfl)
  · cases h
theorem u_frc {t : Tg} {it : Ex} {b : Sm} (hb : US T n C b) : U1 T n C (.frc t it b) := fun c Wx X x g hp h => by
  unfold chk1 at h
  try simp only [fR_e, fR_i] at h
  split at h
  · simp only [Bool.and_eq_true] at h
    obtain ⟨⟨⟨⟨hc, h1⟩, h2, h2t⟩, h3⟩, h4⟩ := h
    refine ps_imp (ps_for (hp hc).1 (g.calm hc) ((all_ok it).I c Wx X _ _ g hc h2t h3) (pg_of g (g.calm hc) h2) (hb c Wx X _ g hp h4) (fun y => fold_of h1 y)) fun D' σ H q => ?_
    obtain ⟨ω, env, st, D, E, S, q, k⟩ := q
    refine ⟨ω, env, st, _, _, E, S, q, fun ω1 items grd st1 H1 J t1 S1 ir ⟨hz, q1⟩ => ?_, k.kx E⟩
    have k1 := k.on t1
    refine ⟨fun i m σ H' => m = items.length - i ∧ i ≤ items.length ∧ ∃ ω' env' st', Stp ω1 st1 H1 ω' st' H' ∧ EnvR X.K ω' env' σ ∧ StR X.K ω' st' H' ∧ forP (fun x e s D' => tgP t x e fun e1 => wpS T.G C b e1 s D') grd (items.drop i) env' st' D,
      ⟨_, rfl, Nat.zero_le _, ω1, env, st1, .refl, E.up t1.le, S1, q1⟩, ?_⟩
    rintro i m σ2 H2 ⟨rfl, hil, ω2, env2, st2, t2, E2, S2, q2⟩
    have k2 := k1.on t2
    have hgrd : grd st2 := by
      cases e : items.drop i with
      | nil => rw [e] at q2; exact q2.1
      | cons => rw [e] at q2; exact q2.1
    obtain ⟨itg, its⟩ := ir ω2 st2 H2 t2.le S2 hgrd i
    by_cases hlt : i < items.length
    · refine .inr ⟨(itg hlt).1, fun σ H' => (items.length - (i + 1)) = items.length - (i + 1) ∧ i + 1 ≤ items.length ∧ ∃ ω' env' st', Stp ω1 st1 H1 ω' st' H' ∧ EnvR X.K ω' env' σ ∧ StR X.K ω' st' H' ∧ forP (fun x e s D' => tgP t x e fun e1 => wpS T.G C b e1 s D') grd (items.drop (i + 1)) env' st' D, fun σ' H' z => ⟨_, by omega, z⟩, fun x H'' y => ?_⟩
      obtain ⟨ω2', t2', S2', w, hw, rw'⟩ := (itg hlt).2 x H'' y
      have k2' := k2.on t2'
      have hdrop : items.drop i = w :: items.drop (i + 1) := by
        rw [List.drop_eq_getElem_cons hlt]
        rw [List.getElem?_eq_getElem hlt] at hw
        cases hw; rfl
      rw [hdrop] at q2
      replace q2 := q2.2
      have q2' : tgP t w env2 fun e1 => wpS T.G C b e1 st2 { D with nx := fun e s => forP (fun x e s D' => tgP t x e fun e1 => wpS T.G C b e1 s D') grd (items.drop (i + 1)) e s D, ct := fun e s => forP (fun x e s D' => tgP t x e fun e1 => wpS T.G C b e1 s D') grd (items.drop (i + 1)) e s D, bk := D.nx } := q2
      refine ⟨ω2', env2, st2, w, _, E2.up t2'.le, S2', rw', q2', fun env3 σ3 E3 _ _ q3 => ?_⟩
      have nxt : KN X.K ω2' st2 H'' (fun e s => forP (fun x e s D' => tgP t x e fun e1 => wpS T.G C b e1 s D') grd (items.drop (i + 1)) e s D) (fun σ H' => (items.length - (i + 1)) = items.length - (i + 1) ∧ i + 1 ≤ items.length ∧ ∃ ω' env' st', Stp ω1 st1 H1 ω' st' H' ∧ EnvR X.K ω' env' σ ∧ StR X.K ω' st' H' ∧ forP (fun x e s D' => tgP t x e fun e1 => wpS T.G C b e1 s D') grd (items.drop (i + 1)) env' st' D) :=
        fun ω' env' σ' st' H' t S' E' q => ⟨rfl, hlt, ω', env', st', (t2.trans t2').trans t, E', S', q⟩
      exact ⟨ω2', env3, st2, _, E3, S2', q3, nxt, k2'.rt, k2'.nx, nxt, k2'.ex⟩
    · have hi : i = items.length := by omega
      subst hi
      rw [List.drop_length] at q2
      replace q2 := q2.2
      exact .inl ⟨its (Nat.le_refl _), k2.nx.at S2 E2 q2⟩
  · cases h
theorem u_unp {is : List Nat} {e : Ex} : U1 T n C (.unp is e) := fun c Wx X x g hp h => by
  unfold chk1 at h
  try simp only [fR_e, fR_i] at h
  split at h
  · rename_i es k p v pos
    simp only [Bool.and_eq_true] at h
    obtain ⟨⟨⟨⟨hc, h1⟩, h2⟩, h3⟩, h4⟩ := h
    refine ps_imp (ps_asg ((all_ok e).E c Wx X _ g h4) (pg_of g (g.calm hc) h1) (by cases v <;> first | rfl | cases h3) (by
      rcases Bool.or_eq_true_iff.mp h2 with h2 | h2
      · cases v <;> first | rfl | cases h2
      · cases v <;> first | rfl | exact sw_nl g.sc h2)) fun D' σ H q => ?_
    obtain ⟨ω, env, st, D, E, S, q, k⟩ := q
    refine k.step E S q fun ω1 w u st1 H1 t1 S1 E1 r1 q1 k1 => ?_
    exact ⟨ω1, env, st1, w, fun e => D.nx e st1, E1, S1, r1, q1, fun env' σ' E' _ _ q => k1.nx.at S1 E' q⟩
  · cases h
theorem u_par {i j : Nat} {a b : Ex} : U1 T n C (.par i j a b) := fun c Wx X x g hp h => by
  unfold chk1 at h
  try simp only [fR_e, fR_i] at h
  split at h
  · rename_i y py z pz _ _ u v _ _ _
    simp only [Bool.and_eq_true, decide_eq_true_eq] at h
    obtain ⟨⟨⟨⟨⟨⟨hc, h1⟩, h2⟩, h3⟩, h4⟩, h5⟩, h6⟩ := h
    have h4' := h4
    simp only [parB, Bool.and_eq_true] at h4'
    obtain ⟨⟨⟨⟨⟨⟨⟨⟨_, k2⟩, k3⟩, _⟩, _⟩, k6⟩, k7⟩, _⟩, _⟩ := h4'
    have e2 : X.env.scope.names.lookup y = some .local := by rw [g.sc]; simpa using k2
    have e3 : X.env.scope.names.lookup z = some .local := by rw [g.sc]; simpa using k3
    have hl : PA X [u, v] (TL T X.K Wx (wpE T.G C (.cons a (.cons b .nil)))) := (all_ok (.cons a (.cons b .nil))).L c Wx X [u, v] g (by simp [argB, k6, k7]) (by simp [chkL, h5, h6])
    refine ps_imp (ps_par (i := i) (j := j) (g.calm hc) (by rw [g.N]; exact g.nd) (by rw [g.N]; exact h2) (by rw [g.N]; exact h3) h1 e2 e3 hl (par_ok g.sc h4)) fun D' σ H q => ?_
    obtain ⟨ω, env, st, D, E, S, q, k⟩ := q
    refine ⟨ω, env, st, _, _, E, S, q, fun ω1 w st1 H1 t1 S1 hq ws vs ew rl => ?_, k.kx E⟩
    obtain ⟨w1, w2, rfl, hq⟩ := hq
    cases ew
    cases rl with
    | cons r1 rl =>
      cases rl with
      | cons r2 rl =>
        cases rl
        exact ⟨_, _, rfl, (k.on t1).nx.at S1 (((E.up t1.le).set r1 i).set r2 j) hq⟩
  · cases h
/-! raise, try -/
theorem exA_of {i : Nat} {x : Str} {a : Addr} (h : T.exs[i]? = some (x, a)) : T.exA i = a := by unfold Tb.exA; rw [h]; rfl
theorem Good.exAt {c : Cz} {Wx : WX} {X : Cx} (g : Good T n C c Wx X) {j : Nat} {x : Str} (h : c.exs[j]? = some x) : ∃ a, T.exs[j]? = some (x, a) := by
  rw [g.exs, List.getElem?_map] at h
  cases q : T.exs[j]? with
  | none => rw [q] at h; cases h
  | some p =>
    rw [q] at h
    obtain ⟨y, a⟩ := p
    cases h
    exact ⟨a, rfl⟩
theorem Good.tr {c : Cz} {Wx W' : WX} {X : Cx} (g : Good T n C c Wx X) (pn : List (Addr × Obj)) (xe : Value → Shared → Prop) (tk : Takes (X.tr pn xe) W') : Good T n C c W' (X.tr pn xe) :=
  { tb := ⟨g.tb.fn, g.tb.gb, g.tb.kw, g.tb.bl, g.tb.ex, g.tb.em, g.tb.ar, g.tb.no, g.tb.cl, g.tb.ta, g.tb.xo, g.tb.ts, g.tb.gc⟩, fns := g.fns, gbs := g.gbs, kws := g.kws, exs := g.exs, em := g.em, cls := g.cls, tas := g.tas, tss := g.tss, gcd := g.gcd, kit := g.kit, N := g.N, nd := g.nd, sc := g.sc, calm := g.calm, room := g.room, big := g.big, tk := tk, fnl := g.fnl }
theorem Good.suite {c : Cz} {Wx : WX} {X : Cx} (g : Good T n C c Wx X) (a : Addr) (pn : List (Addr × Obj)) : Good T n C { c with calm := false } WF (X.suite a pn) :=
  { tb := ⟨g.tb.fn, g.tb.gb, g.tb.kw, g.tb.bl, g.tb.ex, g.tb.em, g.tb.ar, g.tb.no, g.tb.cl, g.tb.ta, g.tb.xo, g.tb.ts, g.tb.gc⟩, fns := g.fns, gbs := g.gbs, kws := g.kws, exs := g.exs, em := g.em, cls := g.cls, tas := g.tas, tss := g.tss, gcd := g.gcd, kit := g.kit, N := g.N, nd := g.nd, sc := g.sc, calm := (fun z => nomatch z), room := (fun z => nomatch z), big := ⟨g.big.1, g.big.2⟩, tk := takes0, fnl := g.fnl }
theorem u_rse {j : Nat} : U1 T n C (.rse j) := fun c Wx X x g hp h => by
  unfold chk1 at h
  split at h
  · simp only [Bool.and_eq_true, decide_eq_true_eq] at h
    obtain ⟨⟨⟨hc, h1⟩, h2⟩, h3⟩ := h
    obtain ⟨a, ha⟩ := g.exAt h1
    obtain ⟨e1, e2, e3, e4, e5⟩ := g.tb.ex _ _ _ ha
    refine ps_imp (ps_raise (g.calm hc) g.tk (pmk_own PySem.F.excBase_ValueError e2 e1 e3 (raises_own e4 e5) (g.gl h2) (plB_1 h3))) fun D' σ H q => ?_
    obtain ⟨ω, env, st, D, E, S, q, k⟩ := q
    have := k.ex ω (j, none) env σ st H none .refl S E q (fun _ => rfl)
    rw [exA_of ha] at this
    exact this
  · cases h
def UH (T : Tb) (n : Nat) (C : Calls) (h : Sm) : Prop := ∀ (c : Cz) (Wx : WX) (X : Cx) (hx : List ExceptHandler), Good T n C c Wx X → chkH c h hx = true → ∃ l, HdsOk X hx l ∧ ∀ (ω : Wd) (st : Sto) (H : Hp) (D : En) (D' : Ends), KD T X.K Wx ω st H D D' →
  ∀ ω' x env' σ' st' H' d, Stp ω st H ω' st' H' → StR X.K ω' st' H' → EnvR X.K ω' env' σ' → wpH T.G C h x env' st' D → (x.2 = none → d = none) → wMany X.K Wx D' l (.ref (T.exA x.1)) d σ' H'
theorem uh_nil : UH T n C .nil := fun c Wx X hx g h => by
  cases hx with
  | nil => exact ⟨[], .nil, fun ω st H D D' k ω' x env' σ' st' H' d t S E q => k.ex _ _ _ _ _ _ _ t S E q⟩
  | cons => cases h
theorem uh_hnd {j m : Nat} {cs : List Nat} {s r : Sm} (hs : US T n C s) (hr : UH T n C r) : UH T n C (.hnd j m cs s r) := fun c Wx X hx g h => by
  unfold chkH at h
  split at h
  · simp only [Bool.and_eq_true, decide_eq_true_eq] at h
    obtain ⟨⟨⟨⟨⟨⟨h1, h2⟩, h3⟩, h4⟩, h5⟩, h6⟩, h7⟩ := h
    obtain ⟨a, ha⟩ := g.exAt h1
    obtain ⟨e1, e2, e3, e4, e5⟩ := g.tb.ex _ _ _ ha
    obtain ⟨l, hl, hw⟩ := hr c Wx X _ g h7
    refine ⟨(.ref a, fun _ _ _ => TSo T X.K WF (wpS T.G C s)) :: l, .cons ⟨g.gl h4, plB_1 h5, .inl e1⟩ (fun a' oe cls d pn _ _ => hs _ WF (X.suite a' _) _ (g.suite a' _) (fun z => nomatch z) h6) hl, fun ω st H D D' k ω' x env' σ' st' H' d t S E q hdn => ?_⟩
    obtain ⟨q1, q2, q3⟩ := q
    have hx : x.1 < T.exs.length := by rw [h3, g.exs, List.length_map] at q1; exact q1
    obtain ⟨p, hp⟩ : ∃ p, T.exs[x.1]? = some p := ⟨_, List.getElem?_eq_getElem hx⟩
    have he := g.tb.em x.1 j p _ cs hp ha (by rw [← g.em]; exact h2)
    rw [show T.exA x.1 = p.2 from exA_of (x := p.1) hp]
    refine ⟨_, he, fun hb _ _ => ?_, fun hb => ?_⟩
    · have k' := k.on t
      exact ⟨ω', env', st', _, E, S, q2 (of_decide_eq_true hb), k'.nx, k'.rt, k'.bk, k'.ct, fun _ _ _ _ _ _ _ _ _ _ z => z.elim⟩
    · have := hw ω st H D D' k ω' x env' σ' st' H' d t S E (q3 (of_decide_eq_false hb)) hdn
      rw [show T.exA x.1 = p.2 from exA_of (x := p.1) hp] at this
      exact this
  · cases h
theorem u_tri {b h : Sm} (hb : US T n C b) (hh : UH T n C h) : U1 T n C (.tri b h) := fun c Wx X x g hp h => by
  unfold chk1 at h
  split at h
  · simp only [Bool.and_eq_true] at h
    obtain ⟨⟨hc, h1⟩, h2⟩ := h
    obtain ⟨p1, p2, p3, p4⟩ := hp hc
    obtain ⟨l, hl, hw⟩ := hh c Wx X _ g h2
    refine ps_imp (ps_try_many p2 p3 g.tk (tb := fun W => TSo T X.K W (wpS T.G C b)) (fun W pn xe tkW hpW => hb c W (X.tr pn xe) _ (g.tr pn xe tkW) (fun _ => ⟨hpW, p2, p3, p4⟩) h1) hl) fun D' σ H q => ?_
    obtain ⟨ω, env, st, D, E, S, q, k⟩ := q
    exact ⟨ω, env, st, _, E, S, q, k.nx, k.rt, k.bk, k.ct, hw ω st H D D' k⟩
  · cases h
theorem EnvR.unset {K : PySem.W.Frag} {ω : Wd} {env : Env'} {σ : L2.St} (h : EnvR K ω env σ) (i : Nat) : EnvR K ω (env.set i none) (σ.set i none) := by
  refine ⟨by rw [List.length_set, List.length_set]; exact h.1, fun j u e => ?_⟩
  by_cases hj : i = j
  · subst hj
    have hl : i < env.length := by have := (List.getElem?_eq_some_iff.mp e).1; simpa using this
    rw [List.getElem?_set_self hl] at e
    simp at e
  · rw [List.getElem?_set_ne hj] at e
    rw [List.getElem?_set_ne hj]
    exact h.2 j u e
theorem u_triC {b : Sm} {j m : Nat} {cs : List Nat} {i t : Nat} (hb : US T n C b) : U1 T n C (.triC b j m cs i t) := fun c Wx X x g hp h => by
  unfold chk1 at h
  split at h
  · rename_i bx y np nm z zp n2 p2 ap hpz tp
    simp only [Bool.and_eq_true, decide_eq_true_eq] at h
    obtain ⟨⟨⟨⟨⟨⟨⟨⟨⟨⟨⟨⟨⟨hc, h1⟩, h2⟩, h3⟩, h4⟩, h5⟩, h6⟩, h7⟩, h8⟩, h9⟩, h10⟩, h11⟩, h12⟩, h13⟩ := h
    subst h7
    obtain ⟨p1, p2', p3, p4⟩ := hp hc
    obtain ⟨a, ha⟩ := g.exAt h2
    obtain ⟨e1, e2, e3, e4, e5⟩ := g.tb.ex _ _ _ ha
    have hloc : X.env.scope.names.lookup n2 = some .local := by
      rw [g.sc]
      split at h11
      · assumption
      · cases h11
    obtain ⟨hl, hf⟩ := stB_ok h12
    have su : ∀ (a' : Addr) (oe : Obj) (cls : Value) (d : Option Addr) (pn : List (Addr × Obj)), PSs (X.suite a' ((a', oe) :: pn)) [.Assign [.Name z zp] (.Name n2 p2) ap] (tAsg (tVar i) (gName t)) := fun a' oe cls d pn =>
      pss_one (ps_set (X := X.suite a' ((a', oe) :: pn)) (i := t) (by show X.N.Nodup; rw [g.N]; exact g.nd) (by show X.N[t]? = _; rw [g.N]; exact h10) (by show Loc X.env.scope z; rw [g.sc]; exact hl)
        (pe_var (i := i) (by show X.N[i]? = _; rw [g.N]; exact h9) (.inl hloc) (plB_1 h13) (plB_2 h13)) (swaps_of rfl) (by show X.fn z = true ∨ X.env.scope.names.lookup z = _; rw [g.sc]; exact hf.imp (g.fnl z) id))
    refine ps_imp (ps_try_asT p4 p2' p3 (by rw [g.N]; exact g.nd) (by rw [g.N]; exact h9) hloc ⟨g.gl h5, plB_1 h6, .inl e1⟩ g.tk (tb := fun W => TSo T X.K W (wpS T.G C b)) (fun W pn xe tkW hpW => hb c W (X.tr pn xe) _ (g.tr pn xe tkW) (fun _ => ⟨hpW, p2', p3, p4⟩) h1) (fun a' oe cls d pn _ _ => su a' oe cls d pn)) fun D' σ H q => ?_
    obtain ⟨ω, env, st, D, E, S, q, k⟩ := q
    refine ⟨ω, env, st, _, E, S, q, k.nx, k.rt, k.bk, k.ct, fun ω' x env' σ' st' H' d tt S' E' ⟨q1, q2, q3⟩ hdn => ?_⟩
    have hx : x.1 < T.exs.length := by rw [h4, g.exs, List.length_map] at q1; exact q1
    obtain ⟨p, hp'⟩ : ∃ p, T.exs[x.1]? = some p := ⟨_, List.getElem?_eq_getElem hx⟩
    have he := g.tb.em x.1 j p _ cs hp' ha (by rw [← g.em]; exact h3)
    have hA : T.exA x.1 = p.2 := exA_of (x := p.1) hp'
    refine ⟨_, (by rw [hA]; exact he), fun hbb a' ha' => ?_, fun hbb => k.ex _ _ _ _ _ _ _ tt S' E' (q3 (of_decide_eq_false hbb)) hdn⟩
    obtain ⟨x2, _, hil, q4⟩ := q2 (of_decide_eq_true hbb)
    have hd := hdn x2
    subst hd
    have hil' : i < σ'.length := by rw [← E'.1]; exact hil
    refine ⟨.ref a', List.getElem?_set_self hil', fun hn => ?_⟩
    obtain ⟨S2, t2⟩ := S'.laid ha' (ExT (.ref (T.exA x.1)) none a')
    have r : Rel X.K (ω'.still a' (ExT (.ref (T.exA x.1)) none a')) (.exc (T.exA x.1)) (.ref a') := .exc (.inl upd_same) fun h hh => hh
    have e6 : ((σ'.set i (some (V.ref a'))).set t (some (V.ref a'))).set i none = (σ'.set t (some (V.ref a'))).set i none := by
      rw [List.set_comm _ _ h8, List.set_set]
    rw [e6]
    exact k.nx _ _ _ _ _ (tt.trans t2) S2 (((E'.up t2.le).set r t).unset i) q4
  · cases h
/-- every small statement's text keeps its meaning -/
theorem all_st : ∀ s : Sm, U1 T n C s ∧ US T n C s ∧ UH T n C s := by
  intro s
  have n1 : ∀ {s : Sm}, (∀ c x, chk1 c s x = false) → U1 T n C s := fun h => fun c Wx X x g hp z => by rw [h] at z; cases z
  have nS : ∀ {s : Sm}, (∀ c x, chkS c s x = false) → US T n C s := fun h => fun c Wx X x g hp z => by rw [h] at z; cases z
  have nH : ∀ {s : Sm}, (∀ c x, chkH c s x = false) → UH T n C s := fun h => fun c Wx X x g z => by rw [h] at z; cases z
  induction s with
  | nil => exact ⟨n1 (by intros; rfl), us_nil, uh_nil⟩
  | cons a r ha hr => exact ⟨n1 (by intros; rfl), us_cons ha.1 hr.2.1, nH (by intros; rfl)⟩
  | pas => exact ⟨u_pas, nS (by intros; rfl), nH (by intros; rfl)⟩
  | ex e => exact ⟨u_ex, nS (by intros; rfl), nH (by intros; rfl)⟩
  | set i e => exact ⟨u_set, nS (by intros; rfl), nH (by intros; rfl)⟩
  | unp is e => exact ⟨u_unp, nS (by intros; rfl), nH (by intros; rfl)⟩
  | put o i e => exact ⟨u_put, nS (by intros; rfl), nH (by intros; rfl)⟩
  | sfld j o f e => exact ⟨u_sfld, nS (by intros; rfl), nH (by intros; rfl)⟩
  | dput o i e => exact ⟨u_dput, nS (by intros; rfl), nH (by intros; rfl)⟩
  | ret e => exact ⟨u_ret, nS (by intros; rfl), nH (by intros; rfl)⟩
  | retN => exact ⟨u_retN, nS (by intros; rfl), nH (by intros; rfl)⟩
  | ife t a b ha hb => exact ⟨u_ife ha.2.1 hb.2.1, nS (by intros; rfl), nH (by intros; rfl)⟩
  | ifd i a b ha hb => exact ⟨u_ifd ha.2.1 hb.2.1, nS (by intros; rfl), nH (by intros; rfl)⟩
  | whl t b hb => exact ⟨u_whl hb.2.1, nS (by intros; rfl), nH (by intros; rfl)⟩
  | frc t it b hb => exact ⟨u_frc hb.2.1, nS (by intros; rfl), nH (by intros; rfl)⟩
  | aug i op e => exact ⟨u_aug, nS (by intros; rfl), nH (by intros; rfl)⟩
  | brk => exact ⟨u_brk, nS (by intros; rfl), nH (by intros; rfl)⟩
  | cnt => exact ⟨u_cnt, nS (by intros; rfl), nH (by intros; rfl)⟩
  | nev => exact ⟨u_nev, us_nev, nH (by intros; rfl)⟩
  | rse j => exact ⟨u_rse, nS (by intros; rfl), nH (by intros; rfl)⟩
  | tri b h hb hh => exact ⟨u_tri hb.2.1 hh.2.2, nS (by intros; rfl), nH (by intros; rfl)⟩
  | hnd j k cs s r hs hr => exact ⟨n1 (by intros; rfl), nS (by intros; rfl), uh_hnd hs.2.1 hr.2.2⟩
  | par i j a b => exact ⟨u_par, nS (by intros; rfl), nH (by intros; rfl)⟩
  | put2 o i p j a b => exact ⟨u_put2, nS (by intros; rfl), nH (by intros; rfl)⟩
  | frd => exact ⟨n1 (by intros; rfl), nS (by intros; rfl), nH (by intros; rfl)⟩
  | triC b j k cs i t hb => exact ⟨u_triC hb.2.1, nS (by intros; rfl), nH (by intros; rfl)⟩
  | augO i j k e => exact ⟨u_augO, nS (by intros; rfl), nH (by intros; rfl)⟩
end
end Zk

namespace Zk
open PySem PySem.Spec PyProof.Rows L2

/-! ### a def of the text, by its small body -/
theorem RoomG.down {k : Nat} {A : Around} (r : RoomG (k + 1) A) (env : Env) : RoomG k (A.deeper env) := ⟨r.1.deeper env, r.2⟩
theorem fnG_by {P : Program} {w : World} {K : PySem.W.Frag} {mg : Str → Option Value} {base : Heap} {k : Nat} {f : Addr} {x qual : Str} {params : Arguments} {body : List Stmt} {scope : Scope}
    {dvs : List V} {kws : List (Str × V)} {fd : FuncData} {N ps : List Str} {sp : Sp} (F : FunD K x qual params body scope dvs kws f fd) (Sc : FnScope N ps scope) (ln : ∀ zs H Q E, sp zs H Q E → zs.length = ps.length)
    (hb : ∀ (cdv : Value) (A : Around) (out : List Env) (s : Shared) (H : Hp) (zs : List V) (Q : VK) (E : XK), RoomG k (A.deeper (envOfC qual scope s.heap.objs.size f cdv)) → sp zs H Q E →
      ∃ t, PSs (cxOf (L2.CX P w) P w K mg base N qual scope f cdv A out s H E) body t ∧ t { nx := fun _ H' => Q .non H', rt := Q } (start N zs) H) : FnG P w K mg base (k + 1) f fd ps sp := by
  obtain ⟨oc, od, dV, kV, doc, pm, an, cdv, ct, osl, rfl, lk, hcd, _, _⟩ := F.ex
  refine ⟨ln, fun A out s H ar bs zs Q E room e0 bind rel hsp => ?_⟩
  have inK : K.In s.heap := e0.mod.kin.keeps fun b o q => (e0.bs b o q).1
  have nolim : s.heap.NoLimit := e0.mod.nolimit.keeps fun b o q => (e0.bs b o q).1
  refine codeAny_call_function room.1.depth (inK _ _ lk) rfl Sc.co Sc.gen rfl (PySem.W.codeRec_of inK hcd) (bind _ _ _ _ ?_)
  refine wpAny_newFunctionEnv_cells Sc.kind (fun q hq => ?_) fun env he s1 inC => ?_
  · rcases Sc.par q.1 (List.of_mem_zip (show (q.1, q.2) ∈ _ from hq)).1 with z | z
    · exact .inl z
    · exact .inr ⟨z, PySem.W.cellsFrom_some _ _ _ (.inl z)⟩
  · subst he
    obtain ⟨t, ht, ready⟩ := hb cdv A out s H zs Q E (room.down _) hsp
    have J0 : L2.Inv (cxOf (L2.CX P w) P w K mg base N qual scope f cdv A out s H E) [] (start N zs) H s1 := inv_start Sc room.1.hd e0 (ln _ _ _ _ hsp) rel inC
    refine ⟨nolim.keeps inC.toInCall.keep, codeAny_func (wpAny_mono (ht.run [] s1 (start N zs) H _ J0 ready) (fun fl s' q => ?_) fun _ _ q => q)⟩
    match fl, q with
    | .ret u, ⟨v, σ', H', J, rv, q⟩ => exact ⟨v, H', J.os, J.bare, J.base, J.hok, rv, q⟩
    | .next, ⟨σ', H', J, q⟩ => exact ⟨.non, H', J.os, J.bare, J.base, J.hok, rfl, q⟩
    | .brk, ⟨_, _, _, q⟩ => exact q.elim
    | .cont, ⟨_, _, _, q⟩ => exact q.elim

def startW (m : Nat) (ws : List W) : Env' := ws.map some ++ List.replicate (m - ws.length) none
/-- the defs' meaning, so many calls deep -/
def callW (G : Gx) (ds : List Df) : Nat → Calls
  | 0 => fun _ _ _ _ _ => False
  | n + 1 => fun i ws st X Q => ∃ d, ds[i]? = some d ∧ ws.length = d.np ∧ wpS G (callW G ds n) d.b (startW d.N.length ws) st ⟨fun _ s => Q .non s, Q, fun _ _ => False, fun _ _ => False, fun x _ s => X x s⟩
/-! checks of a def's text -/
def scB (N P : List Str) (sc : Scope) : Bool :=
  decide (sc.kind = .function) && !sc.isCoroutine && !sc.isGenerator && decide N.Nodup && decide (N.take P.length = P) && P.all (locB sc) && sc.names.all fun y => match y.2 with | .free => false | _ => true
theorem scB_ok {N P : List Str} {sc : Scope} (h : scB N P sc = true) : FnScope N P sc := by
  simp only [scB, Bool.and_eq_true, decide_eq_true_eq, Bool.not_eq_true', List.all_eq_true] at h
  obtain ⟨⟨⟨⟨⟨⟨h1, h2⟩, h3⟩, h4⟩, h5⟩, h6⟩, h7⟩ := h
  exact ⟨h1, h2, h3, h4, h5, fun x hx => locB_ok (h6 x hx), fun y hy z => by have := h7 y hy; rw [z] at this; cases this⟩
def czOf (fns : List (Str × Nat)) (gbs : List Str) (kws : List Kw) (exs : List Str) (em : List (List Nat)) (cls : List Ci) (tas tss : List Str) (gcd kit : Bool) (d : Df) : Cz := ⟨d.N, defScope d.st, fun _ => true, true, fns, gbs, kws, exs, em, cls, tas, tss, gcd, kit⟩
def okD (fns : List (Str × Nat)) (gbs : List Str) (kws : List Kw) (exs : List Str) (em : List (List Nat)) (cls : List Ci) (tas tss : List Str) (gcd kit : Bool) (d : Df) : Bool :=
  decide (d.np ≤ d.N.length) && scB d.N d.ps (defScope d.st) && chkS (czOf fns gbs kws exs em cls tas tss gcd kit d) d.b (defBody d.st)
theorem EnvR.start {K : PySem.W.Frag} {ω : Wd} {ws : List W} {vs : List V} (r : RelL K ω ws vs) (N : List Str) : EnvR K ω (startW N.length ws) (start N vs) := by
  unfold startW L2.start
  rw [← r.length]
  have hl : (ws.map some).length = (vs.map some).length := by rw [List.length_map, List.length_map, r.length]
  refine ⟨by rw [List.length_append, List.length_append, hl, List.length_replicate, List.length_replicate], fun i w e => ?_⟩
  by_cases hi : i < ws.length
  · rw [List.getElem?_append_left (by simpa using hi), List.getElem?_map] at e
    rw [List.getElem?_append_left (by rw [List.length_map, ← r.length]; exact hi), List.getElem?_map]
    cases q : ws[i]? with
    | none => rw [q] at e; cases e
    | some w' =>
      rw [q] at e
      cases e
      obtain ⟨v, hv, rv⟩ := r.get q
      exact ⟨v, by rw [hv]; rfl, rv⟩
  · rw [List.getElem?_append_right (by simpa using hi), List.getElem?_replicate] at e
    split at e <;> cases e

/-! ### the knot -/
structure Txt (P : Program) (w : World) (K : PySem.W.Frag) (mg : Str → Option Value) (T : Tb) (ds : List Df) : Prop where
  fn : ∀ (i : Nat) (f : Fd), T.fns[i]? = some f → ∃ d : Df, ds[i]? = some d ∧ f.nm = d.gnm ∧ f.ps = d.ps ∧ FunD K d.nm d.qual (defArgs d.st) (defBody d.st) (defScope d.st) [] [] f.at_ f.fd ∧ (d.gnm ≠ Str.empty → mg d.gnm = some (.ref f.at_)) ∧ Binds K f.fd f.ps []
  len : T.fns.length = ds.length
  gb : ∀ (i : Nat) (g : Gb), T.gbs[i]? = some g → mg g.nm = some g.val ∧ RelV g.v g.val ∧ ∀ ω, Rel K ω g.w g.v
  kw : ∀ (i : Nat) (q : Kw) (f : Fd), T.kws[i]? = some q → T.fns[q.f]? = some f → KBn K f.fd f.ps q.n q.ks (picked q.perm) (picked q.perm)
  bl : ∀ x ∈ bltNames, mg x = none
  ex : ∀ (i : Nat) (x : Str) (a : Addr), T.exs[i]? = some (x, a) → mg x = some (.ref a) ∧ PySem.W.excIn K a He.veBase "ValueError.__new__" = true ∧ PySem.W.keepIn K (.ref a) = true ∧ PySem.W.subIn K (.ref a) (.type "BaseException") = some true ∧ PySem.W.typeIn K (.ref a) = some (.type "type")
  em : ∀ (i j : Nat) (a b : Str × Addr) (cs : List Nat), T.exs[i]? = some a → T.exs[j]? = some b → T.em[j]? = some cs → PySem.W.exmOne K (.ref a.2) (.ref b.2) = some (decide (i ∈ cs))
  cl : ∀ (j : Nat) (q : Cl), T.cls[j]? = some q → ClOk K mg T j q
  ta : ∀ (t : Nat) (q : Ta), T.tas[t]? = some q → TaOk K w mg q
  xo : ∀ (i : Nat) (x : Str) (a : Addr), T.kit = true → T.exs[i]? = some (x, a) → ExOk K T i a
  ts : ∀ (t : Nat) (q : Tas), T.tss[t]? = some q → TasOk K w mg q
  gc : T.gcd = true → mg "gcd" = some (.builtin "math.gcd")
theorem knot {P : Program} {w : World} {K : PySem.W.Frag} {mg : Str → Option Value} {T : Tb} {ds : List Df} (h : Txt P w K mg T ds) {fns : List (Str × Nat)} {gbs : List Str} {kws : List Kw} {exs : List Str} {em : List (List Nat)} {cis : List Ci} {tas tss : List Str} {gcd kit : Bool}
    (ef : fns = T.fns.map fun f => (f.nm, f.ps.length)) (eg : gbs = T.gbs.map (·.nm)) (ek : kws = T.kws) (ee : exs = T.exs.map (·.1)) (em' : em = T.em) (ec : cis = T.cls.map (·.ci)) (et : tas = T.tas.map (·.nm)) (es : tss = T.tss.map (·.nm)) (egc : gcd = T.gcd) (eki : kit = T.kit) (ok : ds.all (okD fns gbs kws exs em cis tas tss gcd kit) = true) :
    ∀ (n : Nat) (X : Cx), X.prog = P → X.w = w → X.K = K → X.mg = mg → TbOk T n (callW T.G ds n) X
  | 0, X, h1, h2, h3, h4 => by
    subst h1; subst h2; subst h3; subst h4
    refine ⟨fun i f hf => ?_, h.gb, h.kw, h.bl, h.ex, h.em, fun i f ws st Ex Q _ z => z.elim, fun i ws st Ex Q _ z => z.elim, h.cl, h.ta, h.xo, h.ts, h.gc⟩
    obtain ⟨d, hd, e1, e2, F, hm, hb⟩ := h.fn i f hf
    exact ⟨⟨fun vs H Q E z => z.1, fun A out s H ar us vs Q E _ _ _ _ ⟨_, _, _, _, _, _, _, _, z, _⟩ => z.elim⟩, by rw [e1]; exact hm, F.kp, hb⟩
  | n + 1, X, h1, h2, h3, h4 => by
    subst h1; subst h2; subst h3; subst h4
    have ih := knot h ef eg ek ee em' ec et es egc eki ok n
    refine ⟨fun i f hf => ?_, h.gb, h.kw, h.bl, h.ex, h.em, fun i f ws st Ex Q hf ⟨d, hd, hl, _⟩ => ?_, fun i ws st Ex Q hf ⟨d, hd, _⟩ => ?_, h.cl, h.ta, h.xo, h.ts, h.gc⟩
    · obtain ⟨d, hd, e1, e2, F, hm, hb⟩ := h.fn i f hf
      refine ⟨?_, by rw [e1]; exact hm, F.kp, hb⟩
      have okd := List.all_eq_true.mp ok d (List.mem_of_getElem? hd)
      simp only [okD, Bool.and_eq_true, decide_eq_true_eq] at okd
      obtain ⟨⟨k1, k2⟩, k3⟩ := okd
      have Sc := scB_ok k2
      have hpl : d.ps.length = d.np := by unfold Df.ps; rw [List.length_take]; omega
      rw [e2]
      refine fnG_by (k := 2 * n + 1) F Sc (fun vs H Q E z => z.1) fun cdv A out s H vs Q' E room ⟨hvl, ω, ws, st, Q, Ex, S, r, hC, k, kx⟩ => ?_
      obtain ⟨d', hd', hwl, q⟩ := hC
      rw [hd] at hd'; cases hd'
      have tk : Takes (cxOf (L2.CX X.prog X.w) X.prog X.w X.K X.mg X.base d.N d.qual (defScope d.st) f.at_ cdv A out s H E) (fun cls d _ H => E cls d H) := takes_of rfl rfl rfl rfl
      have g : Good T n (callW T.G ds n) (czOf fns gbs kws exs em cis tas tss gcd kit d) (fun cls d _ H => E cls d H) (cxOf (L2.CX X.prog X.w) X.prog X.w X.K X.mg X.base d.N d.qual (defScope d.st) f.at_ cdv A out s H E) :=
        { tb := ih _ rfl rfl rfl rfl, fns := ef, gbs := eg, kws := ek, exs := ee, em := em', cls := ec, tas := et, tss := es, gcd := egc, kit := eki, N := rfl, nd := Sc.nd, sc := rfl, calm := fun _ => rfl, room := fun _ => room, big := room.roomy, tk := tk, fnl := fun _ _ => rfl }
      refine ⟨_, (all_st d.b).2.1 _ _ _ _ g (fun _ => ⟨passes_of rfl, rfl, rfl, rfl⟩) k3, ω, _, st, _, EnvR.start r d.N, S, q, fun ω' env' σ' st' H' t S' E' q => k _ _ _ _ _ t S' .non q, k, fun _ _ _ _ _ _ _ _ z => z.elim, fun _ _ _ _ _ _ _ _ z => z.elim, fun ω' x env' σ' st' H' d t S' E' q => kx _ _ _ _ _ t S' q⟩
    · obtain ⟨d', hd', e1, e2, _⟩ := h.fn i f hf
      rw [hd] at hd'; cases hd'
      have okd := List.all_eq_true.mp ok d (List.mem_of_getElem? hd)
      simp only [okD, Bool.and_eq_true, decide_eq_true_eq] at okd
      rw [hl, e2]
      unfold Df.ps; rw [List.length_take]; omega
    · rw [List.getElem?_eq_none_iff, h.len, ← List.getElem?_eq_none_iff, hd] at hf
      cases hf

/-! ### a law's end -/
theorem topRun {P : Program} {w : World} {K : PySem.W.Frag} {mg mb : Str → Option Value} {k : Nat} {fa a : Addr} {fd : FuncData} {x : Str} {sp : Sp} {s : Shared} {us : List Value} {ns : List Int}
    (inK : K.In s.heap) (g1 : s.heap.Ns mainGlobals mg) (g2 : s.heap.Ns builtinsNs mb) (g3 : ∀ x : Str, x ≠ "__name__" → mb x = bootBuiltins x) (g4 : s.heap.NoLimit) (g5 : s.gens = #[])
    (obj : s.heap.get? a = some { cls := .type "list", data := .seq us.toArray }) (hin : IntsAre us ns) (sz : ns.length ≤ sizeLine) (room : RoomG k callerA)
    (F : ∀ base : Heap, K.In base → base.Ns mainGlobals mg → FnG P w K mg base k fa fd [x] sp) (bind : ∀ (s : Shared) (u : Value), BindsTo s fd ⟨[u], []⟩ [(x, u)])
    (main : ∀ H : Hp, SqL K H a (ns.map V.int) → sp [.ref a] H (fun v _ => v = .bl true) fun _ _ _ => False) :
    codeAny (model P w) callerA (.call (.ref fa) ⟨[.ref a], []⟩) (fun r s' => r = .ok (.ret (.bool true)) ∧ OldK s.heap s'.heap ∧ s'.os = s.os ∧ AllBare s'.gens) s := by
  have rel := vals_ints hin
  -- an abstract heap that tracks the script at most
  have run : ∀ H : Hp, SqL K H a (ns.map V.int) → HOk P w H s.heap → (∀ b u, H b = some u → b = a ∧ K.lookup a = none ∧ ∃ o xs, u = .frz o (.lst xs)) →
      codeAny (model P w) callerA (.call (.ref fa) ⟨[.ref a], []⟩) (fun r s' => r = .ok (.ret (.bool true)) ∧ OldK s.heap s'.heap ∧ s'.os = s.os ∧ AllBare s'.gens) s := by
    intro H sq hok only
    have hid : ∀ {b : Addr} {o : Obj}, s.heap.get? b = some o → b ≠ a → (hidT s.heap H).get? b = some o := fun {b o} e n => hidT_get e (by
      cases q : H b with
      | none => rfl
      | some u => exact absurd (only b u q).1 n)
    have nsU : ∀ {b : Addr} {m : Str → Option Value}, s.heap.Ns b m → (hidT s.heap H).Ns b m := fun {b m} ⟨o, es, ep, e, d, r⟩ => ⟨o, es, ep, hid e (fun z => by
      subst z
      rw [obj] at e; cases e
      exact nomatch (show Data.seq us.toArray _ = Data.dict es ep from d)), d, r⟩
    have inB : K.In (hidT s.heap H) := fun b o e => hidT_get (inK b o e) (by
      cases q : H b with
      | none => rfl
      | some u =>
        obtain ⟨z1, z2, _⟩ := only b u q
        subst z1
        rw [z2] at e; cases e)
    have e0 : Env0 P w K mg (hidT s.heap H) callerA [] s H :=
      ⟨rfl, ⟨inB, nsU g1, ⟨mb, nsU g2, g3⟩, let ⟨mc, y1, y2⟩ := g4; ⟨mc, nsU y1, y2⟩⟩, fun b o e => of_hidT e, Nat.le_of_eq (hidT_size _ _), trivial, fun b z => absurd (show b ∈ ([] : List Addr) from z) (by simp), hok, .of_eq g5⟩
    refine codeAny_mono ((F _ inB (nsU g1)).run callerA [] s H ⟨[.ref a], []⟩ [.ref a] [.ref a] _ _ room e0 (bind s (.ref a)) (.cons rfl .nil) (main H sq)) fun r s' q => ?_
    match r, q with
    | .error e, ⟨_, _, _, _, _, _, _, _, _, _, _, _, z⟩ => exact z.elim
    | .ok .next, q => exact q.elim
    | .ok .brk, q => exact q.elim
    | .ok .cont, q => exact q.elim
    | .ok (.ret u), ⟨v, H', os, bare, un, hok', rv, q⟩ =>
      have q : v = .bl true := q
      subst q
      cases (show u = Value.bool true from rv)
      refine ⟨rfl, OldK.of_keep fun b o e => ?_, os, bare⟩
      cases z : H b with
      | none => exact un.keep b o e z (fun y => absurd (show b ∈ ([] : List Addr) from y) (by simp)) (by simp)
      | some u =>
        obtain ⟨_, _, ob, xs, rfl⟩ := only b u z
        obtain ⟨y1, _⟩ := hok b _ z
        obtain ⟨y2, _⟩ := hok' b _ (un.frzs b ob _ z)
        rw [e] at y1; cases y1
        exact y2
  cases hk : K.lookup a with
  | some o =>
    have e := inK a o hk
    rw [obj] at e; cases e
    exact run (fun _ => none) (.inr ⟨_, us.toArray, _, hk, rfl, rfl, rfl, by rw [List.size_toArray, hin.length]; exact sz, by simpa using rel⟩) (fun b u z => nomatch (show (none : Option HO) = some u from z)) fun b u z => nomatch (show (none : Option HO) = some u from z)
  | none =>
    refine run (fun b => if b = a then some (.frz { cls := .type "list", data := .seq us.toArray } (.lst (ns.map V.int))) else none) (.inl (.inr ⟨_, if_pos rfl⟩)) (fun b u z => ?_) fun b u z => ?_
    · by_cases hb : b = a
      · subst hb
        cases (if_pos rfl).symm.trans z
        exact ⟨obj, by rw [List.length_map]; exact sz, us, _, rel, obj⟩
      · exact nomatch (if_neg hb).symm.trans z
    · by_cases hb : b = a
      · cases (if_pos hb).symm.trans z
        exact ⟨hb, hk, _, _, rfl⟩
      · exact nomatch (if_neg hb).symm.trans z
theorem walkG {l : PySem.W.OpenLaw} {m k : Nat} {q : Program} {loose : List Str} {XP : (Str → Option Value) → Heap → Prop} {YP : World → Heap → Prop} {d : DefRec} {x : Str} (h1 : l.most = some m) (h2 : m ≤ sizeLine) (h3 : d.params.defaults = []) (h4 : RoomG k callerA)
    (F : ∀ (w : World) (mg : Str → Option Value) (fa : Addr) (h : Heap), YP w h → h.Ns mainGlobals mg → mg d.name = some (.ref fa) → ∃ (K : PySem.W.Frag) (fd : FuncData) (sp : Sp), K.In h ∧ (∀ (s : Shared) (u : Value), BindsTo s fd ⟨[u], []⟩ [(x, u)]) ∧
      (∀ (H : Hp) (a : Addr) (ns : List Int), ns.length ≤ m → SqL K H a (ns.map V.int) → sp [.ref a] H (fun v _ => v = .bl true) fun _ _ _ => False) ∧ ∀ base : Heap, K.In base → base.Ns mainGlobals mg → FnG l.prog w K mg base k fa fd [x] sp) :
    PySem.W.WalkO q loose XP YP l.row.toRowW d [] (fun f vs => PySem.call f vs) := by
  refine Att.attach_call h1 h3 fun w s₀ s₁ mg mb fa o pm cd doc a vs ns G Y ho hd hcd hmg hobj hints hlen hg => ?_
  obtain ⟨K, fd, sp, z1, z2, z3, z4⟩ := F w mg fa _ Y G.T.g hmg
  exact topRun z1 G.T.g G.T.b G.T.builtins G.T.nolimit hg hobj hints (Nat.le_trans hlen h2) h4 z4 z2 fun H hS => z3 H a ns hlen hS
end Zk

namespace Zk
open PySem PySem.Spec PyProof.Rows L2

theorem pick {α β : Type} {P : α → β → Prop} : ∀ l : List α, (∀ a ∈ l, ∃ b, P a b) → ∃ l' : List β, l'.length = l.length ∧ ∀ (i : Nat) (a : α), l[i]? = some a → ∃ b, l'[i]? = some b ∧ P a b
  | [], _ => ⟨[], rfl, fun i a h => by simp at h⟩
  | a :: l, h => by
    obtain ⟨b, hb⟩ := h a (List.mem_cons_self ..)
    obtain ⟨l', e, hl⟩ := pick l fun x hx => h x (List.mem_cons_of_mem _ hx)
    refine ⟨b :: l', by simp [e], fun i x hx => ?_⟩
    cases i with
    | zero => simp at hx; subst hx; exact ⟨b, rfl, hb⟩
    | succ i => exact hl i x (by simpa using hx)
/-- how a def's parameters are bound -/
def BindN (d : Df) : Prop := ∀ (kV doc pm : Value) (an : Option Addr) (cdv ct : Value) (us : List Value), us.length = d.ps.length → bindArgs (PySem.W.fnOf d.nm d.qual (defArgs d.st) (defBody d.st) (defScope d.st) .none kV doc pm an cdv ct) ⟨us, []⟩ = pure (d.ps.zip us)
def KwN (ds : List Df) (q : Kw) : Prop := ∀ d : Df, ds[q.f]? = some d → ∀ (kV doc pm : Value) (an : Option Addr) (cdv ct : Value) (us ws : List Value), us.length = q.n → ws.length = q.ks.length →
  bindArgs (PySem.W.fnOf d.nm d.qual (defArgs d.st) (defBody d.st) (defScope d.st) .none kV doc pm an cdv ct) ⟨us, q.ks.zip ws⟩ = pure (d.ps.zip (picked q.perm us ws))

/-! ### what is looked at behind the top -/
theorem and2 {a b : Bool} (h : (a && b) = true) : a = true ∧ b = true := Bool.and_eq_true_iff.mp h
theorem funZ {K : PySem.W.Frag} {d : Df} (e : seenZ K (atOf K d) = wantZ d) (c : okZ K d = true) : ∃ fd, FunD K d.nm d.qual (defArgs d.st) (defBody d.st) (defScope d.st) [] [] (atOf K d) fd := by
  obtain ⟨kp, c2⟩ := and2 c
  unfold seenZ at e
  cases q : K.lookup (atOf K d) with
  | none => rw [q] at c2; cases c2
  | some o =>
    obtain ⟨oc, od, dt, osl⟩ := o
    rw [q] at c2 e
    cases dt with
    | func r =>
      obtain ⟨n1, n2, n3, n4, n5, n6, n7, n8, n9, n10, n11, n12, n13, n14, n15⟩ := r
      have e2 : (some (n1, n2, n3, n4, n5, n6, n7, n15) : He.FnW) = wantZ d := e
      simp only [wantZ, Option.some.injEq, Prod.mk.injEq] at e2
      obtain ⟨h1, h2, h3, h4, h5, h6, h7, h8⟩ := e2
      subst h1 h2 h3 h4 h5 h6 h7 h8
      have c3 : (PySem.W.codeIn K n13 d.qual && (He.dflB K n8 [] && He.kwdB K n9 [])) = true := c2
      obtain ⟨k1, k2⟩ := and2 c3
      obtain ⟨k3, k4⟩ := and2 k2
      exact ⟨_, ⟨oc, od, n8, n9, n10, n11, n12, n13, n14, osl, rfl, q, k1, He.dflB_ok k3, He.kwdB_ok k4⟩, kp⟩
    | _ => cases c2
theorem propZ_ok {K : PySem.W.Frag} {C g : Addr} {f : Str} (h : propZ K C f g = true) : ∃ p, PropOf K C f p g := by
  obtain ⟨h1, h⟩ := and2 h
  obtain ⟨h2, h⟩ := and2 h
  obtain ⟨h3, h4⟩ := and2 h
  refine ⟨He.ma K C f, of_decide_eq_true h1, of_decide_eq_true h2, of_decide_eq_true h3, ?_⟩
  split at h4
  · rename_i a rest e
    rw [of_decide_eq_true h4] at e
    exact ⟨rest, e⟩
  · cases h4
section
variable {c : Cfg} {w : World} {K : PySem.W.Frag}
theorem SaysK.facts (h : SaysK c w K) : factsZ c K = true := congrArg (fun z : AlZ => z.1) h
theorem SaysK.fact (h : SaysK c w K) {f : He.Fa} (hf : f ∈ faOf c) : f.ok K = true := List.all_eq_true.mp (and2 h.facts).1 f hf
theorem SaysK.def_ (h : SaysK c w K) {i : Nat} {d : Df} (hd : c.ds[i]? = some d) : ∃ fd, FunD K d.nm d.qual (defArgs d.st) (defBody d.st) (defScope d.st) [] [] (atOf K d) fd := by
  have e : c.ds.map (fun d => seenZ K (atOf K d)) = c.ds.map wantZ := congrArg (fun z : AlZ => z.2.1) h
  have e2 : (c.ds.map fun d => seenZ K (atOf K d))[i]? = (c.ds.map wantZ)[i]? := by rw [e]
  rw [List.getElem?_map, List.getElem?_map, hd] at e2
  exact funZ (Option.some.inj e2) (List.all_eq_true.mp (and2 (and2 h.facts).2).1 d (List.mem_of_getElem? hd))
theorem SaysK.tab (h : SaysK c w K) {i : Nat} {t : Str × List (Str × Int)} (ht : c.tas[i]? = some t) : ∃ es n, KDict K w (He.ga K t.1) es n := by
  have e : c.tas.map (fun t => He.dicW K (He.ga K t.1)) = c.tas.map fun t => some (He.keysIn w.params (t.2.map (·.1))) := congrArg (fun z : AlZ => z.2.2.1) h
  have e2 : (c.tas.map fun t => He.dicW K (He.ga K t.1))[i]? = (c.tas.map fun t => some (He.keysIn w.params (t.2.map (·.1))))[i]? := by rw [e]
  rw [List.getElem?_map, List.getElem?_map, ht] at e2
  exact He.dicW_ok (Option.some.inj e2)
theorem SaysK.tabS (h : SaysK c w K) {i : Nat} {t : Str × List (Str × Str)} (ht : c.tss[i]? = some t) : ∃ es n, KDict K w (He.ga K t.1) es n := by
  have e : c.tss.map (fun t => He.dicW K (He.ga K t.1)) = c.tss.map fun t => some (He.keysIn w.params (t.2.map (·.1))) := congrArg (fun z : AlZ => z.2.2.2) h
  have e2 : (c.tss.map fun t => He.dicW K (He.ga K t.1))[i]? = (c.tss.map fun t => some (He.keysIn w.params (t.2.map (·.1))))[i]? := by rw [e]
  rw [List.getElem?_map, List.getElem?_map, ht] at e2
  exact He.dicW_ok (Option.some.inj e2)
theorem SaysK.rest (h : SaysK c w K) : (c.tas.all (fun t => He.valsB K (He.ga K t.1) (t.2.map fun p => (p.1, He.Dv.int p.2))) = true) ∧ (c.gts.all (fun t => He.tupB K t.1 (t.2.map Gv.dv)) = true) ∧ (c.tss.all (fun t => He.valsB K (He.ga K t.1) (t.2.map fun p => (p.1, He.Dv.str p.2))) = true) ∧
    ((!c.kit || (List.range c.exs.length).all (fun i => match c.exs[i]? with | some x => excZ c K i x | none => true)) = true) ∧ (!c.gcd || He.eqO (PySem.W.nsIn K mainGlobals "gcd") (some (some (.builtin "math.gcd")))) = true := by
  obtain ⟨a, b⟩ := and2 (and2 (and2 (and2 h.facts).2).2).2
  obtain ⟨b1, b2⟩ := and2 b
  obtain ⟨c1, c2⟩ := and2 b2
  obtain ⟨d1, d2⟩ := and2 c2
  exact ⟨a, b1, c1, d1, d2⟩
theorem SaysK.cls (h : SaysK c w K) {j : Nat} {q : Ci} (hq : c.cis[j]? = some q) : clZ c K j q = true := by
  have := List.all_eq_true.mp (and2 (and2 (and2 h.facts).2).2).1 j (List.mem_range.mpr (List.getElem?_eq_some_iff.mp hq).1)
  rw [hq] at this
  exact this
end
def FdOf (K : PySem.W.Frag) (d : Df) (f : Fd) : Prop := f.nm = d.gnm ∧ f.ps = d.ps ∧ f.at_ = atOf K d ∧ FunD K d.nm d.qual (defArgs d.st) (defBody d.st) (defScope d.st) [] [] f.at_ f.fd
abbrev AA : Type := (Nat → Addr) × (Nat → Addr)
def Gof (c : Cfg) (A : AA) : Gx := ⟨fun i => (c.gts[i]?).map fun t => .tup (t.2.map Gv.w), A.1, c.cis.length, supB c.sup, fun t => ((c.tas[t]?).map (·.2)).getD [], A.2, if c.kit then c.exs.length else 0, fun j => (c.em[j]?).getD [], fun t => ((c.tss[t]?).map (·.2)).getD []⟩
/-- the written part tells all that the table wants -/
theorem txt_of {P : Program} {w : World} {K : PySem.W.Frag} {mg : Str → Option Value} {h : Heap} {c : Cfg} (inK : K.In h) (ns : h.Ns mainGlobals mg) (z : SaysK c w K) (hb : ∀ d ∈ c.ds, BindN d) (hk : ∀ q ∈ c.kws, KwN c.ds q) (hne : ∀ d ∈ c.ds, d.cl = none → d.nm ≠ Str.empty) :
    ∃ T : Tb, T.fns.map (fun f => (f.nm, f.ps.length)) = c.ds.map (fun d => (d.gnm, d.ps.length)) ∧ T.gbs.map (·.nm) = c.gts.map (·.1) ∧ T.kws = c.kws ∧ T.exs.map (·.1) = c.exs ∧ T.em = c.em ∧ T.cls.map (·.ci) = c.cis ∧ T.tas.map (·.nm) = c.tas.map (·.1) ∧ T.tss.map (·.nm) = c.tss.map (·.1) ∧ T.gcd = c.gcd ∧ T.kit = c.kit ∧ T.G = Gof c (T.A, T.exA) ∧ Txt P w K mg T c.ds ∧
      ∀ (i : Nat) (d : Df), c.ds[i]? = some d → ∃ f, T.fns[i]? = some f ∧ FdOf K d f := by
  have all : ∀ d ∈ c.ds, ∃ f, FdOf K d f := fun d hd => by
    obtain ⟨i, hi, e⟩ := List.getElem_of_mem hd
    obtain ⟨fd, F⟩ := z.def_ (i := i) (d := d) (by rw [List.getElem?_eq_getElem hi, e])
    exact ⟨⟨d.gnm, d.ps, atOf K d, fd⟩, rfl, rfl, rfl, F⟩
  obtain ⟨fns, el, hf⟩ := pick c.ds all
  have back : ∀ (i : Nat) (f : Fd), fns[i]? = some f → ∃ d, c.ds[i]? = some d ∧ FdOf K d f := fun i f hi => by
    have : i < c.ds.length := by rw [← el]; exact (List.getElem?_eq_some_iff.mp hi).1
    obtain ⟨f', h1, h2⟩ := hf i _ (List.getElem?_eq_getElem this)
    rw [hi] at h1; cases h1
    exact ⟨_, List.getElem?_eq_getElem this, h2⟩
  have map : fns.map (fun f => (f.nm, f.ps.length)) = c.ds.map (fun d => (d.gnm, d.ps.length)) := by
    apply List.ext_getElem?
    intro i
    rw [List.getElem?_map, List.getElem?_map]
    cases e : c.ds[i]? with
    | none =>
      have : fns[i]? = none := by
        rw [List.getElem?_eq_none_iff] at e ⊢
        rw [el]; exact e
      rw [this]; rfl
    | some d =>
      obtain ⟨f, h1, h2, h3, _⟩ := hf i d e
      rw [h1]
      show some (f.nm, f.ps.length) = some (d.gnm, d.ps.length)
      rw [h2, h3]
  have bind : ∀ {d : Df} {f : Fd}, d ∈ c.ds → FdOf K d f → Binds K f.fd f.ps [] := fun {d f} hd ⟨e1, e2, e3, F⟩ => by
    rw [e2]
    exact F.bindsN fun kV doc pm an cdv ct us hl => hb d hd kV doc pm an cdv ct us hl
  -- the facts by where they stand
  have glo : ∀ {x : Str}, He.Fa.glo x ∈ faOf c → mg x = some (.ref (He.ga K x)) := fun hx => He.glo_ok inK ns (z.fact hx)
  have atT : ∀ (j : Nat) (q : Cl), (c.cis.map fun ci => (⟨ci, He.ga K ci.nm⟩ : Cl))[j]? = some q → c.cis[j]? = some q.ci ∧ q.at_ = He.ga K q.ci.nm := fun j q hq => by
    rw [List.getElem?_map] at hq
    cases e : c.cis[j]? with
    | none => rw [e] at hq; cases hq
    | some ci => rw [e] at hq; cases hq; exact ⟨rfl, rfl⟩
  have fdat : ∀ {i : Nat} {f : Fd}, fns[i]? = some f → ∃ d, c.ds[i]? = some d ∧ f.at_ = atOf K d := fun {i f} hi => by
    obtain ⟨d, hd, F⟩ := back i f hi
    exact ⟨d, hd, F.2.2.1⟩
  have tb : ∀ (t : Nat) (q : Ta), (c.tas.map fun t => (⟨t.1, He.ga K t.1, t.2⟩ : Ta))[t]? = some q → ∃ p, c.tas[t]? = some p ∧ q = ⟨p.1, He.ga K p.1, p.2⟩ := fun t q hq => by
    rw [List.getElem?_map] at hq
    cases e : c.tas[t]? with
    | none => rw [e] at hq; cases hq
    | some p => rw [e] at hq; cases hq; exact ⟨p, rfl, rfl⟩
  refine ⟨⟨fns, c.gts.map fun t => ⟨t.1, .tup (t.2.map Gv.w), .ref (He.ga K t.1), .ref (He.ga K t.1)⟩, c.kws, c.exs.map fun x => (x, He.ga K x), c.em, c.cis.map fun ci => ⟨ci, He.ga K ci.nm⟩, c.sup, c.tas.map fun t => ⟨t.1, He.ga K t.1, t.2⟩, c.tss.map fun t => ⟨t.1, He.ga K t.1, t.2⟩, c.gcd, c.kit⟩,
    map, by rw [List.map_map]; rfl, rfl, by rw [List.map_map]; exact List.map_id' c.exs, rfl, by rw [List.map_map]; exact List.map_id' c.cis, by rw [List.map_map]; rfl, by rw [List.map_map]; rfl, rfl, rfl, ?_, ⟨fun i f hi => ?_, el, fun i g hg => ?_, fun i q f hq hi => ?_, fun x hx => ?_, fun i x a hi => ?_, fun i j a b cs hi hj hcs => ?_, fun j q hq => ?_, fun t q hq => ?_, fun i x a hkt hi => ?_, fun t q hq => ?_, fun hg => ?_⟩, hf⟩
  · unfold Tb.G Gof
    congr 1
    · funext i
      simp only [List.getElem?_map]
      cases c.gts[i]? <;> rfl
    · simp
    · funext t
      simp only [List.getElem?_map]
      cases c.tas[t]? <;> rfl
    · simp
    · funext t
      simp only [List.getElem?_map]
      cases c.tss[t]? <;> rfl
  · obtain ⟨d, hd, F⟩ := back i f hi
    have hm := List.mem_of_getElem? hd
    refine ⟨d, hd, F.1, F.2.1, F.2.2.2, fun hn => ?_, bind hm F⟩
    rw [F.2.2.1]
    cases hc : d.cl with
    | some p => exact absurd (by unfold Df.gnm; rw [hc]) hn
    | none =>
      have e1 : d.gnm = d.nm := by unfold Df.gnm; rw [hc]
      have e2 : atOf K d = He.ga K d.nm := by unfold atOf; rw [hc]
      rw [e1, e2]
      refine glo (List.mem_append_left _ (List.mem_map.mpr ⟨d.nm, ?_, rfl⟩))
      exact List.mem_map.mpr ⟨d, List.mem_filter.mpr ⟨hm, by rw [hc]; rfl⟩, rfl⟩
  · rw [List.getElem?_map] at hg
    cases e : c.gts[i]? with
    | none => rw [e] at hg; cases hg
    | some t =>
      rw [e] at hg
      cases hg
      have hm := List.mem_of_getElem? e
      refine ⟨glo ?_, rfl, fun ω => ?_⟩
      · simp only [faOf, List.mem_append]
        exact .inr (.inr (.inr (.inr (.inr (.inr (.inr (.inr (.inr (.inl (List.mem_map.mpr ⟨t, hm, rfl⟩))))))))))
      · have ht := List.all_eq_true.mp z.rest.2.1 t hm
        have := He.tupB_ok ht ω.D
        rw [List.map_map] at this
        refine .tup this ?_
        have go : ∀ l : List Gv, RelL K ω (l.map Gv.w) (l.map (He.Dv.v K ∘ Gv.dv)) := fun l => by
          induction l with
          | nil => exact .nil
          | cons x l ih => cases x with
            | int i => exact .cons (.int i) ih
            | str x => exact .cons (.str x) ih
        exact go t.2
  · obtain ⟨d, hd, e1, e2, e3, F⟩ := back q.f f hi
    refine ⟨fun s us ws inS l1 l2 => ?_, fun r1 r2 => picked_ok q.perm r1 r2⟩
    rw [e2]
    obtain ⟨oc, od, dV, kV, doc, pm, an, cdv, ct, osl, e, lk, hcd, hD, hK⟩ := F.ex
    rw [e]
    rcases hD with ⟨_, rfl⟩ | ⟨z, _⟩
    · exact .of_eq (hk q (List.mem_of_getElem? hq) d hd kV doc pm an cdv ct us ws l1 l2)
    · exact absurd rfl z
  · refine He.free_ok inK ns (z.fact ?_)
    simp only [faOf, List.mem_append]
    exact .inr (.inl (List.mem_map.mpr ⟨x, hx, rfl⟩))
  · have hi : (c.exs.map fun x => (x, He.ga K x))[i]? = some (x, a) := hi
    rw [List.getElem?_map] at hi
    cases q : c.exs[i]? with
    | none => rw [q] at hi; cases hi
    | some y =>
      rw [q] at hi
      cases hi
      have hm := List.mem_of_getElem? q
      obtain ⟨z1, z2, z3, z4⟩ := He.exc_ok (x := x) (z.fact (by simp only [faOf, List.mem_append]; exact .inr (.inr (.inr (.inl (List.mem_map.mpr ⟨x, hm, rfl⟩))))))
      exact ⟨glo (by simp only [faOf, List.mem_append]; exact .inr (.inr (.inl (List.mem_map.mpr ⟨x, hm, rfl⟩)))), z1, z2, z3, z4⟩
  · have hi : (c.exs.map fun x => (x, He.ga K x))[i]? = some a := hi
    have hj : (c.exs.map fun x => (x, He.ga K x))[j]? = some b := hj
    have hcs : c.em[j]? = some cs := hcs
    rw [List.getElem?_map] at hi hj
    cases q : c.exs[i]? with
    | none => rw [q] at hi; cases hi
    | some x =>
      cases r : c.exs[j]? with
      | none => rw [r] at hj; cases hj
      | some y =>
        rw [q] at hi; rw [r] at hj
        cases hi; cases hj
        refine He.exm_ok (x := x) (y := y) (z.fact ?_)
        simp only [faOf, List.mem_append]
        refine .inr (.inr (.inr (.inr (.inl ?_))))
        refine List.mem_flatMap.mpr ⟨i, List.mem_range.mpr (List.getElem?_eq_some_iff.mp q).1, List.mem_filterMap.mpr ⟨j, List.mem_range.mpr (List.getElem?_eq_some_iff.mp r).1, ?_⟩⟩
        rw [q, r, hcs]
  · obtain ⟨hc, ha⟩ := atT j q hq
    obtain ⟨ci, at_⟩ := q
    simp only at hc ha
    subst ha
    have hm := List.mem_of_getElem? hc
    have y := z.cls hc
    unfold clZ at y
    simp only [Bool.and_eq_true, decide_eq_true_eq, List.all_eq_true] at y
    obtain ⟨y1, y2, y3, y4, y5, y6, y7, ⟨y8, y9, y10, y11⟩, y12, y13, y14⟩ := y
    have y6a : ∀ t ∈ plainTys, PySem.W.kitOne K (.type t) (.ref (He.ga K ci.nm)) = some false := fun t ht => (y6 t ht).2.1
    have y6b : ∀ t ∈ plainTys, PySem.W.kitOne K (.ref (He.ga K ci.nm)) (.type t) = some false := fun t ht => (y6 t ht).2.2
    refine ⟨glo (by simp only [faOf, List.mem_append]; exact .inr (.inr (.inr (.inr (.inr (.inl (List.mem_map.mpr ⟨ci, hm, rfl⟩))))))), y1, He.cls_ok (z.fact (by simp only [faOf, List.mem_append]; exact .inr (.inr (.inr (.inr (.inr (.inr (.inl (List.mem_map.mpr ⟨ci, hm, rfl⟩)))))))) ), y2,
      fun f hf => He.noat_ok (z.fact (by simp only [faOf, List.mem_append]; exact .inr (.inr (.inr (.inr (.inr (.inr (.inr (.inl (List.mem_flatMap.mpr ⟨ci, hm, List.mem_map.mpr ⟨f, hf, rfl⟩⟩)))))))))), fun p hp f hf => ?_, fun p hp f hf => ?_, y3, fun t ht => (y6 t ht).1, fun i r hr => ?_, y6a, y6b, fun i r hr => ?_, ⟨y8, y9, y10, y11⟩, y12, y13, y14⟩
    · obtain ⟨d, hd, e⟩ := fdat hf
      have := y4 p hp
      rw [hd] at this
      rw [e]
      exact propZ_ok this
    · obtain ⟨d, hd, e⟩ := fdat hf
      have := y5 p hp
      rw [hd] at this
      simp only [Bool.and_eq_true, decide_eq_true_eq] at this
      rw [e]
      exact this
    · obtain ⟨hr1, hr2⟩ := atT i r hr
      have := y7 i (List.mem_range.mpr (List.getElem?_eq_some_iff.mp hr1).1)
      rw [hr1] at this
      simp only [Bool.and_eq_true, decide_eq_true_eq] at this
      rw [hr2]
      exact this.1
    · obtain ⟨hr1, hr2⟩ := atT i r hr
      have := y7 i (List.mem_range.mpr (List.getElem?_eq_some_iff.mp hr1).1)
      rw [hr1] at this
      simp only [Bool.and_eq_true, decide_eq_true_eq] at this
      rw [hr2]
      exact this.2
  · obtain ⟨p, hp, rfl⟩ := tb t q hq
    have hm := List.mem_of_getElem? hp
    refine ⟨glo (by simp only [faOf, List.mem_append]; exact .inr (.inr (.inr (.inr (.inr (.inr (.inr (.inr (.inl (List.mem_map.mpr ⟨p, hm, rfl⟩)))))))))), z.tab hp, fun r hr => ?_⟩
    have hv := List.all_eq_true.mp z.rest.1 p hm
    exact He.valsB_ok hv (q := (r.1, He.Dv.int r.2)) (List.mem_map.mpr ⟨r, hr, rfl⟩)
  · have hx := z.rest.2.2.2.1
    have hkt : c.kit = true := hkt
    rw [hkt] at hx
    simp only [Bool.not_true, Bool.false_or] at hx
    have hi : (c.exs.map fun x => (x, He.ga K x))[i]? = some (x, a) := hi
    rw [List.getElem?_map] at hi
    cases q : c.exs[i]? with
    | none => rw [q] at hi; cases hi
    | some y =>
      rw [q] at hi
      cases hi
      have hm := List.mem_of_getElem? q
      obtain ⟨z1, z2, z3, z4⟩ := He.exc_ok (x := x) (z.fact (by simp only [faOf, List.mem_append]; exact .inr (.inr (.inr (.inl (List.mem_map.mpr ⟨x, hm, rfl⟩))))))
      have h0 := List.all_eq_true.mp hx i (List.mem_range.mpr (List.getElem?_eq_some_iff.mp q).1)
      rw [q] at h0
      have h0 : excZ c K i x = true := h0
      unfold excZ at h0
      simp only [Bool.and_eq_true, decide_eq_true_eq, List.all_eq_true] at h0
      obtain ⟨w1, w2, w3, w4, w5, w6, w7, w0, w8, w9, w10⟩ := h0
      refine ⟨⟨w1, w2, z3, w3, w4, w5, w6, w7⟩, fun t ht => w8 t ht, fun j r hr => ?_, w0, fun j b cs hb hcs => ?_⟩
      · obtain ⟨hr1, hr2⟩ := atT j r hr
        have := w9 j (List.mem_range.mpr (List.getElem?_eq_some_iff.mp hr1).1)
        rw [hr1] at this
        simp only [Bool.and_eq_true, decide_eq_true_eq] at this
        rw [hr2]
        exact ⟨this.1, this.2.1, this.2.2⟩
      · have hb : (c.exs.map fun x => (x, He.ga K x))[j]? = some b := hb
        have hcs : c.em[j]? = some cs := hcs
        rw [List.getElem?_map] at hb
        cases r : c.exs[j]? with
        | none => rw [r] at hb; cases hb
        | some y =>
          rw [r] at hb
          cases hb
          have := w10 j (List.mem_range.mpr (List.getElem?_eq_some_iff.mp r).1)
          rw [r, hcs] at this
          simp only [decide_eq_true_eq] at this
          exact this
  · have hq : (c.tss.map fun t => (⟨t.1, He.ga K t.1, t.2⟩ : Tas))[t]? = some q := hq
    rw [List.getElem?_map] at hq
    cases e : c.tss[t]? with
    | none => rw [e] at hq; cases hq
    | some p =>
      rw [e] at hq
      cases hq
      have hm := List.mem_of_getElem? e
      refine ⟨glo (by simp only [faOf, List.mem_append]; exact .inr (.inr (.inr (.inr (.inr (.inr (.inr (.inr (.inr (.inr (List.mem_map.mpr ⟨p, hm, rfl⟩))))))))))), z.tabS e, fun r hr => ?_⟩
      have hv := List.all_eq_true.mp z.rest.2.2.1 p hm
      exact He.valsB_ok hv (q := (r.1, He.Dv.str r.2)) (List.mem_map.mpr ⟨r, hr, rfl⟩)
  · have hx := z.rest.2.2.2.2
    have hg : c.gcd = true := hg
    rw [hg] at hx
    simp only [Bool.not_true, Bool.false_or] at hx
    exact PySem.W.mg_of inK ns (He.eqO_ok hx)
/-- what is to be shown of the law's def -/
theorem law_by {P : Program} {w : World} {K : PySem.W.Frag} {mg : Str → Option Value} {h : Heap} {c : Cfg} {i m n : Nat} {d : Df} {fa : Addr} {x : Str} {fns : List (Str × Nat)} {gbn tan tsn : List Str} (inK : K.In h) (ns : h.Ns mainGlobals mg) (z : SaysK c w K)
    (hb : ∀ d ∈ c.ds, BindN d) (hk : ∀ q ∈ c.kws, KwN c.ds q) (hne : ∀ d ∈ c.ds, d.cl = none → d.nm ≠ Str.empty) (hfn : fns = c.ds.map fun d => (d.gnm, d.ps.length)) (hgn : gbn = c.gts.map (·.1)) (htn : tan = c.tas.map (·.1)) (hsn : tsn = c.tss.map (·.1))
    (ok : c.ds.all (okD fns gbn c.kws c.exs c.em c.cis tan tsn c.gcd c.kit) = true) (hd : c.ds[i]? = some d) (hcl : d.cl = none) (hps : d.ps = [x]) (hm : mg d.nm = some (.ref fa))
    (law : ∀ (A : AA) (ns : List Int), ns.length ≤ m → callW (Gof c A) c.ds n i [.scr ns] [] noX fun w _ => w = .bl true) :
    ∃ (fd : FuncData) (sp : Sp), (∀ (s : Shared) (u : Value), BindsTo s fd ⟨[u], []⟩ [(x, u)]) ∧ (∀ (H : Hp) (a : Addr) (ns : List Int), ns.length ≤ m → SqL K H a (ns.map V.int) → sp [.ref a] H (fun v _ => v = .bl true) fun _ _ _ => False) ∧
      ∀ base : Heap, K.In base → base.Ns mainGlobals mg → FnG P w K mg base (2 * n) fa fd [x] sp := by
  obtain ⟨T, e1, e2, e3, e4, e5, e6, e7, e8, e9, e10, eG, tx, hf⟩ := txt_of (P := P) (w := w) inK ns z hb hk hne
  obtain ⟨f, hfi, F⟩ := hf i d hd
  obtain ⟨f1, f2, f3, f4⟩ := F
  have hat : f.at_ = fa := by
    have e : d.gnm = d.nm := by unfold Df.gnm; rw [hcl]
    obtain ⟨d', hd', _, _, _, hm', _⟩ := tx.fn i f hfi
    rw [hd] at hd'; cases hd'
    have := hm' (by rw [e]; exact hne d (List.mem_of_getElem? hd) hcl)
    rw [e, hm] at this
    exact (Value.ref.inj (Option.some.inj this)).symm
  refine ⟨f.fd, spOf T K (callW T.G c.ds n) i f.ps.length, fun s u => ?_, fun H a ns hl sq => ?_, fun base inB nsB => ?_⟩
  · have hdm := List.mem_of_getElem? hd
    have := FunD.bindsA (ps := d.ps) f4 (fun kV doc pm an cdv ct us hl => hb d hdm kV doc pm an cdv ct us hl) s [u] (by rw [hps]; rfl)
    rw [hps] at this
    exact this
  · refine ⟨by rw [f2, hps]; rfl, ⟨[], H⟩, [.scr ns], [], fun w _ => w = .bl true, noX, ⟨fun _ _ z => z, rfl, fun n a c z => by simp at z, fun n m a c d z => by simp at z, fun n a c z => by simp at z, fun n a c z => by simp at z, fun _ _ _ _ z => z, fun _ _ _ z => z⟩, .cons (.scr sq) .nil, by rw [eG]; exact law _ ns hl, ?_, fun _ _ _ _ _ _ _ z => z.elim⟩
    intro ω' w v st' H' _ _ r q
    subst q
    exact r.bl_inv
  · have kk := knot tx (hfn.trans e1.symm) (hgn.trans e2.symm) e3.symm e4.symm e5.symm e6.symm (htn.trans e7.symm) (hsn.trans e8.symm) e9.symm e10.symm ok n (cxOf (L2.CX P w) P w K mg base [] d.nm (defScope d.st) fa .none callerA [] ({} : Shared) (fun _ => none) fun _ _ _ => False) rfl rfl rfl rfl
    obtain ⟨Fn, _⟩ := kk.fn i f hfi
    rw [hat, f2, hps] at Fn
    rw [f2, hps]
    exact Fn
end Zk

namespace Zk
open PySem PySem.Spec PyProof.Rows L2

/-! ### steps -/
section
variable {m : Bool} {st : Sto} {Q : Po} {R : Bool → Prop}
theorem addI {i j : Int} (h : Q (.int (i + j)) st) : binW .add m (.int i) (.int j) st Q := .inl ⟨i, j, rfl, rfl, h⟩
theorem addL {x y : W} {a b : List W} (e1 : ls st x = some a) (e2 : ls st y = some b) (h : newL m (a ++ b) st Q) : binW .add m x y st Q := .inr (.inr (.inr ⟨a, b, e1, e2, h⟩))
theorem subI {i j : Int} (h : Q (.int (i - j)) st) : binW .sub m (.int i) (.int j) st Q := ⟨i, j, rfl, rfl, h⟩
theorem mulI {i j : Int} (c : CMul i j) (h : Q (.int (i * j)) st) : binW .mul m (.int i) (.int j) st Q := .inl ⟨i, j, rfl, rfl, .inl c, h⟩
theorem modI {i j : Int} (c : 0 < j) (h : Q (.int (i % j)) st) : binW .mod m (.int i) (.int j) st Q := ⟨i, j, rfl, rfl, .inl ⟨c, h⟩⟩
theorem divI {i j : Int} (c : 0 < j) (c2 : j.natAbs.log2 < 9000) (h : Q (.int (i / j)) st) : binW .fdiv m (.int i) (.int j) st Q := ⟨i, j, rfl, rfl, .inl ⟨c, c2, h⟩⟩
theorem powI {i j : Int} (c : CPow i j) (h : Q (.int (i ^ j.toNat)) st) : binW .pow m (.int i) (.int j) st Q := ⟨i, j, rfl, rfl, c, h⟩
theorem eqI {i j : Int} (h : R (decide (i = j))) : cmpP .eq (.int i) (.int j) st R := .inl ⟨i, j, rfl, rfl, h⟩
theorem neI {i j : Int} (h : R (!decide (i = j))) : cmpP .ne (.int i) (.int j) st R := .inl ⟨i, j, rfl, rfl, h⟩
theorem ltI {i j : Int} (h : R (decide (i < j))) : cmpP .lt (.int i) (.int j) st R := .inl ⟨i, j, rfl, rfl, h⟩
theorem leI {i j : Int} (h : R (decide (i ≤ j))) : cmpP .le (.int i) (.int j) st R := .inl ⟨i, j, rfl, rfl, h⟩
theorem gtI {i j : Int} (h : R (decide (j < i))) : cmpP .gt (.int i) (.int j) st R := ⟨i, j, rfl, rfl, h⟩
theorem geI {i j : Int} (h : R (decide (j ≤ i))) : cmpP .ge (.int i) (.int j) st R := ⟨i, j, rfl, rfl, h⟩
theorem eqS {a b : Str} (h : R (decide (a = b))) : cmpP .eq (.str a) (.str b) st R := .inr (.inl ⟨a, b, rfl, rfl, h⟩)
theorem ixL {x : W} {l : List W} {i : Int} {w : W} (e : sq st x = some l) (h : atI l i = some w) (q : Q w st) : ixW x (.int i) st Q := .inl ⟨l, i, w, e, rfl, h, q⟩
theorem lenS {x : W} {l : List W} (e : sq st x = some l) (h : Q (.int l.length) st) : biW .len m [x] st Q := .inl ⟨x, l, rfl, e, h⟩
theorem lenT {z : Str} (c : z.length ≤ sizeLine) (h : Q (.int z.length) st) : biW .len m [.str z] st Q := .inr (.inl ⟨z, rfl, c, h⟩)
theorem intI {i : Int} (h : Q (.int i) st) : biW .int m [.int i] st Q := .inl ⟨i, rfl, h⟩
theorem strI {i : Int} (c : i.natAbs.log2 < 1920) (h : Q (.str (toString i)) st) : biW .str m [.int i] st Q := ⟨i, rfl, c, h⟩
theorem max2I {i j : Int} (h : Q (.int (if j > i then j else i)) st) : biW .max2 m [.int i, .int j] st Q := ⟨i, j, rfl, h⟩
theorem newT {ws : List W} (c : ws.length ≤ sizeLine) (h : Q (.ref st.length) (st ++ [(true, .lst ws)])) : newL true ws st Q := ⟨c, fun _ => h, fun z => nomatch z⟩
theorem newF {ws : List W} (c : ws.length ≤ sizeLine) (h : Q (.lst ws) st) : newL false ws st Q := ⟨c, (fun z => nomatch z), fun _ => h⟩
end
/-! loops: what holds ahead of each turn -/
theorem whl_by {c : Env' → Sto → (Bool → Sto → Prop) → Prop} {f : Env' → Sto → En → Prop} {D : En} (I : Nat → Env' → Sto → Prop)
    (step : ∀ m env st, I m env st → ∀ P : Env' → Sto → Prop, (∀ m' e s, m' < m → I m' e s → P e s) → c env st fun b st1 => (b = true → f env st1 { D with nx := P, ct := P, bk := D.nx }) ∧ (b = false → D.nx env st1)) :
    ∀ (k m : Nat) (env : Env') (st : Sto), m < k → I m env st → whlP c f k env st D
  | 0, m, env, st, hk, _ => by omega
  | k + 1, m, env, st, hk, h => step m env st h _ fun m' e s hm hI => whl_by I step k m' e s (by omega) hI
theorem for_by {f : W → Env' → Sto → En → Prop} {D : En} (I : List W → Env' → Sto → Prop) (step : ∀ w r env st, I (w :: r) env st → ∀ P : Env' → Sto → Prop, (∀ e s, I r e s → P e s) → f w env st { D with nx := P, ct := P, bk := D.nx })
    (last : ∀ env st, I [] env st → D.nx env st) : ∀ (l : List W) (env : Env') (st : Sto), I l env st → forP f gT l env st D
  | [], env, st, h => ⟨trivial, last env st h⟩
  | w :: r, env, st, h => ⟨trivial, step w r env st h _ fun e s hI => for_by I step last r e s hI⟩
theorem lc_by {f : W → Sto → (Option W → Sto → Prop) → Prop} {Q : List W → Sto → Prop} (I : List W → List W → Sto → Prop) (step : ∀ w r acc st, I (w :: r) acc st → ∀ P : Option W → Sto → Prop, (∀ o s, I r (match o with | some y => acc ++ [y] | none => acc) s → P o s) → f w st P)
    (last : ∀ acc st, I [] acc st → Q acc st) : ∀ (l acc : List W) (st : Sto), I l acc st → lcP f gT l acc st Q
  | [], acc, st, h => ⟨trivial, last acc st h⟩
  | w :: r, acc, st, h => ⟨trivial, step w r acc st h _ fun o s hI => lc_by I step last r _ s hI⟩
/-- .. with what is asked at each turn -/
theorem lc_byg {f : W → Sto → (Option W → Sto → Prop) → Prop} {g : Sto → Prop} {Q : List W → Sto → Prop} (I : List W → List W → Sto → Prop) (hg : ∀ l acc st, I l acc st → g st) (step : ∀ w r acc st, I (w :: r) acc st → ∀ P : Option W → Sto → Prop, (∀ o s, I r (match o with | some y => acc ++ [y] | none => acc) s → P o s) → f w st P)
    (last : ∀ acc st, I [] acc st → Q acc st) : ∀ (l acc : List W) (st : Sto), I l acc st → lcP f g l acc st Q
  | [], acc, st, h => ⟨hg _ _ _ h, last acc st h⟩
  | w :: r, acc, st, h => ⟨hg _ _ _ h, step w r acc st h _ fun o s hI => lc_byg I hg step last r _ s hI⟩
/-- the callee may touch the cell j and make new ones -/
def Aft (j : Nat) (st st' : Sto) : Prop := st.length ≤ st'.length ∧ ∀ i, i < st.length → i ≠ j → st'[i]? = st[i]?
theorem Aft.refl {j : Nat} {st : Sto} : Aft j st st := ⟨Nat.le_refl _, fun _ _ _ => rfl⟩
theorem Aft.trans {j : Nat} {a b c : Sto} (h : Aft j a b) (g : Aft j b c) : Aft j a c := ⟨Nat.le_trans h.1 g.1, fun i hi hj => (g.2 i (by have := h.1; omega) hj).trans (h.2 i hi hj)⟩
theorem Aft.at {j : Nat} {a b : Sto} (h : Aft j a b) {i : Nat} {x : Bool × Cell} (e : a[i]? = some x) (n : i ≠ j) : b[i]? = some x := (h.2 i (List.getElem?_eq_some_iff.mp e).1 n).trans e
theorem Aft.set {j : Nat} {st : Sto} {x : Bool × Cell} : Aft j st (st.set j x) := ⟨by rw [List.length_set]; exact Nat.le_refl _, fun i _ n => List.getElem?_set_ne (Ne.symm n)⟩
theorem Aft.app {j : Nat} {st : Sto} {x : Bool × Cell} : Aft j st (st ++ [x]) := ⟨by simp, fun i hi _ => List.getElem?_append_left hi⟩
/-- .. a cell made since -/
theorem Aft.own {j : Nat} {a b : Sto} {i : Nat} {x : Bool × Cell} (h : Aft j a b) (hi : a.length ≤ i) : Aft j a (b.set i x) := ⟨by rw [List.length_set]; exact h.1, fun k hk n => (List.getElem?_set_ne (by omega)).trans (h.2 k hk n)⟩
/-! a def of the table -/
def Is (ds : List Df) (i n np : Nat) (b : Sm) : Prop := ∃ d, ds[i]? = some d ∧ d.N.length = n ∧ d.np = np ∧ d.b = b
theorem call_by {G : Gx} {ds : List Df} {n i m np : Nat} {b : Sm} {ws : List W} {st : Sto} {X : XPo} {Q : Po} (h : Is ds i m np b) (hl : ws.length = np)
    (q : wpS G (callW G ds n) b (startW m ws) st ⟨fun _ s => Q .non s, Q, fun _ _ => False, fun _ _ => False, fun x _ s => X x s⟩) : callW G ds (n + 1) i ws st X Q := by
  obtain ⟨d, h1, h2, h3, h4⟩ := h
  refine ⟨d, h1, hl.trans h3.symm, ?_⟩
  rw [h2, h4]
  exact q
/-! ### the jar of numbers that a law draws from -/
def JarOk (st : Sto) (j : Nat) : Prop := ∃ a b c : Int, st[j]? = some (true, .lst [.int a, .int b, .int c]) ∧ 0 ≤ c ∧ c < 2147483648
theorem JarOk.lt {st : Sto} {j : Nat} (h : JarOk st j) : j < st.length := by obtain ⟨a, b, c, e, _⟩ := h; exact (List.getElem?_eq_some_iff.mp e).1
theorem JarOk.app {st : Sto} {j : Nat} {x : Bool × Cell} (h : JarOk st j) : JarOk (st ++ [x]) j := by
  have hl := h.lt
  obtain ⟨a, b, c, e, h1⟩ := h
  exact ⟨a, b, c, by rw [List.getElem?_append_left hl]; exact e, h1⟩
theorem JarOk.off {st : Sto} {j i : Nat} {x : Bool × Cell} (h : JarOk st j) (n : i ≠ j) : JarOk (st.set i x) j := by
  obtain ⟨a, b, c, e, h1⟩ := h
  exact ⟨a, b, c, by rw [List.getElem?_set_ne n]; exact e, h1⟩
theorem sqR {st : Sto} {j : Nat} {b : Bool} {l : List W} (e : st[j]? = some (b, .lst l)) : sq st (.ref j) = some l := by simp only [sq, e]
theorem lsR {st : Sto} {j : Nat} {b : Bool} {l : List W} (e : st[j]? = some (b, .lst l)) : ls st (.ref j) = some l := by simp only [ls, e]
theorem setSelf {st : Sto} {j : Nat} {x y : Bool × Cell} (e : st[j]? = some x) : (st.set j y)[j]? = some y := List.getElem?_set_self (List.getElem?_eq_some_iff.mp e).1
theorem log_by {n k : Nat} (h : n < 2 ^ k) (hk : 0 < k) : n.log2 < k := by
  by_cases z : n = 0
  · subst z; simpa using hk
  · exact (Nat.log2_lt z).mpr h
def TakeSp (C : Calls) (i : Nat) : Prop := ∀ (j : Nat) (many : Int) (st : Sto) (X : XPo) (Q : Po), JarOk st j → 0 < many → many ≤ 1000000000000000000000000000000000000000000000 → (∀ r st', Aft j st st' → JarOk st' j → 0 ≤ r → r < many → Q (.int r) st') → C i [.ref j, .int many] st X Q
end Zk

namespace Zk
open PySem PySem.Spec PyProof.Rows L2
def B_take : Sm :=
      (.cons (.ife (.cmp .gt (.ix (.var 0) (.int 0)) (.int 1)) (.cons (.set 4 (.ix (.var 0) (.int 0)))
      (.cons (.put (.var 0) (.int 0) (.bin .fdiv false (.var 4) (.var 1)))
      (.cons (.ret (.bin .mod false (.bi .int false (.cons (.var 4) .nil)) (.var 1)))
      .nil))) .nil)
      (.cons (.put (.var 0) (.int 1) (.bin .add false (.ix (.var 0) (.int 1)) (.int 1)))
      (.cons (.set 2 (.int 0))
      (.cons (.frc (.one 3) (.rg1 (.bin .add false (.int 1) (.bin .fdiv false (.bi .len false (.cons (.bi .str false (.cons (.var 1) .nil)) .nil)) (.int 8)))) (.cons (.set 5 (.bin .mod false (.bi .int false (.cons (.bin .mul false (.bin .add false (.bin .add false (.ix (.var 0) (.int 2)) (.bin .mul false (.int 11) (.var 3))) (.int 5)) (.bin .add false (.bin .add false (.ix (.var 0) (.int 1)) (.bin .mul false (.int 70001) (.ix (.var 0) (.int 2)))) (.int 3))) .nil)) (.int 2147483629)))
      (.cons (.set 5 (.bin .mod false (.bi .int false (.cons (.bin .add false (.bin .add false (.bin .mul false (.var 5) (.var 5)) (.bin .mul false (.int 90001) (.ix (.var 0) (.int 1)))) (.var 3)) .nil)) (.int 2147483587)))
      (.cons (.set 5 (.bin .mod false (.bi .int false (.cons (.bin .mul false (.var 5) (.var 5)) .nil)) (.int 2147483563)))
      (.cons (.set 2 (.bin .add false (.bin .mul false (.var 2) (.int 99999989)) (.bin .fdiv false (.var 5) (.int 16))))
      .nil)))))
      (.cons (.ret (.bin .mod false (.bi .int false (.cons (.var 2) .nil)) (.var 1)))
      .nil)))))
theorem str_small : ∀ m : Fin 101, (Str.ofString (toString ((m : Nat) : Int))).length ≤ 3 := by decide +kernel
theorem take_ok {G : Gx} {ds : List Df} {n i : Nat} (h : Is ds i 6 2 B_take) : TakeSp (callW G ds (n + 1)) i := by
  intro j many st X Q hj h1 h2 k
  refine call_by h rfl ?_
  obtain ⟨a, b, c, e, c1, c2⟩ := hj
  simp only [B_take, wpS, wpE]
  have hlog : many.natAbs.log2 < 150 := log_by (by omega) (by omega)
  have hsl : (Str.ofString (toString many)).length ≤ 16777216 := by
    have := int_text_fits (a := many) (by omega)
    rwa [sizeLine_eq] at this
  refine ⟨_, rfl, ixL (sqR e) rfl (gtI ⟨_, rfl, fun hk => ?_, fun hk => ?_⟩)⟩
  · refine ⟨_, rfl, ixL (sqR e) rfl ⟨_, rfl, _, rfl, divI h1 (by omega) ⟨_, rfl, _, _, _, _, rfl, e, rfl, rfl, _, rfl, _, rfl, _, rfl, intI ⟨_, rfl, modI h1 ?_⟩⟩⟩⟩
    exact k _ _ Aft.set ⟨_, _, _, setSelf e, c1, c2⟩ (Int.emod_nonneg _ (by omega)) (Int.emod_lt_of_pos _ h1)
  · refine ⟨_, rfl, ixL (sqR e) rfl (addI ⟨_, rfl, _, _, _, _, rfl, e, rfl, rfl, _, rfl, _, rfl, _, rfl, strI (by omega) ⟨_, rfl, _, rfl, lenT ?_ (divI (by omega) (by decide) (addI ⟨_, rfl, ?_, ?_, ?_⟩))⟩⟩)⟩
    · rw [sizeLine_eq]; exact hsl
    · omega
    · omega
    · refine .inl ⟨_, rfl, ?_⟩
      refine ⟨by rw [List.length_map, List.length_range]; omega, ?_⟩
      obtain ⟨st1, hst1⟩ : ∃ st1, st1 = List.set st j (true, Cell.lst ([W.int a, W.int b, W.int c].set (Int.toNat 1) (W.int (b + 1)))) := ⟨_, rfl⟩
      rw [← hst1]
      have e1 : st1[j]? = some (true, .lst [.int a, .int (b + 1), .int c]) := by rw [hst1]; exact setSelf e
      refine for_by (fun rem env s => s = st1 ∧ (∀ w ∈ rem, ∃ t : Int, w = .int t ∧ 0 ≤ t ∧ t < 3000000) ∧ ∃ heap o3 o5, env = [some (.ref j), some (.int many), some (.int heap), o3, none, o5]) ?_ ?_ _ _ _ ⟨rfl, ?_, 0, none, none, rfl⟩
      · rintro w r env s ⟨rfl, hw, heap, o3, o5, rfl⟩ P hP
        obtain ⟨t, rfl, t1, t2⟩ := hw w (List.mem_cons_self ..)
        simp only [tgP]
        have g1 : ∀ x : Int, 0 ≤ x % 2147483629 ∧ x % 2147483629 < 2147483629 := fun x => ⟨Int.emod_nonneg _ (by omega), Int.emod_lt_of_pos _ (by omega)⟩
        have g2 : ∀ x : Int, 0 ≤ x % 2147483587 ∧ x % 2147483587 < 2147483587 := fun x => ⟨Int.emod_nonneg _ (by omega), Int.emod_lt_of_pos _ (by omega)⟩
        refine ⟨_, rfl, ixL (sqR e1) rfl ?_⟩
        repeat first
          | refine ⟨_, rfl, ?_⟩
          | refine addI ?_
          | refine subI ?_
          | refine mulI (.inl ⟨by omega, by omega⟩) ?_
          | refine mulI (.inr ⟨by omega, by omega⟩) ?_
          | refine modI (by omega) ?_
          | refine intI ?_
          | refine eqI ?_
          | refine neI ?_
          | refine ltI ?_
          | refine leI ?_
          | refine gtI ?_
          | refine geI ?_
          | refine max2I ?_
        refine ixL (sqR e1) rfl ?_
        repeat first
          | refine ⟨_, rfl, ?_⟩
          | refine addI ?_
          | refine subI ?_
          | refine mulI (.inl ⟨by omega, by omega⟩) ?_
          | refine mulI (.inr ⟨by omega, by omega⟩) ?_
          | refine modI (by omega) ?_
          | refine intI ?_
          | refine eqI ?_
          | refine neI ?_
          | refine ltI ?_
          | refine leI ?_
          | refine gtI ?_
          | refine geI ?_
          | refine max2I ?_
        refine ixL (sqR e1) rfl ?_
        repeat first
          | refine ⟨_, rfl, ?_⟩
          | refine addI ?_
          | refine subI ?_
          | refine mulI (.inl ⟨by omega, by omega⟩) ?_
          | refine mulI (.inr ⟨by omega, by omega⟩) ?_
          | refine modI (by omega) ?_
          | refine intI ?_
          | refine eqI ?_
          | refine neI ?_
          | refine ltI ?_
          | refine leI ?_
          | refine gtI ?_
          | refine geI ?_
          | refine max2I ?_
        have g := g1 ((c + (11 * t) + 5) * (b + 1 + 70001 * c + 3))
        generalize ((c + (11 * t) + 5) * (b + 1 + 70001 * c + 3)) % 2147483629 = u at g ⊢
        repeat first
          | refine ⟨_, rfl, ?_⟩
          | refine addI ?_
          | refine subI ?_
          | refine mulI (.inl ⟨by omega, by omega⟩) ?_
          | refine mulI (.inr ⟨by omega, by omega⟩) ?_
          | refine modI (by omega) ?_
          | refine intI ?_
          | refine eqI ?_
          | refine neI ?_
          | refine ltI ?_
          | refine leI ?_
          | refine gtI ?_
          | refine geI ?_
          | refine max2I ?_
        refine ixL (sqR e1) rfl ?_
        repeat first
          | refine ⟨_, rfl, ?_⟩
          | refine addI ?_
          | refine subI ?_
          | refine mulI (.inl ⟨by omega, by omega⟩) ?_
          | refine mulI (.inr ⟨by omega, by omega⟩) ?_
          | refine modI (by omega) ?_
          | refine intI ?_
          | refine eqI ?_
          | refine neI ?_
          | refine ltI ?_
          | refine leI ?_
          | refine gtI ?_
          | refine geI ?_
          | refine max2I ?_
        have g' := g2 (u * u + 90001 * (b + 1) + t)
        generalize (u * u + 90001 * (b + 1) + t) % 2147483587 = v at g' ⊢
        repeat first
          | refine ⟨_, rfl, ?_⟩
          | refine addI ?_
          | refine subI ?_
          | refine mulI (.inl ⟨by omega, by omega⟩) ?_
          | refine mulI (.inr ⟨by omega, by omega⟩) ?_
          | refine modI (by omega) ?_
          | refine intI ?_
          | refine eqI ?_
          | refine neI ?_
          | refine ltI ?_
          | refine leI ?_
          | refine gtI ?_
          | refine geI ?_
          | refine max2I ?_
        refine divI (by omega) (by decide) ?_
        repeat first
          | refine ⟨_, rfl, ?_⟩
          | refine addI ?_
          | refine subI ?_
          | refine mulI (.inl ⟨by omega, by omega⟩) ?_
          | refine mulI (.inr ⟨by omega, by omega⟩) ?_
          | refine modI (by omega) ?_
          | refine intI ?_
          | refine eqI ?_
          | refine neI ?_
          | refine ltI ?_
          | refine leI ?_
          | refine gtI ?_
          | refine geI ?_
          | refine max2I ?_
        refine hP _ _ ⟨rfl, fun w hm => hw w (List.mem_cons_of_mem _ hm), _, _, _, rfl⟩
      · rintro env s ⟨rfl, _, heap, o3, o5, rfl⟩
        refine ⟨_, rfl, _, rfl, _, rfl, intI ⟨_, rfl, modI h1 ?_⟩⟩
        exact k _ _ (by rw [hst1]; exact Aft.set) ⟨_, _, _, e1, c1, c2⟩ (Int.emod_nonneg _ (by omega)) (Int.emod_lt_of_pos _ h1)
      · intro w hw
        obtain ⟨x, hx, rfl⟩ := List.mem_map.mp hw
        have := List.mem_range.mp hx
        exact ⟨_, rfl, by omega, by omega⟩
end Zk

namespace Zk
open PySem PySem.Spec PyProof.Rows L2

/-! ### small data -/
structure Lit (w : W) (d : PyData) : Prop where
  dat : dat0 w = some d
  lay : d.canLay0 = true
  dep : d.depth ≤ 1
  shw : d.showable = true
  len : d.shown.length ≤ 1000
def LitL (l : List W) : Prop := ∀ w ∈ l, ∃ d, Lit w d
theorem sA (a b : Str) : (a ++ b).length = a.length + b.length := by simp [Str.length, Str.cps_append]
theorem textFrom_up : ∀ (ts : List Str) (k : Nat) (acc : Str), (∀ t ∈ ts, t.length ≤ 1000) → (textFrom k acc ts).length ≤ acc.length + 1002 * ts.length
  | [], k, acc, _ => by show acc.length ≤ _; omega
  | t :: r, k, acc, h => by
    have ih := textFrom_up r (k + 1) (acc ++ (if k > 0 then ", " else "" : String) ++ t) fun x hx => h x (List.mem_cons_of_mem _ hx)
    have h1 := h t (List.mem_cons_self ..)
    have h2 : (((if k > 0 then ", " else "" : String) : Str)).length ≤ 2 := by split <;> decide
    rw [sA, sA] at ih
    show (textFrom (k + 1) (acc ++ (if k > 0 then ", " else "" : String) ++ t) r).length ≤ _
    rw [List.length_cons]
    omega
theorem LitL.ds : ∀ {l : List W}, LitL l → ∃ ds, dat0s l = some ds ∧ PyData.canLayAll0 ds = true ∧ PyData.depthAll ds ≤ 1 ∧ PyData.showableAll ds = true ∧ (∀ t ∈ PyData.shownAll ds, t.length ≤ 1000) ∧ ds.length = l.length ∧ (PyData.shownAll ds).length = l.length
  | [], _ => ⟨[], rfl, rfl, Nat.zero_le _, rfl, fun t h => by simp [PyData.shownAll] at h, rfl, rfl⟩
  | w :: l, h => by
    obtain ⟨d, hd⟩ := h w (List.mem_cons_self ..)
    obtain ⟨ds, a1, a2, a3, a4, a5, a6, a7⟩ := LitL.ds (l := l) fun x hx => h x (List.mem_cons_of_mem _ hx)
    refine ⟨d :: ds, by simp only [dat0s, hd.dat, a1], by simp only [PyData.canLayAll0, hd.lay, a2, Bool.and_self], ?_, by simp only [PyData.showableAll, hd.shw, a4, Bool.and_self], fun t ht => ?_, by simp [a6], by simp [PyData.shownAll, a7]⟩
    · simp only [PyData.depthAll]
      have := hd.dep
      omega
    · simp only [PyData.shownAll, List.mem_cons] at ht
      rcases ht with rfl | ht
      · exact hd.len
      · exact a5 t ht
/-- what is said of a list of small data -/
theorem LitL.lst {l : List W} (h : LitL l) (hl : l.length ≤ 200) : ∃ ds, dat0s l = some ds ∧ ds.length = l.length ∧ SeqAt.shaped (.list ds) = true ∧ (PyData.list ds).showable = true ∧ (PyData.list ds).depth ≤ 64 ∧ (PyData.list ds).shown.length ≤ sizeLine := by
  obtain ⟨ds, a1, a2, a3, a4, a5, a6, a7⟩ := h.ds
  refine ⟨ds, a1, a6, ?_, by rw [PyData.showable]; exact a4, by rw [PyData.depth]; omega, ?_⟩
  · unfold SeqAt.shaped
    rw [PyData.canLay0, a2, PyData.depth, Bool.true_and, decide_eq_true_eq]
    omega
  · rw [PyData.shown]
    unfold listText
    rw [sA]
    have h1 := textFrom_up (PyData.shownAll ds) 0 "[" a5
    have h2 : (("[" : String) : Str).length = 1 := rfl
    have h3 : (("]" : String) : Str).length = 1 := rfl
    rw [h2, a7] at h1
    rw [h3, sizeLine_eq]
    omega
theorem lit_int {i : Int} (h1 : 0 ≤ i) (h2 : i ≤ 100) : Lit (.int i) (.int i) := by
  refine ⟨rfl, rfl, Nat.zero_le _, ?_, ?_⟩
  · rw [PyData.showable, decide_eq_true_eq]
    have : i.natAbs.log2 < 64 := log_by (by omega) (by omega)
    omega
  · rw [PyData.shown]
    obtain ⟨m, rfl⟩ := Int.eq_ofNat_of_zero_le h1
    have := str_small ⟨m, by omega⟩
    exact Nat.le_trans this (by omega)
def pw (p : Int × Int) : W := .tup [.int p.1, .int p.2]
/-- a list of small data, held against [] -/
theorem ne_nil {l : List W} {st : Sto} {R : Bool → Prop} (h : LitL l) (hl : l.length ≤ 200) (q : R (!l.isEmpty)) : cmpP .ne (.lst l) (.lst []) st R := by
  obtain ⟨ds, a1, a2, a3, _⟩ := h.lst hl
  refine .inr (.inr ⟨.list ds, .list [], by simp [dat, dat0, a1], by simp [dat, dat0, dat0s], a3, rfl, ?_⟩)
  have : PyData.eqv (.list ds) (.list []) = l.isEmpty := by
    rw [PyData.eqv]
    cases l with
    | nil => cases ds with
      | nil => rfl
      | cons => simp at a2
    | cons => cases ds with
      | nil => simp at a2
      | cons => rfl
  rw [this]; exact q

/-! ### slices at a place within -/
theorem cut_to {α : Type} (l : List α) {k : Nat} (h : k ≤ l.length) : cutX l none (some (k : Int)) = l.take k := by
  unfold cutX
  rw [HT.sIx_none, HT.sIx_nat, List.drop_zero, Nat.sub_zero, Nat.min_eq_left h]
theorem cut_from {α : Type} (l : List α) {k : Nat} (h : k ≤ l.length) : cutX l (some (k : Int)) none = l.drop k := by
  unfold cutX
  rw [HT.sIx_none, HT.sIx_nat, Nat.min_eq_left h]
  exact List.take_of_length_le (by rw [List.length_drop]; omega)
theorem atI_nat {α : Type} (l : List α) {k : Nat} (h : k < l.length) : atI l (k : Int) = some l[k] := by
  unfold atI ixN
  rw [if_pos (by omega), if_pos (by omega)]
  show l[(k : Int).toNat]? = _
  rw [Int.toNat_natCast, List.getElem?_eq_getElem h]
theorem cut_len {α : Type} (l : List α) (lo hi : Option Int) : (cutX l lo hi).length ≤ l.length := by
  unfold cutX
  rw [List.length_take, List.length_drop]
  omega
theorem slL {m : Bool} {x : W} {l : List W} {lo hi : Option Int} {st : Sto} {Q : Po} (e : ls st x = some l) (q : newL m (cutX l lo hi) st Q) : slW m x lo hi st Q := .inl ⟨l, e, q⟩

/-! ### _law_mixed -/
def B_mixed (iT : Nat) : Sm :=
      (.cons (.set 2 (.bi .lst false (.cons (.var 1) .nil)))
      (.cons (.set 3 (.lst true .nil))
      (.cons (.whl (.cmp .ne (.var 2) (.lst false .nil)) (.cons (.set 4 (.cal iT (.cons (.var 0) (.cons (.bi .len false (.cons (.var 2) .nil)) .nil))))
      (.cons (.ex (.mt .app (.var 3) (.cons (.ix (.var 2) (.var 4)) .nil)))
      (.cons (.set 2 (.bin .add false (.sl false (.var 2) .no (.var 4)) (.sl false (.var 2) (.bin .add false (.var 4) (.int 1)) .no)))
      .nil))))
      (.cons (.ret (.var 3))
      .nil))))
def MixSp (C : Calls) (i : Nat) : Prop := ∀ (j : Nat) (rows : W) (l : List W) (st : Sto) (X : XPo) (Q : Po), JarOk st j → sq st rows = some l → LitL l → l.length ≤ 100 →
  (∀ st' l', Aft j st st' → JarOk st' j → st'[st.length]? = some (true, .lst l') → l'.Perm l → Q (.ref st.length) st') → C i [.ref j, rows] st X Q
theorem mix_ok {G : Gx} {ds : List Df} {n i iT : Nat} (h : Is ds i 5 2 (B_mixed iT)) (T : TakeSp (callW G ds n) iT) : MixSp (callW G ds (n + 1)) i := by
  intro j rows l st X Q hj hr hlit hl k
  refine call_by h rfl ?_
  simp only [B_mixed, wpS, wpE]
  refine ⟨_, rfl, _, rfl, _, rfl, ⟨_, l, rfl, hr, newF (by rw [sizeLine_eq]; omega) ?_⟩⟩
  refine ⟨_, rfl, newT (by rw [sizeLine_eq]; simp) ?_⟩
  refine ⟨l.length + 1, whl_by (fun m env s => ∃ left acc o4, m = left.length ∧ env = [some (.ref j), some rows, some (.lst left), some (.ref st.length), o4] ∧ Aft j st s ∧ JarOk s j ∧ s[st.length]? = some (true, .lst acc) ∧ (acc ++ left).Perm l) ?_ _ l.length _ _ (by omega) ⟨l, [], none, rfl, rfl, Aft.app, hj.app, by simp, .refl _⟩⟩
  rintro m env s ⟨left, acc, o4, rfl, rfl, ha, hjs, hc, hp⟩ P hP
  have hll : acc.length + left.length = l.length := by have := hp.length_eq; simpa using this
  have hne : st.length ≠ j := by have := hj.lt; omega
  refine ⟨_, rfl, _, rfl, newF (by simp) (ne_nil (fun w hw => hlit w (hp.mem_iff.mp (List.mem_append_right _ hw))) (by omega) ⟨_, rfl, fun hb => ?_, fun hb => ?_⟩)⟩
  · have hpos : 0 < left.length := by cases left with
      | nil => cases hb
      | cons => simp
    refine ⟨_, rfl, _, rfl, _, rfl, _, rfl, lenS rfl ⟨_, rfl, _, rfl, _, rfl, ?_⟩⟩
    refine T j _ s _ _ hjs (by omega) (by omega) fun r s1 ha1 hj1 h0 h1 => ?_
    obtain ⟨q, rfl⟩ := Int.eq_ofNat_of_zero_le h0
    have hq : q < left.length := by omega
    refine ⟨_, rfl, ⟨_, _, _, rfl, ha1.at hc hne⟩, _, rfl, _, rfl, ixL rfl (atI_nat left hq) ⟨_, rfl, _, rfl, ?_⟩⟩
    refine ⟨_, _, _, rfl, rfl, ha1.at hc hne, by rw [sizeLine_eq]; omega, ?_⟩
    refine ⟨_, rfl, _, rfl, _, rfl, _, ⟨_, rfl, rfl⟩, slL rfl (newF (by have := cut_len left none (some (q : Int)); rw [sizeLine_eq]; omega) ⟨_, rfl, _, rfl, addI ⟨_, ⟨_, rfl, rfl⟩, _, rfl, ?_⟩⟩)⟩
    refine slL rfl (newF ?_ (addL rfl rfl (newF ?_ (hP _ _ _ ?_ ⟨_, _, _, rfl, rfl, ?_, ?_, setSelf (ha1.at hc hne), ?_⟩))))
    · have := cut_len left (some ((q : Int) + 1)) none
      rw [sizeLine_eq]; omega
    · have a1 := cut_len left (some ((q : Int) + 1)) none
      have a2 := cut_len left none (some (q : Int))
      rw [List.length_append, sizeLine_eq]; omega
    · rw [show (q : Int) + 1 = ((q + 1 : Nat) : Int) from rfl, cut_from left (by omega), cut_to left (by omega), List.length_append, List.length_take, List.length_drop]
      omega
    · exact (ha.trans ha1).own (Nat.le_refl _)
    · exact hj1.off hne
    · rw [show (q : Int) + 1 = ((q + 1 : Nat) : Int) from rfl, cut_from left (by omega), cut_to left (by omega)]
      refine List.Perm.trans ?_ hp
      rw [List.append_assoc]
      refine List.Perm.append_left acc ?_
      have e : left = left.take q ++ left[q] :: left.drop (q + 1) := by rw [List.getElem_cons_drop, List.take_append_drop]
      conv => rhs; rw [e]
      show (left[q] :: (left.take q ++ left.drop (q + 1))).Perm _
      exact List.perm_middle.symm
  · have : left = [] := by cases left with
      | nil => rfl
      | cons => cases hb
    subst this
    refine ⟨_, rfl, k s acc ha hjs hc (by simpa using hp)⟩
end Zk

namespace Zk
open PySem PySem.Spec PyProof.Rows L2
/-! ### _law_fill, _law_either, _law_some_pair, _law_put -/
def B_fill : Sm :=
      (.cons (.ret (.lst true (.cons (.bi .max2 false (.cons (.int 0) (.cons (.bin .sub false (.var 0) (.bin .pow false (.int 10) (.int 18))) .nil))) (.cons (.int 0) (.cons (.bin .mod false (.bi .int false (.cons (.var 0) .nil)) (.int 1999999973)) .nil)))))
      .nil)
def FillSp (C : Calls) (i : Nat) : Prop := ∀ (cell : Int) (st : Sto) (X : XPo) (Q : Po), (∀ x, JarOk (st ++ [x]) st.length → Q (.ref st.length) (st ++ [x])) → C i [.int cell] st X Q
theorem fill_ok {G : Gx} {ds : List Df} {n i : Nat} (h : Is ds i 1 1 B_fill) : FillSp (callW G ds (n + 1)) i := by
  intro cell st X Q k
  refine call_by h rfl ?_
  simp only [B_fill, wpS, wpE]
  refine ⟨_, rfl, powI ⟨by omega, by omega, by decide⟩ (subI ?_)⟩
  repeat first
    | refine ⟨_, rfl, ?_⟩
    | refine addI ?_
    | refine subI ?_
    | refine mulI (.inl ⟨by omega, by omega⟩) ?_
    | refine mulI (.inr ⟨by omega, by omega⟩) ?_
    | refine modI (by omega) ?_
    | refine intI ?_
    | refine eqI ?_
    | refine neI ?_
    | refine ltI ?_
    | refine leI ?_
    | refine gtI ?_
    | refine geI ?_
    | refine max2I ?_
  refine newT (by rw [sizeLine_eq]; simp) (k _ ⟨_, _, _, by rw [List.getElem?_append_right (Nat.le_refl _), Nat.sub_self]; rfl, Int.emod_nonneg _ (by omega), ?_⟩)
  have := Int.emod_lt_of_pos cell (b := 1999999973) (by omega)
  omega
/-- a difference of two unlike shafts -/
def Pr (n : Nat) (p : Int × Int) : Prop := 0 ≤ p.1 ∧ p.1 ≤ n ∧ 0 ≤ p.2 ∧ p.2 ≤ n ∧ p.1 ≠ p.2
theorem sq_ls {st : Sto} {w : W} {l : List W} (h : ls st w = some l) : sq st w = some l := by
  cases w <;> simp only [ls] at h <;> first | exact h | cases h
end Zk

namespace Zk
open PySem PySem.Spec PyProof.Rows L2
end Zk

namespace Zk
open PySem PySem.Spec PyProof.Rows L2
section
variable {G : Gx} {C : Calls} {iT iP iU iG j n u : Nat} {st : Sto} {X : XPo} {Q : Po}
/-- a list of pairs: one that was made since, or a still one -/
def PV (st s : Sto) (w : W) (ps : List (Int × Int)) : Prop := w = .lst (ps.map pw) ∨ ∃ c, st.length ≤ c ∧ w = .ref c ∧ s[c]? = some (true, .lst (ps.map pw))
theorem PV.ls {st s : Sto} {w : W} {ps : List (Int × Int)} (h : PV st s w ps) : Zk.ls s w = some (ps.map pw) := by
  rcases h with rfl | ⟨c, _, rfl, e⟩
  · rfl
  · exact lsR e
theorem PV.up {j : Nat} {st s s' : Sto} {w : W} {ps : List (Int × Int)} (h : PV st s w ps) (hj : j < st.length) (a : Aft j s s') : PV st s' w ps := by
  rcases h with rfl | ⟨c, hc, rfl, e⟩
  · exact .inl rfl
  · exact .inr ⟨c, hc, rfl, a.at e (by omega)⟩
end
end Zk

namespace Zk
open PySem PySem.Spec PyProof.Rows L2
/-! ### _law_same -/
def B_same : Sm :=
      (.cons (.ret (.cmp .eq (.bi .rep false (.cons (.var 0) .nil)) (.bi .rep false (.cons (.var 1) .nil))))
      .nil)
def Shw (d : PyData) : Prop := d.showable = true ∧ d.depth ≤ 64 ∧ d.shown.length ≤ sizeLine
def SameSp (C : Calls) (i : Nat) : Prop := ∀ (x y : W) (d : PyData) (st : Sto) (X : XPo) (Q : Po), dat st x = some d → dat st y = some d → Shw d → Q (.bl true) st → C i [x, y] st X Q
theorem same_ok {G : Gx} {ds : List Df} {m i : Nat} (h : Is ds i 2 2 B_same) : SameSp (callW G ds (m + 1)) i := by
  intro x y d st X Q hx hy hd k
  refine call_by h rfl ?_
  simp only [B_same, wpS, wpE]
  refine ⟨_, rfl, _, rfl, _, rfl, ⟨x, d, rfl, hx, hd.1, hd.2.1, hd.2.2, _, rfl, _, rfl, _, rfl, ⟨y, d, rfl, hy, hd.1, hd.2.1, hd.2.2, eqS ?_⟩⟩⟩
  rw [decide_eq_true rfl]
  exact k
/-! ### what is reached -/
def Adj (ps : List (Int × Int)) (x y : Int) : Prop := (x, y) ∈ ps ∨ (y, x) ∈ ps
inductive Rch (ps : List (Int × Int)) (a : Int) : Int → Prop
  | refl : Rch ps a a
  | step {x y : Int} : Rch ps a x → Adj ps x y → Rch ps a y
theorem nodup_le : ∀ (n : Nat) (l : List Int), l.Nodup → (∀ x ∈ l, 0 ≤ x ∧ x < n) → l.length ≤ n
  | 0, l, _, h => by
    cases l with
    | nil => simp
    | cons x l => have := h x (List.mem_cons_self ..); omega
  | n + 1, l, nd, h => by
    have ih := nodup_le n (l.erase (n : Int)) (nd.erase _) fun x hx => by
      obtain ⟨h1, h2⟩ := nd.mem_erase_iff.mp hx
      have := h x h2
      omega
    have := List.length_erase_le (a := (n : Int)) (l := l)
    by_cases hm : (n : Int) ∈ l
    · rw [List.length_erase_of_mem hm] at ih; omega
    · rw [List.erase_of_not_mem hm] at ih; omega
theorem ints_of : ∀ l : List Int, intsOf (l.map W.int) = some l
  | [] => rfl
  | x :: l => by rw [List.map_cons, intsOf, ints_of l]; rfl
/-- the shafts seen so far -/
structure Near (n : Nat) (ps : List (Int × Int)) (a : Int) (l : List Int) : Prop where
  nd : l.Nodup
  fst : a ∈ l
  rch : ∀ x ∈ l, Rch ps a x
  rng : ∀ x ∈ l, 0 ≤ x ∧ x ≤ n
theorem Near.len {n : Nat} {ps : List (Int × Int)} {a : Int} {l : List Int} (h : Near n ps a l) : l.length ≤ n + 1 := nodup_le (n + 1) l h.nd fun x hx => by have := h.rng x hx; omega
theorem Near.add {n : Nat} {ps : List (Int × Int)} {a : Int} {l : List Int} (h : Near n ps a l) {x y : Int} (hx : x ∈ l) (e : Adj ps x y) (hy : y ∉ l) (r : 0 ≤ y ∧ y ≤ n) : Near n ps a (l ++ [y]) := by
  refine ⟨?_, List.mem_append_left _ h.fst, fun z hz => ?_, fun z hz => ?_⟩
  · rw [List.nodup_append]
    refine ⟨h.nd, by simp, fun u hu v hv => ?_⟩
    rw [List.mem_singleton.mp hv]
    intro z; subst z; exact hy hu
  · rcases List.mem_append.mp hz with z' | z'
    · exact h.rch z z'
    · rw [List.mem_singleton.mp z']; exact (h.rch x hx).step e
  · rcases List.mem_append.mp hz with z' | z'
    · exact h.rng z z'
    · rw [List.mem_singleton.mp z']; exact r
end Zk

namespace Zk
open PySem PySem.Spec PyProof.Rows L2
/-! ### the program's own checks, at what is right -/
def B_isInt : Sm :=
      (.cons (.ret (.tyI false (.var 0) .int))
      .nil)
def B_betw (i0 : Nat) : Sm :=
      (.cons (.ret (.an (.cal i0 (.cons (.var 0) .nil)) (.cm2 .le .le (.var 1) (.var 0) (.var 2))))
      .nil)
def B_areDiff (i3 : Nat) : Sm :=
      (.cons (.ret (.an (.tyI false (.var 1) .list) (.bi .all false (.cons (.lc false [("part", 2)] (.one 2) (.var 1) .nil (.cal i3 (.cons (.var 0) (.cons (.var 2) .nil)))) .nil))))
      .nil)
def B_needS (i0 : Nat) (j : Nat) : Sm :=
      (.cons (.ife (.or (.nt (.cal i0 (.cons (.var 0) .nil))) (.cmp .lt (.var 0) (.int 1))) (.cons (.rse j)
      .nil) .nil)
      .nil)
theorem bls_of : ∀ l : List Bool, blsOf (l.map W.bl) = some l
  | [] => rfl
  | x :: l => by rw [List.map_cons, blsOf, bls_of l]; rfl
theorem all_rep {k : Nat} : (List.replicate k true).all id = true := by simp
section
variable {G : Gx} {ds : List Df} {m i i0 i1 i2 i3 i4 i5 i6 j : Nat}
def IsIntSp (C : Calls) (i : Nat) : Prop := ∀ (v : Int) (st : Sto) (X : XPo) (Q : Po), Q (.bl true) st → C i [.int v] st X Q
theorem isInt_ok (h : Is ds i 1 1 B_isInt) : IsIntSp (callW G ds (m + 1)) i := fun v st X Q k => by
  refine call_by h rfl ?_
  simp only [B_isInt, wpS, wpE]
  exact ⟨_, rfl, .inr (.inl ⟨.int, rfl, k⟩)⟩
def BetwSp (C : Calls) (i : Nat) : Prop := ∀ (v a b : Int) (st : Sto) (X : XPo) (Q : Po), a ≤ v → v ≤ b → Q (.bl true) st → C i [.int v, .int a, .int b] st X Q
theorem betw_ok (h : Is ds i 3 3 (B_betw i0)) (I : IsIntSp (callW G ds m) i0) : BetwSp (callW G ds (m + 1)) i := fun v a b st X Q h1 h2 k => by
  refine call_by h rfl ?_
  simp only [B_betw, wpS, wpE]
  refine ⟨_, rfl, _, rfl, _, rfl, I v st _ _ ⟨_, rfl, fun _ => ?_, fun z => nomatch z⟩⟩
  refine ⟨_, rfl, _, rfl, leI ⟨fun _ => ⟨_, rfl, leI ?_⟩, fun z => ?_⟩⟩
  · rw [decide_eq_true h2]; exact k
  · rw [decide_eq_true h1] at z; cases z
def NeedSSp (C : Calls) (i : Nat) : Prop := ∀ (n : Nat) (st : Sto) (X : XPo) (Q : Po), 1 ≤ n → Q .non st → C i [.int n] st X Q
theorem needS_ok (h : Is ds i 1 1 (B_needS i0 j)) (I : IsIntSp (callW G ds m) i0) : NeedSSp (callW G ds (m + 1)) i := fun n st X Q h1 k => by
  refine call_by h rfl ?_
  simp only [B_needS, wpS, wpE]
  refine ⟨_, rfl, _, rfl, _, rfl, I n st _ _ ⟨_, rfl, _, rfl, (fun z => nomatch z), fun _ => ⟨_, rfl, ltI ⟨_, rfl, fun z => ?_, fun _ => k⟩⟩⟩⟩
  have := of_decide_eq_true z
  omega
end
end Zk

namespace Zk
open PySem PySem.Spec PyProof.Rows L2
/-- a dict's keys are these ints -/
def Dk (l : List (Key × W)) (ks : List Int) : Prop := l.map (·.1) = ks.map Sum.inl
theorem Dk.put {l : List (Key × W)} {ks : List Int} (h : Dk l ks) {x : Int} {w : W} (hx : x ∉ ks) : put l (.inl x) w = l ++ [(.inl x, w)] ∧ Dk (l ++ [(.inl x, w)]) (ks ++ [x]) := by
  refine ⟨?_, by unfold Dk; rw [List.map_append, List.map_append, show l.map (·.1) = ks.map Sum.inl from h]; rfl⟩
  unfold Zk.put
  rw [if_neg]
  intro z
  obtain ⟨p, hp, e⟩ := List.any_eq_true.mp z
  have hm : p.1 ∈ ks.map Sum.inl := by rw [← show l.map (·.1) = ks.map Sum.inl from h]; exact List.mem_map.mpr ⟨p, hp, rfl⟩
  rw [of_decide_eq_true e] at hm
  obtain ⟨y, hy, e'⟩ := List.mem_map.mp hm
  cases e'
  exact hx hy
section
variable {G : Gx} {ds : List Df} {m i i8 i9 iN : Nat}
/-- nothing that stood is touched -/
def Ext (st st' : Sto) : Prop := st.length ≤ st'.length ∧ ∀ i, i < st.length → st'[i]? = st[i]?
theorem Ext.aft {j : Nat} {a b : Sto} (h : Ext a b) : Aft j a b := ⟨h.1, fun i hi _ => h.2 i hi⟩
theorem Ext.trans {a b c : Sto} (h : Ext a b) (g : Ext b c) : Ext a c := ⟨Nat.le_trans h.1 g.1, fun i hi => (g.2 i (by have := h.1; omega)).trans (h.2 i hi)⟩
theorem Ext.app {a : Sto} {x : Bool × Cell} : Ext a (a ++ [x]) := ⟨by simp, fun i hi => List.getElem?_append_left hi⟩
theorem Ext.jar {j : Nat} {a b : Sto} (h : Ext a b) (hj : JarOk a j) : JarOk b j := by
  have hl := hj.lt
  obtain ⟨x, y, z, e, q⟩ := hj
  exact ⟨x, y, z, (h.2 j hl).trans e, q⟩
/-- the shafts from 1 on that are none of these -/
def rest (n : Nat) (ks : List Int) : List Int := ((List.range n).map fun k => (1 : Int) + (k : Nat)).filter fun x => !decide (x ∈ ks)
end
end Zk

namespace Zk
open PySem PySem.Spec PyProof.Rows L2
section
variable {G : Gx} {C : Calls}
end
end Zk

namespace Zk
open PySem PySem.Spec PyProof.Rows L2
/-! ### works, boxes -/
/-- is_one_work: glb 0, cal 3, glb 1 -/
def B_is_one_work (a0 : Nat) (a1 : Nat) (a2 : Nat) : Sm :=
      (.cons (.ife (.or (.tyI true (.var 1) .tuple) (.or (.cmp .lt (.bi .len false (.cons (.var 1) .nil)) (.int 3)) (.tyI true (.ix (.var 1) (.int 0)) .str))) (.cons (.ret (.bl false))
      .nil) .nil)
      (.cons (.ife (.cmp .inS (.ix (.var 1) (.int 0)) (.glb a0)) (.cons (.ret (.an (.cmp .eq (.bi .len false (.cons (.var 1) .nil)) (.int 4)) (.cal a1 (.cons (.sl false (.var 1) (.int 1) .no) (.cons (.int 0) (.cons (.var 0) .nil))))))
      .nil) .nil)
      (.cons (.ret (.an (.cmp .inS (.ix (.var 1) (.int 0)) (.glb a2)) (.an (.cmp .eq (.bi .len false (.cons (.var 1) .nil)) (.int 3)) (.cal a1 (.cons (.sl false (.var 1) (.int 1) .no) (.cons (.int 1) (.cons (.var 0) .nil)))))))
      .nil)))

/-- are_unlike: cal 1 -/
def B_are_unlike (a0 : Nat) : Sm :=
      (.cons (.ret (.an (.bi .all false (.cons (.lc false [("part", 3)] (.one 3) (.var 0) .nil (.cal a0 (.cons (.var 3) (.cons (.var 1) (.cons (.var 2) .nil))))) .nil)) (.cmp .eq (.lset (.var 0)) (.bi .len false (.cons (.var 0) .nil)))))
      .nil)

/-- law_some_job: cal 16, cal 17 -/
def B_law_some_job (a0 : Nat) (a1 : Nat) : Sm :=
      (.cons (.set 2 (.ix (.lst false (.cons (.str "planet") (.cons (.str "double") (.cons (.str "pair") (.cons (.str "band") .nil))))) (.cal a0 (.cons (.var 0) (.cons (.int 4) .nil)))))
      (.cons (.set 3 (.lrg2 false (.int 1) (.bin .add false (.var 1) (.int 1))))
      (.cons (.set 4 (.int 2))
      (.cons (.ife (.or (.cmp .eq (.var 2) (.str "planet")) (.cmp .eq (.var 2) (.str "double"))) (.cons (.set 3 (.lrg1 false (.bin .add false (.var 1) (.int 1))))
      (.cons (.set 4 (.int 3))
      .nil)) .nil)
      (.cons (.ret (.bi .tup false (.cons (.bin .add false (.lst false (.cons (.var 2) .nil)) (.sl false (.cal a1 (.cons (.var 0) (.cons (.var 3) .nil))) .no (.var 4))) .nil)))
      .nil)))))

/-- law_some_jobs: cal 19, cal 16 -/
def B_law_some_jobs (a0 : Nat) (a1 : Nat) : Sm :=
      (.cons (.ife (.cmp .lt (.var 1) (.int 2)) (.cons (.ret (.lst false .nil))
      .nil) .nil)
      (.cons (.set 3 (.lc true [("turn", 4)] (.one 4) (.rg1 (.var 2)) .nil (.cal a0 (.cons (.var 0) (.cons (.var 1) .nil)))))
      (.cons (.ife (.an (.cmp .gt (.var 2) (.int 1)) (.cmp .eq (.cal a1 (.cons (.var 0) (.cons (.int 5) .nil))) (.int 1))) (.cons (.put (.var 3) (.cal a1 (.cons (.var 0) (.cons (.var 2) .nil))) (.ix (.var 3) (.int 0)))
      .nil) .nil)
      (.cons (.ret (.frz (.var 3)))
      .nil))))

/-- law_crate_is: cal 18, cal 28, cal 29, cal 30 -/
def B_law_crate_is (a0 : Nat) (a1 : Nat) (a2 : Nat) (a3 : Nat) : Sm :=
      (.cons (.ife (.or (.nt (.isO (.var 0) 0)) (.nt (.cal a0 (.cons (.prp 0 a1 (.var 0) "shafts") (.cons (.var 1) .nil))))) (.cons (.ret (.bl false))
      .nil) .nil)
      (.cons (.ret (.an (.cal a0 (.cons (.prp 0 a2 (.var 0) "works") (.cons (.bi .tup false (.cons (.var 2) .nil)) .nil))) (.cal a0 (.cons (.lenO 0 a3 (.var 0)) (.cons (.bi .len false (.cons (.var 2) .nil)) .nil)))))
      .nil))

/-- Box_init: cal 5, cal 4, rse 3 -/
def B_Box_init (a0 : Nat) (a1 : Nat) (a2 : Nat) : Sm :=
      (.cons (.ex (.cal a0 (.cons (.var 1) .nil)))
      (.cons (.ife (.nt (.cal a1 (.cons (.var 1) (.cons (.var 2) .nil)))) (.cons (.rse a2)
      .nil) .nil)
      (.cons (.sfld 0 (.var 0) "_shafts" (.var 1))
      (.cons (.sfld 0 (.var 0) "_works" (.bi .tup false (.cons (.var 2) .nil)))
      .nil))))

/-- Box_shafts:  -/
def B_Box_shafts  : Sm :=
      (.cons (.ret (.fld 0 (.var 0) "_shafts"))
      .nil)

/-- Box_works:  -/
def B_Box_works  : Sm :=
      (.cons (.ret (.fld 0 (.var 0) "_works"))
      .nil)

/-- Box_len:  -/
def B_Box_len  : Sm :=
      (.cons (.ret (.bi .len false (.cons (.fld 0 (.var 0) "_works") .nil)))
      .nil)

/-- a work: its kind, its shafts -/
structure Job where
  k : Nat
  ax : List Int
def wordOf : Nat → Str
  | 0 => "planet" | 1 => "double" | 2 => "pair" | _ => "band"
def Job.w (j : Job) : W := .tup (.str (wordOf j.k) :: j.ax.map W.int)
structure JobOk (n : Nat) (j : Job) : Prop where
  nd : j.ax.Nodup
  sh : (j.k < 2 ∧ j.ax.length = 3 ∧ ∀ x ∈ j.ax, 0 ≤ x ∧ x ≤ n) ∨ (2 ≤ j.k ∧ j.k < 4 ∧ j.ax.length = 2 ∧ ∀ x ∈ j.ax, 1 ≤ x ∧ x ≤ n)
theorem JobOk.k4 {n : Nat} {j : Job} (h : JobOk n j) : j.k < 4 := by rcases h.sh with h | h <;> omega
theorem JobOk.len {n : Nat} {j : Job} (h : JobOk n j) : j.ax.length = if j.k < 2 then 3 else 2 := by
  rcases h.sh with ⟨h1, h2, _⟩ | ⟨h1, h2, h3, _⟩
  · rw [if_pos h1, h2]
  · rw [if_neg (by omega), h3]
structure BoxG (G : Gx) : Prop where
  pw : G.g 0 = some (.tup [.str "planet", .str "double"])
  ww : G.g 1 = some (.tup [.str "pair", .str "band"])
  n1 : 0 < G.n
  s0 : G.s 0 0 = true
theorem inPW {k : Nat} (h : k < 4) : ([W.str "planet", .str "double"].any fun z => eqW z (.str (wordOf k))) = decide (k < 2) := by
  match k, h with
  | 0, _ => decide +kernel
  | 1, _ => decide +kernel
  | 2, _ => decide +kernel
  | 3, _ => decide +kernel
theorem inWW {k : Nat} (h : k < 4) : ([W.str "pair", .str "band"].any fun z => eqW z (.str (wordOf k))) = decide (2 ≤ k) := by
  match k, h with
  | 0, _ => decide +kernel
  | 1, _ => decide +kernel
  | 2, _ => decide +kernel
  | 3, _ => decide +kernel
theorem cut1 {α : Type} (x : α) (l : List α) : cutX (x :: l) (some 1) none = l := by
  rw [show (1 : Int) = ((1 : Nat) : Int) from rfl, cut_from (x :: l) (k := 1) (by simp)]
  rfl
/-- the value of a list of works: still, or a list that may change -/
def LstAt (st : Sto) (v : W) (l : List W) : Prop := v = .lst l ∨ ∃ k, v = .ref k ∧ st[k]? = some (true, .lst l)
theorem LstAt.ls {st : Sto} {v : W} {l : List W} (h : LstAt st v l) : Zk.ls st v = some l := by
  rcases h with rfl | ⟨k, rfl, e⟩
  · rfl
  · simp only [Zk.ls, e]
theorem LstAt.sq {st : Sto} {v : W} {l : List W} (h : LstAt st v l) : Zk.sq st v = some l := by
  rcases h with rfl | ⟨k, rfl, e⟩
  · rfl
  · simp only [Zk.sq, e]
theorem LstAt.ty {st : Sto} {v : W} {l : List W} (h : LstAt st v l) : tyOf st v = some .list := by
  rcases h with rfl | ⟨k, rfl, e⟩
  · rfl
  · simp only [tyOf, e]
def boxF (n : Nat) (js : List Job) : List (Str × W) := [("_shafts", .int n), ("_works", .tup (js.map Job.w))]
theorem bs_look1 (n : Nat) (js : List Job) : (boxF n js).lookup ("_shafts" : Str) = some (.int n) := rfl
theorem bs_look2 (n : Nat) (js : List Job) : (boxF n js).lookup ("_works" : Str) = some (.tup (js.map Job.w)) := rfl
theorem walk_at {st : Sto} {v : W} {l : List W} {Q : List W → (Sto → Prop) → Sto → Prop} (h : LstAt st v l) (k : ∀ g : Sto → Prop, g st → Q l g st) : walkP v st Q := by
  rcases h with rfl | ⟨n, rfl, e⟩
  · exact .inl ⟨_, rfl, k _ trivial⟩
  · exact .inr (.inr (.inr (.inr (.inl ⟨n, _, rfl, e, k _ e⟩))))
def boxV (A : Addr) (n : Nat) (js : List Job) : W := .obj A (boxF n js)
theorem at0 {α : Type} (x : α) (l : List α) : atI (x :: l) 0 = some x := atI_nat (x :: l) (k := 0) (by simp)
theorem at1 {α : Type} (x y : α) (l : List α) : atI (x :: y :: l) 1 = some y := atI_nat (x :: y :: l) (k := 1) (by simp)
theorem at2 {α : Type} (x y z : α) (l : List α) : atI (x :: y :: z :: l) 2 = some z := atI_nat (x :: y :: z :: l) (k := 2) (by simp)
section
variable {G : Gx} {ds : List Df} {m i i0 i1 i2 i3 i4 i5 i6 j j0 : Nat}
def UnlikeSp (C : Calls) (i : Nat) : Prop := ∀ (ns : List Int) (a b : Int) (st : Sto) (X : XPo) (Q : Po), ns.Nodup → (∀ x ∈ ns, a ≤ x ∧ x ≤ b) → ns.length ≤ 60 → Q (.bl true) st → C i [.tup (ns.map W.int), .int a, .int b] st X Q
theorem unlike_ok (h : Is ds i 4 3 (B_are_unlike i1)) (B : BetwSp (callW G ds m) i1) : UnlikeSp (callW G ds (m + 1)) i := fun ns a b st X Q nd hb hl k => by
  refine call_by h rfl ?_
  simp only [B_are_unlike, wpS, wpE]
  refine ⟨_, rfl, .inr (.inl ⟨_, rfl, by rw [List.length_map, sizeLine_eq]; omega, ?_⟩)⟩
  refine lc_by (fun rem acc s => s = st ∧ ∃ (k : Nat) (rm : List Int), rem = rm.map W.int ∧ acc = (List.replicate k true).map W.bl ∧ k + rem.length = ns.length ∧ ∀ x ∈ rm, a ≤ x ∧ x ≤ b) ?_ ?_ _ _ _ ⟨rfl, 0, ns, rfl, rfl, by rw [List.length_map]; omega, hb⟩
  · rintro w rem acc s ⟨rfl, q, rm, hr, rfl, hl', hw⟩ P' hP
    cases rm with
    | nil => cases hr
    | cons v rm =>
      cases hr
      obtain ⟨v1, v2⟩ := hw v (List.mem_cons_self ..)
      simp only [tgP]
      refine .inl ⟨trivial, _, rfl, _, rfl, _, rfl, _, rfl, _, rfl, _, rfl, _, rfl, B v a b s _ _ v1 v2 (hP _ _ ⟨rfl, q + 1, rm, rfl, ?_, by rw [List.length_cons] at hl'; omega, fun w hm => hw w (List.mem_cons_of_mem _ hm)⟩)⟩
      rw [List.replicate_succ', List.map_append]; rfl
  · rintro acc s ⟨rfl, q, rm, hr, rfl, hl', hw⟩
    refine newF (by rw [List.length_map, List.length_replicate, sizeLine_eq]; simp at hl'; omega) ?_
    refine ⟨_, rfl, _, rfl, ⟨_, _, List.replicate q true, rfl, rfl, bls_of _, ?_⟩⟩
    refine ⟨_, rfl, fun _ => ?_, fun z => ?_⟩
    · refine ⟨_, rfl, _, ns, rfl, ints_of ns, by omega, fun out ond om => ?_⟩
      refine ⟨_, rfl, _, rfl, _, rfl, lenS rfl (eqI ?_)⟩
      have : out.length = ns.length := ((List.perm_ext_iff_of_nodup ond nd).mpr om).length_eq
      rw [decide_eq_true (by rw [List.length_map, this])]
      exact k
    · exfalso
      rw [all_rep] at z; cases z
def OneWorkSp (C : Calls) (i : Nat) : Prop := ∀ (n : Nat) (j : Job) (st : Sto) (X : XPo) (Q : Po), JobOk n j → Q (.bl true) st → C i [.int n, j.w] st X Q
theorem oneWork_ok (g : BoxG G) (h : Is ds i 2 2 (B_is_one_work 0 i1 1)) (U : UnlikeSp (callW G ds m) i1) : OneWorkSp (callW G ds (m + 1)) i := fun n j st X Q hj k => by
  refine call_by h rfl ?_
  have hk := hj.k4
  have hlen := hj.len
  simp only [B_is_one_work, wpS, wpE, Job.w]
  refine ⟨_, rfl, .inr (.inl ⟨.tuple, rfl, _, rfl, fun z => absurd z (by decide), fun _ => ?_⟩)⟩
  refine ⟨_, rfl, _, rfl, _, rfl, lenS rfl (ltI ⟨_, rfl, fun z => ?_, fun _ => ?_⟩)⟩
  · have := of_decide_eq_true z
    simp only [List.length_cons, List.length_map] at this
    split at hlen <;> omega
  refine ⟨_, rfl, ixL rfl (at0 _ _) (.inr (.inl ⟨.str, rfl, _, rfl, fun z => absurd z (by decide), fun _ => ?_⟩))⟩
  refine ⟨_, rfl, ixL rfl (at0 _ _) ⟨_, g.pw, .inl ⟨_, rfl, rfl, rfl, ?_⟩⟩⟩
  rw [inPW hk]
  refine ⟨_, rfl, fun z => ?_, fun z => ?_⟩
  · have hk2 := of_decide_eq_true z
    rcases hj.sh with ⟨_, h2, h3⟩ | ⟨h1, _⟩
    · refine ⟨_, rfl, _, rfl, _, rfl, lenS rfl (eqI ⟨_, rfl, fun _ => ?_, fun z => ?_⟩)⟩
      · refine ⟨_, rfl, _, ⟨_, rfl, rfl⟩, _, rfl, .inr (.inr (.inl ⟨_, rfl, ?_⟩))⟩
        rw [cut1]
        refine ⟨_, rfl, _, rfl, _, rfl, _, rfl, _, rfl, U _ _ _ _ _ _ hj.nd h3 (by omega) k⟩
      · have := of_decide_eq_false z
        simp only [List.length_cons, List.length_map] at this
        omega
    · omega
  · have hk2 := of_decide_eq_false z
    rcases hj.sh with ⟨h1, _⟩ | ⟨_, _, h2, h3⟩
    · omega
    · refine ⟨_, rfl, ixL rfl (at0 _ _) ⟨_, g.ww, .inl ⟨_, rfl, rfl, rfl, ?_⟩⟩⟩
      rw [inWW hk]
      refine ⟨_, rfl, fun _ => ?_, fun z => ?_⟩
      · refine ⟨_, rfl, _, rfl, _, rfl, lenS rfl (eqI ⟨_, rfl, fun _ => ?_, fun z => ?_⟩)⟩
        · refine ⟨_, rfl, _, ⟨_, rfl, rfl⟩, _, rfl, .inr (.inr (.inl ⟨_, rfl, ?_⟩))⟩
          rw [cut1]
          refine ⟨_, rfl, _, rfl, _, rfl, _, rfl, _, rfl, U _ _ _ _ _ _ hj.nd h3 (by omega) k⟩
        · have := of_decide_eq_false z
          simp only [List.length_cons, List.length_map] at this
          omega
      · have := of_decide_eq_false z
        omega
def AreWorksSp (C : Calls) (i : Nat) : Prop := ∀ (n : Nat) (js : List Job) (v : W) (st : Sto) (X : XPo) (Q : Po), LstAt st v (js.map Job.w) → (∀ j ∈ js, JobOk n j) → js.length ≤ 200 → Q (.bl true) st → C i [.int n, v] st X Q
theorem areWorks_ok (h : Is ds i 3 2 (B_areDiff i1)) (D : OneWorkSp (callW G ds m) i1) : AreWorksSp (callW G ds (m + 1)) i := fun n js v st X Q hv hp hl k => by
  refine call_by h rfl ?_
  simp only [B_areDiff, wpS, wpE]
  refine ⟨_, rfl, .inr (.inl ⟨.list, hv.ty, _, rfl, fun _ => ?_, fun z => absurd z (by decide)⟩)⟩
  refine ⟨_, rfl, walk_at hv fun grd hgr => ⟨by rw [List.length_map, sizeLine_eq]; omega, ?_⟩⟩
  · refine lc_byg (fun rem acc s => s = st ∧ ∃ (k : Nat) (rm : List Job), rem = rm.map Job.w ∧ acc = (List.replicate k true).map W.bl ∧ k + rem.length = js.length ∧ ∀ p ∈ rm, JobOk n p) (fun _ _ _ h => by rw [h.1]; exact hgr) ?_ ?_ _ _ _ ⟨rfl, 0, js, rfl, rfl, by rw [List.length_map]; omega, hp⟩
    · rintro w rem acc s ⟨rfl, q, rm, hr, rfl, hl', hw⟩ P' hP
      cases rm with
      | nil => cases hr
      | cons p rm =>
        cases hr
        simp only [tgP]
        refine .inl ⟨trivial, _, rfl, _, rfl, _, rfl, _, rfl, _, rfl, D n p s _ _ (hw p (List.mem_cons_self ..)) (hP _ _ ⟨rfl, q + 1, rm, rfl, ?_, by rw [List.length_cons] at hl'; omega, fun x hx => hw x (List.mem_cons_of_mem _ hx)⟩)⟩
        rw [List.replicate_succ', List.map_append]; rfl
    · rintro acc s ⟨rfl, q, rm, hr, rfl, hl', hw⟩
      refine newF (by rw [List.length_map, List.length_replicate, sizeLine_eq]; simp at hl'; omega) ?_
      refine ⟨_, rfl, _, rfl, ⟨_, _, List.replicate q true, rfl, rfl, bls_of _, ?_⟩⟩
      rw [all_rep]; exact k
end
end Zk

namespace Zk
open PySem PySem.Spec PyProof.Rows L2
/-! ### the box's own functions -/
/-- a work's shafts, one by one -/
theorem JobOk.cases {n : Nat} {j : Job} (h : JobOk n j) : (j.k < 2 ∧ ∃ a b c, j.ax = [a, b, c]) ∨ (2 ≤ j.k ∧ ∃ a b, j.ax = [a, b]) := by
  rcases h.sh with ⟨h1, h2, _⟩ | ⟨h1, _, h2, _⟩
  · refine .inl ⟨h1, ?_⟩
    match j.ax, h2 with
    | [a, b, c], _ => exact ⟨a, b, c, rfl⟩
  · refine .inr ⟨h1, ?_⟩
    match j.ax, h2 with
    | [a, b], _ => exact ⟨a, b, rfl⟩
def Job.mid (j : Job) : Int := if j.k < 2 then j.ax.getD 1 0 else 0
def Job.d1 (j : Job) : Int × Int := (j.ax.getD 0 0, j.mid)
def Job.d2 (j : Job) : Int × Int := (j.ax.getD (j.ax.length - 1) 0, j.mid)
def Job.sg (j : Job) : Int := if j.k = 0 then 1 else if j.k = 1 then -1 else if j.k = 2 then 1 else -1
theorem put_works (v w : W) : putW ("_works" : Str) v [(("_shafts" : Str), w)] = [(("_shafts" : Str), w), (("_works" : Str), v)] := by
  unfold putW
  rw [if_neg (by decide +kernel)]
  rfl
theorem LstAt.set {st : Sto} {v : W} {l : List W} {k : Nat} {A : Addr} {b : Bool} {fs : List (Str × W)} {x : Bool × Cell} (h : LstAt st v l) (e : st[k]? = some (b, .ins A fs)) : LstAt (st.set k x) v l := by
  rcases h with rfl | ⟨n, rfl, e2⟩
  · exact .inl rfl
  · refine .inr ⟨n, rfl, ?_⟩
    by_cases hn : k = n
    · subst hn; rw [e] at e2; cases e2
    · rw [List.getElem?_set_ne hn]; exact e2
theorem LstAt.app {st : Sto} {v : W} {l : List W} {x : Bool × Cell} (h : LstAt st v l) : LstAt (st ++ [x]) v l := by
  rcases h with rfl | ⟨n, rfl, e2⟩
  · exact .inl rfl
  · exact .inr ⟨n, rfl, by rw [List.getElem?_append_left (List.getElem?_eq_some_iff.mp e2).1]; exact e2⟩
section
variable {G : Gx} {ds : List Df} {m i i0 i1 i2 i3 i4 i5 i6 j j0 e : Nat}
def FldSp (A : Addr) (f : Nat → List Job → W) (C : Calls) (i : Nat) : Prop := ∀ (n : Nat) (js : List Job) (st : Sto) (X : XPo) (Q : Po), js.length ≤ 200 → Q (f n js) st → C i [boxV A n js] st X Q
theorem shafts_ok (h : Is ds i 1 1 B_Box_shafts) : FldSp (G.A 0) (fun n _ => .int n) (callW G ds (m + 1)) i := fun n js st X Q hl k => by
  refine call_by h rfl ?_
  simp only [B_Box_shafts, wpS, wpE]
  exact ⟨_, rfl, boxF n js, _, .inl rfl, bs_look1 n js, k⟩
theorem works_ok (h : Is ds i 1 1 B_Box_works) : FldSp (G.A 0) (fun _ js => .tup (js.map Job.w)) (callW G ds (m + 1)) i := fun n js st X Q hl k => by
  refine call_by h rfl ?_
  simp only [B_Box_works, wpS, wpE]
  exact ⟨_, rfl, boxF n js, _, .inl rfl, bs_look2 n js, k⟩
theorem blen_ok (h : Is ds i 1 1 B_Box_len) : FldSp (G.A 0) (fun _ js => .int js.length) (callW G ds (m + 1)) i := fun n js st X Q hl k => by
  refine call_by h rfl ?_
  simp only [B_Box_len, wpS, wpE]
  refine ⟨_, rfl, boxF n js, _, .inl rfl, bs_look2 n js, _, rfl, _, rfl, lenS rfl ?_⟩
  rw [List.length_map]; exact k
def InitSp (A : Addr) (C : Calls) (i : Nat) : Prop := ∀ (n : Nat) (js : List Job) (v : W) (k : Nat) (st : Sto) (X : XPo) (Q : Po), st[k]? = some (true, .ins A []) → LstAt st v (js.map Job.w) → (∀ j ∈ js, JobOk n j) → js.length ≤ 200 → 1 ≤ n →
  Q .non (st.set k (true, .ins A (boxF n js))) → C i [.ref k, .int n, v] st X Q
theorem init_ok (h : Is ds i 3 3 (B_Box_init i1 i2 e)) (N : NeedSSp (callW G ds m) i1) (A : AreWorksSp (callW G ds m) i2) : InitSp (G.A 0) (callW G ds (m + 1)) i := fun n js v k st X Q hk hv hj hl hn q => by
  refine call_by h rfl ?_
  simp only [B_Box_init, wpS, wpE]
  refine ⟨_, rfl, _, rfl, _, rfl, N n st _ _ hn ?_⟩
  refine ⟨_, rfl, _, rfl, _, rfl, _, rfl, _, rfl, A n js v st _ _ hv hj hl ⟨_, rfl, _, rfl, (fun z => nomatch z), fun _ => ?_⟩⟩
  refine ⟨_, rfl, _, rfl, _, _, rfl, hk, by simp, ?_⟩
  refine ⟨_, rfl, _, rfl, _, rfl, _, _, rfl, .inl (hv.set hk).ls, ?_⟩
  refine ⟨_, rfl, _, _, rfl, setSelf hk, by simp [putW], ?_⟩
  rw [List.set_set]
  refine Eq.mp (congrArg (Q .non) ?_) q
  have e1 : putW ("_works" : Str) (W.tup (js.map Job.w)) (putW ("_shafts" : Str) (W.int n) []) = boxF n js := put_works _ _
  rw [e1]
end
end Zk

namespace Zk
open PySem PySem.Spec PyProof.Rows L2
/-! ### what a law draws and asks of boxes -/
theorem int_inj : ∀ {l : List W} {ns : List Int}, l.Perm (ns.map W.int) → ∃ ms : List Int, l = ms.map W.int ∧ ms.Perm ns := fun {l ns} h => by
  have hm : ∀ w ∈ l, ∃ i, w = W.int i := fun w hw => by
    obtain ⟨i, _, e⟩ := List.mem_map.mp (h.mem_iff.mp hw)
    exact ⟨i, e.symm⟩
  obtain ⟨ms, e⟩ : ∃ ms : List Int, l = ms.map W.int := by
    clear h
    induction l with
    | nil => exact ⟨[], rfl⟩
    | cons w l ih =>
      obtain ⟨i, rfl⟩ := hm w (List.mem_cons_self ..)
      obtain ⟨ms, rfl⟩ := ih fun x hx => hm x (List.mem_cons_of_mem _ hx)
      exact ⟨i :: ms, rfl⟩
  subst e
  refine ⟨ms, rfl, ?_⟩
  have hf : ∀ xs : List Int, (xs.map W.int).map (fun w => match w with | .int i => i | _ => 0) = xs := fun xs => by
    rw [List.map_map]
    conv => rhs; rw [← List.map_id xs]
    rfl
  have := h.map (fun w => match w with | .int i => i | _ => (0 : Int))
  rwa [hf, hf] at this
theorem piled_up : ∀ (ts : List Str) (B : Nat), (∀ t ∈ ts, t.length ≤ B) → piled ts ≤ (B + 2) * ts.length
  | [], B, _ => by simp [piled]
  | t :: r, B, h => by
    have ih := piled_up r B fun x hx => h x (List.mem_cons_of_mem _ hx)
    have h1 := h t (List.mem_cons_self ..)
    rw [piled_cons, List.length_cons, Nat.mul_add]
    omega
theorem tuple_up {ts : List Str} {B : Nat} (h : ∀ t ∈ ts, t.length ≤ B) : (tupleText ts).length ≤ (B + 2) * ts.length + 3 := by
  unfold tupleText
  rw [sA, sA]
  have h1 : (("(" : String) : Str).length = 1 := rfl
  have h2 : (((if (ts.length == 1) = true then ",)" else ")" : String) : Str)).length ≤ 2 := by split <;> decide
  by_cases e : ts = []
  · subst e
    have : (Str.join ", " ([] : List Str)).length = 0 := rfl
    omega
  · have := join_length_add ts e
    have := piled_up ts B h
    omega
theorem LitL.tup {l : List W} (h : LitL l) (hl : l.length ≤ 200) : ∃ ds, dat0s l = some ds ∧ ds.length = l.length ∧ SeqAt.shaped (.tuple ds) = true ∧ Shw (.tuple ds) := by
  obtain ⟨ds, a1, a2, a3, a4, a5, a6, a7⟩ := h.ds
  refine ⟨ds, a1, a6, ?_, by rw [PyData.showable]; exact a4, by rw [PyData.depth]; omega, ?_⟩
  · unfold SeqAt.shaped
    rw [PyData.canLay0, a2, PyData.depth, Bool.true_and, decide_eq_true_eq]
    omega
  · rw [PyData.shown]
    have := tuple_up a5
    rw [a7] at this
    rw [sizeLine_eq]
    omega
/-- a work as small data -/
theorem lit_job {n : Nat} (hn : n ≤ 100) {j : Job} (h : JobOk n j) : Lit j.w (.tuple (.str (wordOf j.k) :: j.ax.map PyData.int)) := by
  have hk := h.k4
  have hr : ∀ x ∈ j.ax, 0 ≤ x ∧ x ≤ 100 := fun x hx => by
    rcases h.sh with ⟨_, _, h3⟩ | ⟨_, _, _, h3⟩ <;> have := h3 x hx <;> omega
  have hw : (wordOf j.k).length ≤ 10 := by
    match j.k, hk with
    | 0, _ => decide +kernel
    | 1, _ => decide +kernel
    | 2, _ => decide +kernel
    | 3, _ => decide +kernel
  have hws : (PyData.str (wordOf j.k)).shown.length ≤ 100 := by
    match j.k, hk with
    | 0, _ => decide +kernel
    | 1, _ => decide +kernel
    | 2, _ => decide +kernel
    | 3, _ => decide +kernel
  have so : PyData.strOk (wordOf j.k) = true := by
    match j.k, hk with
    | 0, _ => decide +kernel
    | 1, _ => decide +kernel
    | 2, _ => decide +kernel
    | 3, _ => decide +kernel
  have hl : j.ax.length ≤ 3 := by have := h.len; split at this <;> omega
  have d0 : ∀ l : List Int, dat0s (l.map W.int) = some (l.map PyData.int) := fun l => by
    induction l with
    | nil => rfl
    | cons x l ih => simp only [List.map_cons, dat0s, dat0, ih]
  have c0 : ∀ l : List Int, PyData.canLayAll0 (l.map PyData.int) = true := fun l => by
    induction l with
    | nil => rfl
    | cons x l ih => simp only [List.map_cons, PyData.canLayAll0, PyData.canLay0, ih, Bool.and_self]
  have p0 : ∀ l : List Int, PyData.depthAll (l.map PyData.int) = 0 := fun l => by
    induction l with
    | nil => rfl
    | cons x l ih => simp only [List.map_cons, PyData.depthAll, PyData.depth, ih]; rfl
  have s0 : ∀ l : List Int, (∀ x ∈ l, 0 ≤ x ∧ x ≤ 100) → PyData.showableAll (l.map PyData.int) = true := fun l hl => by
    induction l with
    | nil => rfl
    | cons x l ih =>
      simp only [List.map_cons, PyData.showableAll, (lit_int (hl x (List.mem_cons_self ..)).1 (hl x (List.mem_cons_self ..)).2).shw, ih fun y hy => hl y (List.mem_cons_of_mem _ hy), Bool.and_self]
  have t0 : ∀ l : List Int, (∀ x ∈ l, 0 ≤ x ∧ x ≤ 100) → (∀ t ∈ PyData.shownAll (l.map PyData.int), t.length ≤ 100) ∧ (PyData.shownAll (l.map PyData.int)).length = l.length := fun l hl => by
    induction l with
    | nil => exact ⟨fun t ht => by simp [PyData.shownAll] at ht, rfl⟩
    | cons x l ih =>
      obtain ⟨a, b⟩ := ih fun y hy => hl y (List.mem_cons_of_mem _ hy)
      refine ⟨fun t ht => ?_, by simp [PyData.shownAll, b]⟩
      simp only [List.map_cons, PyData.shownAll, List.mem_cons] at ht
      rcases ht with rfl | ht
      · obtain ⟨h1, h2⟩ := hl x (List.mem_cons_self ..)
        obtain ⟨q, rfl⟩ := Int.eq_ofNat_of_zero_le h1
        rw [PyData.shown_int]
        have := str_small ⟨q, by omega⟩
        exact Nat.le_trans this (by omega)
      · exact a t ht
  refine ⟨?_, ?_, ?_, ?_, ?_⟩
  · simp only [Job.w, dat0, dat0s, d0]; rfl
  · simp only [PyData.canLay0, PyData.canLayAll0, c0, so, Bool.and_self]
  · simp only [PyData.depth, PyData.depthAll, p0]; decide
  · simp only [PyData.showable, PyData.showableAll, s0 _ hr, Bool.and_self]
  · rw [PyData.shown, PyData.shownAll]
    have := tuple_up (ts := (PyData.str (wordOf j.k)).shown :: PyData.shownAll (j.ax.map PyData.int)) (B := 100) fun t ht => by
      rcases List.mem_cons.mp ht with rfl | ht
      · exact hws
      · exact (t0 _ hr).1 t ht
    rw [List.length_cons, (t0 _ hr).2] at this
    omega

section
variable {G : Gx} {ds : List Df} {m i i0 i1 i2 i3 i4 i5 i6 j j0 e iT iM : Nat}
/-- a def's ends -/
def D0 (X : XPo) (Q : Po) : En := ⟨fun _ s => Q .non s, Q, fun _ _ => False, fun _ _ => False, fun x _ s => X x s⟩
def JobDrawSp (C : Calls) (i : Nat) : Prop := ∀ (j n : Nat) (st : Sto) (X : XPo) (Q : Po), JarOk st j → 2 ≤ n → n ≤ 50 → (∀ (o : Job) st', Aft j st st' → JarOk st' j → JobOk n o → Q o.w st') → C i [.ref j, .int n] st X Q
theorem word_at {k : Nat} (hk : k < 4) : atI [W.str "planet", .str "double", .str "pair", .str "band"] (k : Int) = some (.str (wordOf k)) := by
  match k, hk with
  | 0, _ => rfl
  | 1, _ => rfl
  | 2, _ => rfl
  | 3, _ => rfl
theorem word_p {k : Nat} (hk : k < 4) : decide (wordOf k = ("planet" : Str)) = decide (k = 0) := by
  match k, hk with
  | 0, _ => decide +kernel
  | 1, _ => decide +kernel
  | 2, _ => decide +kernel
  | 3, _ => decide +kernel
theorem word_d {k : Nat} (hk : k < 4) : decide (wordOf k = ("double" : Str)) = decide (k = 1) := by
  match k, hk with
  | 0, _ => decide +kernel
  | 1, _ => decide +kernel
  | 2, _ => decide +kernel
  | 3, _ => decide +kernel
/-- the shafts from lo on -/
def shaftsF (lo : Int) (c : Nat) : List Int := (List.range c).map fun k => lo + (k : Nat)
theorem shaftsF_nd (lo : Int) (c : Nat) : (shaftsF lo c).Nodup := by
  unfold shaftsF
  exact List.Pairwise.map _ (fun a b h z => h (by omega)) List.nodup_range
theorem shaftsF_mem {lo : Int} {c : Nat} {x : Int} (h : x ∈ shaftsF lo c) : lo ≤ x ∧ x < lo + c := by
  obtain ⟨k, hk, rfl⟩ := List.mem_map.mp h
  have := List.mem_range.mp hk
  omega
theorem shaftsF_w (lo : Int) (c : Nat) : (List.range c).map (fun k => W.int (lo + (k : Nat))) = (shaftsF lo c).map W.int := by
  unfold shaftsF
  rw [List.map_map]; rfl
theorem litL_ints {l : List Int} (h : ∀ x ∈ l, 0 ≤ x ∧ x ≤ 100) : LitL (l.map W.int) := fun w hw => by
  obtain ⟨x, hx, rfl⟩ := List.mem_map.mp hw
  exact ⟨_, lit_int (h x hx).1 (h x hx).2⟩
theorem someJob_ok (h : Is ds i 5 2 (B_law_some_job iT iM)) (T : TakeSp (callW G ds m) iT) (M : MixSp (callW G ds m) iM) : JobDrawSp (callW G ds (m + 1)) i := by
  intro j n st X Q hj h2 h50 q
  refine call_by h rfl ?_
  simp only [B_law_some_job, wpS, wpE]
  refine ⟨_, rfl, _, rfl, _, rfl, _, rfl, _, rfl, newF (by rw [sizeLine_eq]; simp) ⟨_, rfl, _, rfl, _, rfl, _, rfl, T j 4 st _ _ hj (by omega) (by omega) fun r s1 ha hj1 r0 r1 => ?_⟩⟩
  obtain ⟨k, rfl⟩ := Int.eq_ofNat_of_zero_le r0
  have hk : k < 4 := by omega
  refine ixL rfl (word_at hk) ⟨_, rfl, addI ⟨1, _, rfl, rfl, by omega, by omega, by omega, by omega, newF (by rw [List.length_map, List.length_range, sizeLine_eq]; omega) ?_⟩⟩
  have fin : ∀ (ns : List Int) (c : Nat) (D : En), D.rt = Q → ns.Nodup → (∀ x ∈ ns, 0 ≤ x ∧ x ≤ 100) → c ≤ ns.length → ns.length ≤ 100 → (∀ ms : List Int, ms.Perm ns → JobOk n ⟨k, ms.take c⟩) →
      wpS G (callW G ds m) (.cons (.ret (.bi .tup false (.cons (.bin .add false (.lst false (.cons (.var 2) .nil)) (.sl false (.cal iM (.cons (.var 0) (.cons (.var 3) .nil))) .no (.var 4))) .nil))) .nil) [some (.ref j), some (.int n), some (.str (wordOf k)), some (.lst (ns.map W.int)), some (.int c)] s1 D := by
    intro ns c D hD nd hr hc hl hok
    simp only [wpS, wpE]
    refine ⟨_, rfl, _, rfl, _, rfl, newF (by rw [sizeLine_eq]; simp) ⟨_, rfl, _, rfl, _, rfl, _, rfl, _, rfl, M j _ _ s1 _ _ hj1 rfl (litL_ints hr) (by rw [List.length_map]; exact hl) fun s2 l' ha2 hj2 hcell hp => ?_⟩⟩
    obtain ⟨ms, rfl, hpm⟩ := int_inj hp
    have hml := hpm.length_eq
    refine ⟨_, rfl, _, rfl, _, ⟨_, rfl, rfl⟩, slL (lsR hcell) (newF (by have := cut_len (ms.map W.int) none (some (c : Int)); rw [List.length_map] at this; rw [sizeLine_eq]; omega) ?_)⟩
    have hcut : cutX (ms.map W.int) none (some (c : Int)) = (ms.take c).map W.int := by
      rw [cut_to _ (by rw [List.length_map, hml]; exact hc), List.map_take]
    rw [hcut]
    refine addL rfl rfl (newF (by rw [List.length_append, List.length_map, List.length_take, sizeLine_eq]; simp; omega) ⟨_, rfl, _, rfl, _, _, rfl, .inl rfl, ?_⟩)
    rw [hD]
    exact q ⟨k, ms.take c⟩ s2 (ha.trans ha2) hj2 (hok ms hpm)
  have small : ∀ (lo : Int) (c : Nat), 0 ≤ lo → lo + c ≤ 101 → ∀ x ∈ shaftsF lo c, 0 ≤ x ∧ x ≤ 100 := fun lo c h1 h2 x hx => by have := shaftsF_mem hx; omega
  have hlen : ∀ (lo : Int) (c : Nat), (shaftsF lo c).length = c := fun lo c => by unfold shaftsF; rw [List.length_map, List.length_range]
  have good3 : k < 2 → ∀ ms : List Int, ms.Perm (shaftsF 0 (n + 1)) → JobOk n ⟨k, ms.take 3⟩ := fun hk2 ms hp => by
    refine ⟨(hp.nodup_iff.mpr (shaftsF_nd 0 (n + 1))).sublist (List.take_sublist _ _), .inl ⟨hk2, ?_, fun x hx => ?_⟩⟩
    · rw [List.length_take, hp.length_eq, hlen]; omega
    · have := shaftsF_mem (hp.mem_iff.mp (List.mem_of_mem_take hx))
      omega
  have good2 : 2 ≤ k → ∀ ms : List Int, ms.Perm (shaftsF 1 n) → JobOk n ⟨k, ms.take 2⟩ := fun hk2 ms hp => by
    refine ⟨(hp.nodup_iff.mpr (shaftsF_nd 1 n)).sublist (List.take_sublist _ _), .inr ⟨hk2, hk, ?_, fun x hx => ?_⟩⟩
    · rw [List.length_take, hp.length_eq, hlen]; omega
    · have := shaftsF_mem (hp.mem_iff.mp (List.mem_of_mem_take hx))
      omega
  have e1 : (List.range ((n : Int) + 1 - 1).toNat).map (fun k => W.int (1 + (k : Nat))) = (shaftsF 1 n).map W.int := by
    rw [show ((n : Int) + 1 - 1).toNat = n by omega]; exact shaftsF_w 1 n
  have e0 : (List.range ((n : Int) + 1).toNat).map (fun k => W.int (k : Nat)) = (shaftsF 0 (n + 1)).map W.int := by
    rw [show ((n : Int) + 1).toNat = n + 1 by omega, ← shaftsF_w]
    simp
  have big : k < 2 → ∀ D : En, D.rt = Q → ∃ j_1 : Int, (W.int (↑n + 1)) = .int j_1 ∧ -(2 ^ 62) ≤ j_1 ∧ j_1 < 2 ^ 62 ∧ newL false ((List.range j_1.toNat).map fun k => W.int (k : Nat)) s1 fun w s =>
      wpS G (callW G ds m) (.cons (.ret (.bi .tup false (.cons (.bin .add false (.lst false (.cons (.var 2) .nil)) (.sl false (.cal iM (.cons (.var 0) (.cons (.var 3) .nil))) .no (.var 4))) .nil))) .nil) [some (.ref j), some (.int n), some (.str (wordOf k)), some w, some (.int 3)] s D := fun hk2 D hD => by
    refine ⟨_, rfl, by omega, by omega, newF (by rw [List.length_map, List.length_range, sizeLine_eq]; omega) ?_⟩
    rw [e0]
    exact fin _ 3 D hD (shaftsF_nd _ _) (small _ _ (by omega) (by omega)) (by rw [hlen]; omega) (by rw [hlen]; omega) (good3 hk2)
  refine ⟨_, rfl, eqS ⟨_, rfl, fun z => ?_, fun z => ?_⟩⟩
  · rw [word_p hk] at z
    have z' := of_decide_eq_true z
    refine ⟨true, by rw [word_p hk, z]; rfl, fun _ => ?_, fun z => nomatch z⟩
    have := big (by omega) (D0 X Q) rfl
    simp only [wpS, wpE, D0] at this
    exact ⟨_, rfl, addI this⟩
  · rw [word_p hk] at z
    have z' := of_decide_eq_false z
    refine ⟨_, rfl, eqS ⟨_, rfl, fun y => ?_, fun y => ?_⟩⟩
    · rw [word_d hk] at y
      have y' := of_decide_eq_true y
      have := big (by omega) (D0 X Q) rfl
      simp only [wpS, wpE, D0] at this
      exact ⟨_, rfl, addI this⟩
    · rw [word_d hk] at y
      have y' := of_decide_eq_false y
      rw [e1]
      have := fin _ 2 (D0 X Q) rfl (shaftsF_nd 1 n) (small _ _ (by omega) (by omega)) (by rw [hlen]; omega) (by rw [hlen]; omega) (good2 (by omega))
      simp only [wpS, wpE, D0] at this
      exact this
def JobsDrawSp (C : Calls) (i : Nat) : Prop := ∀ (j n many : Nat) (st : Sto) (X : XPo) (Q : Po), JarOk st j → 1 ≤ n → n ≤ 50 → many ≤ 60 →
  (∀ (js : List Job) st', Aft j st st' → JarOk st' j → (∀ o ∈ js, JobOk n o) → js.length ≤ many → (n < 2 → js = []) → Q (.lst (js.map Job.w)) st') → C i [.ref j, .int n, .int many] st X Q
theorem someJobs_ok (h : Is ds i 5 3 (B_law_some_jobs i1 iT)) (T : TakeSp (callW G ds m) iT) (J : JobDrawSp (callW G ds m) i1) : JobsDrawSp (callW G ds (m + 1)) i := by
  intro j n many st X Q hj h1 h50 hm q
  refine call_by h rfl ?_
  simp only [B_law_some_jobs, wpS, wpE]
  refine ⟨_, rfl, ltI ⟨_, rfl, fun z => ?_, fun z => ?_⟩⟩
  · exact ⟨_, rfl, newF (by simp) (q [] st .refl hj (fun o ho => by simp at ho) (Nat.zero_le _) fun _ => rfl)⟩
  have hn2 : 2 ≤ n := by have := of_decide_eq_false z; omega
  refine ⟨_, rfl, _, rfl, by omega, by omega, .inl ⟨_, rfl, by rw [List.length_map, List.length_range, sizeLine_eq]; omega, ?_⟩⟩
  refine lc_by (fun rem acc s => Aft j st s ∧ JarOk s j ∧ ∃ js : List Job, acc = js.map Job.w ∧ (∀ o ∈ js, JobOk n o) ∧ js.length + rem.length = many) ?_ ?_ _ _ _ ⟨.refl, hj, [], rfl, fun o ho => by simp at ho, by rw [List.length_map, List.length_range]; simp⟩
  · rintro w rem acc s ⟨ha, hjs, js, rfl, hok, hl⟩ P hP
    simp only [tgP]
    refine .inl ⟨trivial, _, rfl, _, rfl, _, rfl, _, rfl, _, rfl, J j n s _ _ hjs hn2 h50 fun o s1 ha1 hj1 ho => hP _ _ ⟨ha.trans ha1, hj1, js ++ [o], ?_, fun x hx => ?_, by rw [List.length_append]; simp at hl ⊢; omega⟩⟩
    · rw [List.map_append]; rfl
    · rcases List.mem_append.mp hx with hx | hx
      · exact hok x hx
      · rw [List.mem_singleton.mp hx]; exact ho
  · rintro acc s ⟨ha, hjs, js, rfl, hok, hl⟩
    have hl' : js.length = many := by simpa using hl
    refine newT (by rw [List.length_map, sizeLine_eq]; omega) ?_
    have hjlt := hj.lt
    have hlen := ha.1
    have hcell : (s ++ [(true, Cell.lst (js.map Job.w))])[s.length]? = some (true, .lst (js.map Job.w)) := by simp
    have fin : ∀ (ks : List Job) (s2 : Sto), Aft j st s2 → JarOk s2 j → (∀ o ∈ ks, JobOk n o) → ks.length = many → s2[s.length]? = some (true, .lst (ks.map Job.w)) → frzP (.ref s.length) s2 Q := fun ks s2 ha2 hj2 hok2 hk hc =>
      .inl ⟨_, _, _, rfl, hc, q ks _ (ha2.own hlen) (hj2.off (by omega)) hok2 (by omega) (fun z => by omega)⟩
    refine ⟨_, rfl, gtI ⟨_, rfl, fun y => ?_, fun y => ?_⟩⟩
    · have hm1 := of_decide_eq_true y
      refine ⟨_, rfl, _, rfl, _, rfl, _, rfl, T j 5 _ _ _ hjs.app (by omega) (by omega) fun r s1 ha1 hj1 r0 r1 => eqI ⟨_, rfl, fun _ => ?_, fun _ => ?_⟩⟩
      · have hc1 := ha1.at hcell (by omega)
        have hnz : 0 < js.length := by omega
        refine ⟨_, rfl, ixL (sqR hc1) (w := js[0].w) ?_ ⟨_, rfl, _, rfl, _, rfl, _, rfl, _, rfl, _, rfl, T j many _ _ _ hj1 (by omega) (by omega) fun p s2 ha2 hj2 p0 p1 => ?_⟩⟩
        · have := atI_nat (js.map Job.w) (k := 0) (by rw [List.length_map]; exact hnz)
          rw [List.getElem_map] at this
          exact this
        · obtain ⟨pp, rfl⟩ := Int.eq_ofNat_of_zero_le p0
          have hc2 := ha2.at hc1 (by omega)
          refine ⟨_, _, _, pp, rfl, hc2, rfl, ?_, ?_⟩
          · unfold ixN
            rw [List.length_map, if_pos (by omega), if_pos (by omega)]
            rfl
          · refine ⟨_, rfl, fin (js.set pp js[0]) _ ?_ (hj2.off (by omega)) (fun o ho => ?_) (by rw [List.length_set]; exact hl') ?_⟩
            · exact ((ha.trans Aft.app).trans (ha1.trans ha2)).own hlen
            · rcases List.mem_or_eq_of_mem_set ho with ho | ho
              · exact hok o ho
              · rw [ho]; exact hok _ (List.getElem_mem hnz)
            · rw [setSelf hc2, List.map_set]
      · exact ⟨_, rfl, fin js _ ((ha.trans Aft.app).trans ha1) hj1 hok hl' (ha1.at hcell (by omega))⟩
    · refine ⟨_, rfl, fun z => ?_, fun _ => ⟨_, rfl, fin js _ (ha.trans Aft.app) hjs.app hok hl' hcell⟩⟩
      rw [y] at z; cases z
theorem Lit.shw' {w : W} {d : PyData} (h : Lit w d) : Shw d := ⟨h.shw, by have := h.dep; omega, by have := h.len; rw [sizeLine_eq]; omega⟩
theorem litL_jobs {n : Nat} (hn : n ≤ 100) {js : List Job} (h : ∀ o ∈ js, JobOk n o) : LitL (js.map Job.w) := fun w hw => by
  obtain ⟨o, ho, rfl⟩ := List.mem_map.mp hw
  exact ⟨_, lit_job hn (h o ho)⟩
def CrateIsSp (A : Addr) (C : Calls) (i : Nat) : Prop := ∀ (n : Nat) (js : List Job) (v : W) (st : Sto) (X : XPo) (Q : Po), (∀ o ∈ js, JobOk n o) → js.length ≤ 60 → n ≤ 100 → ls st v = some (js.map Job.w) → Q (.bl true) st → C i [boxV A n js, .int n, v] st X Q
theorem crateIs_ok (g : BoxG G) (h : Is ds i 3 3 (B_law_crate_is i1 i2 i3 i4)) (S : SameSp (callW G ds m) i1) (Sh : FldSp (G.A 0) (fun n _ => .int n) (callW G ds m) i2) (Wk : FldSp (G.A 0) (fun _ js => .tup (js.map Job.w)) (callW G ds m) i3) (Ln : FldSp (G.A 0) (fun _ js => .int js.length) (callW G ds m) i4) :
    CrateIsSp (G.A 0) (callW G ds (m + 1)) i := fun n js v st X Q hj hl hn hv k => by
  refine call_by h rfl ?_
  simp only [B_law_crate_is, wpS, wpE]
  obtain ⟨dt, t1, t2, t3, t4⟩ := (litL_jobs hn hj).tup (by rw [List.length_map]; omega)
  have dtup : dat st (.tup (js.map Job.w)) = some (.tuple dt) := by simp only [dat, dat0, t1, Option.map_some]
  refine ⟨_, rfl, .inr ⟨0, boxF n js, rfl, g.n1, _, rfl, _, rfl, fun z => ?_, fun _ => ?_⟩⟩
  · rw [g.s0] at z; cases z
  · refine ⟨_, rfl, ⟨boxF n js, rfl⟩, Sh n js st _ _ (by omega) ⟨_, rfl, _, rfl, _, rfl, _, rfl, S _ _ (.int n) st _ _ rfl rfl (lit_int (by omega) (by omega)).shw' ⟨_, rfl, _, rfl, (fun z => nomatch z), fun _ => ?_⟩⟩⟩
    refine ⟨_, rfl, ⟨boxF n js, rfl⟩, Wk n js st _ _ (by omega) ⟨_, rfl, _, rfl, _, rfl, _, _, rfl, .inl hv, _, rfl, _, rfl, _, rfl, S _ _ _ st _ _ dtup dtup t4 ⟨_, rfl, fun _ => ?_, fun z => nomatch z⟩⟩⟩
    refine ⟨_, rfl, ⟨boxF n js, rfl⟩, Ln n js st _ _ (by omega) ⟨_, rfl, by omega, by omega, _, rfl, _, rfl, _, rfl, lenS (sq_ls hv) ⟨_, rfl, _, rfl, _, rfl, S _ _ (.int js.length) st _ _ rfl ?_ (lit_int (by omega) (by omega)).shw' k⟩⟩⟩
    rw [List.length_map]; rfl
theorem set_ext {st s : Sto} {c : Nat} {x : Bool × Cell} (h : Ext st s) (hc : st.length ≤ c) : Ext st (s.set c x) := ⟨by rw [List.length_set]; exact h.1, fun i hi => (List.getElem?_set_ne (by omega)).trans (h.2 i hi)⟩
end
end Zk

namespace Zk
open PySem PySem.Spec PyProof.Rows L2
def Job.key (o : Job) : Str × List Int := (wordOf o.k, o.ax)
def Job.turn (o : Job) : Job := ⟨o.k, o.ax.reverse⟩
theorem JobOk.turn {n : Nat} {o : Job} (h : JobOk n o) : JobOk n o.turn := by
  refine ⟨List.pairwise_reverse.mpr (h.nd.imp fun z => z.symm), ?_⟩
  rcases h.sh with ⟨a, b, c⟩ | ⟨a, b, c, d⟩
  · exact .inl ⟨a, by unfold Job.turn; rw [List.length_reverse]; exact b, fun x hx => c x (List.mem_reverse.mp hx)⟩
  · exact .inr ⟨a, b, by unfold Job.turn; rw [List.length_reverse]; exact c, fun x hx => d x (List.mem_reverse.mp hx)⟩
/-- what a box makes: its class with the cell it is made in -/
theorem mk_end {A : Addr} {n : Nat} {js : List Job} {st s : Sto} {Q : Po} (hx : Ext st s) (q : ∀ s', Ext st s' → Q (boxV A n js) s') :
    ∃ fs b, ((s ++ [(true, Cell.ins A [])]).set s.length (true, Cell.ins A (boxF n js)))[s.length]? = some (b, .ins A fs) ∧ Q (.obj A fs) (((s ++ [(true, Cell.ins A [])]).set s.length (true, Cell.ins A (boxF n js))).set s.length (false, .ins A fs)) :=
  ⟨boxF n js, true, by simp, q _ (set_ext (set_ext (hx.trans Ext.app) hx.1) hx.1)⟩
section
variable {G : Gx} {ds : List Df} {m i i0 i1 i2 i3 i4 i5 i6 j j0 e : Nat}
/-- Box_eq:  -/
def B_Box_eq  : Sm :=
      (.cons (.ret (.an (.isO (.var 1) 0) (.an (.cmp .eq (.fld 0 (.var 0) "_shafts") (.fld 0 (.var 1) "_shafts")) (.cmp .eq (.fld 0 (.var 0) "_works") (.fld 0 (.var 1) "_works")))))
      .nil)

end
end Zk

namespace Zk
open PySem PySem.Spec PyProof.Rows L2
/-! ### shafts renamed: the numbers -/
def nm (σ : List Int) (x : Int) : Int := if x ∈ σ then (σ.idxOf x : Int) + 1 else 0
def Ord (n : Nat) (σ : List Int) : Prop := σ.Perm (shaftsF 1 n)
theorem shaftsF_len (lo : Int) (c : Nat) : (shaftsF lo c).length = c := by unfold shaftsF; rw [List.length_map, List.length_range]
theorem shaftsF_in {c : Nat} {x : Int} (h1 : 1 ≤ x) (h2 : x ≤ c) : x ∈ shaftsF 1 c := by
  have : x = 1 + ((x - 1).toNat : Int) := by omega
  rw [this]
  exact List.mem_map.mpr ⟨(x - 1).toNat, List.mem_range.mpr (by omega), rfl⟩
section
variable {n : Nat} {σ τ : List Int}
theorem Ord.nd (h : Ord n σ) : σ.Nodup := List.Perm.nodup h.symm (shaftsF_nd 1 n)
theorem Ord.len (h : Ord n σ) : σ.length = n := by rw [List.Perm.length_eq h, shaftsF_len]
theorem Ord.mem (h : Ord n σ) {x : Int} : x ∈ σ ↔ 1 ≤ x ∧ x ≤ n :=
  ⟨fun z => by have := shaftsF_mem (List.Perm.mem_iff h |>.mp z); omega, fun z => List.Perm.mem_iff h |>.mpr (shaftsF_in z.1 z.2)⟩
def bk (n : Nat) (σ : List Int) : List Int := (shaftsF 1 n).map (nm σ)
theorem JobOk.ax {o : Job} (h : JobOk n o) {x : Int} (hx : x ∈ o.ax) : 0 ≤ x ∧ x ≤ n := by
  rcases h.sh with ⟨_, _, c⟩ | ⟨_, _, _, d⟩
  · exact c x hx
  · have := d x hx; omega
/-! locks -/
def LockOk (n : Nat) (p : Int × Int) : Prop := 0 ≤ p.2 ∧ p.2 < p.1 ∧ p.1 ≤ n
def hi (p : Int × Int) : Int × Int := (if p.1 < p.2 then p.2 else p.1, if p.1 < p.2 then p.1 else p.2)
def ltp (p q : Int × Int) : Prop := p.1 < q.1 ∨ (p.1 = q.1 ∧ p.2 < q.2)
structure Lks (n : Nat) (ps : List (Int × Int)) : Prop where
  ok : ∀ p ∈ ps, LockOk n p
  up : ps.Pairwise ltp
theorem Lks.nd {ps : List (Int × Int)} (h : Lks n ps) : ps.Nodup := h.up.imp fun {a b} z e => by subst e; unfold ltp at z; omega
end
end Zk

namespace Zk
open PySem PySem.Spec PyProof.Rows L2
theorem LstAt.ext {st s : Sto} {v : W} {l : List W} (h : LstAt st v l) (x : Ext st s) : LstAt s v l := by
  rcases h with rfl | ⟨n, rfl, e⟩
  · exact .inl rfl
  · exact .inr ⟨n, rfl, (x.2 _ (List.getElem?_eq_some_iff.mp e).1).trans e⟩
theorem LockOk.pr {n : Nat} {p : Int × Int} (h : LockOk n p) : Pr n p := by
  obtain ⟨a, b, c⟩ := h
  exact ⟨by omega, by omega, by omega, by omega, by omega⟩
section
variable {G : Gx} {ds : List Df} {m i i0 i1 i2 i3 i4 i5 i6 i7 j j0 e : Nat}
end
end Zk

namespace Zk
open PySem PySem.Spec PyProof.Rows L2
section
variable {G : Gx} {ds : List Df} {m i i0 i1 i2 i3 i4 i5 i6 i7 j j0 e : Nat}
end
end Zk

namespace Zk
open PySem PySem.Spec PyProof.Rows L2
/-! ### shafts renamed: what a law says of it; locks drawn -/
section
variable {G : Gx} {ds : List Df} {m i i0 i1 i2 i3 i4 i5 i6 i7 j j0 e : Nat}
end
end Zk

namespace Zk
open PySem PySem.Spec PyProof.Rows L2
/-! ### locks drawn -/
section
variable {G : Gx} {ds : List Df} {m i i0 i1 i2 i3 i4 i5 i6 i7 j j0 e : Nat}
end
end Zk

namespace Zk
open PySem PySem.Spec PyProof.Rows L2
/-- numbers up to 100 -/
def Sm2 (p : Int × Int) : Prop := 0 ≤ p.1 ∧ p.1 ≤ 100 ∧ 0 ≤ p.2 ∧ p.2 ≤ 100
theorem LockOk.sm {n : Nat} {p : Int × Int} (h : LockOk n p) (hn : n ≤ 100) : Sm2 p := by
  obtain ⟨a, b, c⟩ := h
  exact ⟨by omega, by omega, by omega, by omega⟩
section
variable {G : Gx} {ds : List Df} {m i i0 i1 i2 i3 i4 i5 i6 i7 j j0 e : Nat}
/-! the sack of numbers -/
def SackOk (st : Sto) (j N : Nat) : Prop := ∃ a b c : Int, st[j]? = some (true, .lst [.int a, .int b, .int c]) ∧ 0 ≤ b ∧ b < 1000000000000000000 ∧ 0 ≤ c ∧ c ≤ N
theorem SackOk.lt {st : Sto} {j N : Nat} (h : SackOk st j N) : j < st.length := by obtain ⟨a, b, c, e, _⟩ := h; exact (List.getElem?_eq_some_iff.mp e).1
theorem SackOk.app {st : Sto} {j N : Nat} {x : Bool × Cell} (h : SackOk st j N) : SackOk (st ++ [x]) j N := by
  have hl := h.lt
  obtain ⟨a, b, c, e, h1⟩ := h
  exact ⟨a, b, c, by rw [List.getElem?_append_left hl]; exact e, h1⟩
theorem SackOk.off {st : Sto} {j i N : Nat} {x : Bool × Cell} (h : SackOk st j N) (n : i ≠ j) : SackOk (st.set i x) j N := by
  obtain ⟨a, b, c, e, h1⟩ := h
  exact ⟨a, b, c, by rw [List.getElem?_set_ne n]; exact e, h1⟩
theorem SackOk.up {st : Sto} {j N M : Nat} (h : SackOk st j N) (n : N ≤ M) : SackOk st j M := by
  obtain ⟨a, b, c, e, h1, h2, h3, h4⟩ := h
  exact ⟨a, b, c, e, h1, h2, h3, by omega⟩
theorem SackOk.ext {st st' : Sto} {j N : Nat} (h : SackOk st j N) (x : Ext st st') : SackOk st' j N := by
  have hl := h.lt
  obtain ⟨a, b, c, e, h1⟩ := h
  exact ⟨a, b, c, (x.2 j hl).trans e, h1⟩
end
end Zk

namespace Zk
open PySem PySem.Spec PyProof.Rows L2
/-! ### what is joined: parts of a web, counted -/
section
variable {ps : List (Int × Int)} {n : Nat} {a b c x y : Int}
theorem Adj.symm (h : Adj ps a b) : Adj ps b a := Or.symm h
theorem Rch.trans (h : Rch ps a b) (g : Rch ps b c) : Rch ps a c := by
  induction g with
  | refl => exact h
  | step _ e ih => exact ih.step e
theorem Rch.symm (h : Rch ps a b) : Rch ps b a := by
  induction h with
  | refl => exact .refl
  | step _ e ih => exact (Rch.refl.step e.symm).trans ih
theorem Rch.up {qs : List (Int × Int)} (hs : ∀ p ∈ ps, p ∈ qs) (h : Rch ps a b) : Rch qs a b := by
  induction h with
  | refl => exact .refl
  | step _ e ih => exact ih.step (e.imp (hs _) (hs _))
/-- a new pair joins two parts, or none -/
theorem Rch.more (h : Rch (ps ++ [(x, y)]) a b) : Rch ps a b ∨ (Rch ps a x ∧ Rch ps y b) ∨ (Rch ps a y ∧ Rch ps x b) := by
  induction h with
  | refl => exact .inl .refl
  | @step u v _ e ih =>
    have e' : Adj ps u v ∨ (u = x ∧ v = y) ∨ (u = y ∧ v = x) := by
      rcases e with e | e
      · rcases List.mem_append.mp e with e | e
        · exact .inl (.inl e)
        · cases List.mem_singleton.mp e; exact .inr (.inl ⟨rfl, rfl⟩)
      · rcases List.mem_append.mp e with e | e
        · exact .inl (.inr e)
        · cases List.mem_singleton.mp e; exact .inr (.inr ⟨rfl, rfl⟩)
    rcases e' with e' | ⟨rfl, rfl⟩ | ⟨rfl, rfl⟩
    · rcases ih with h | ⟨h1, h2⟩ | ⟨h1, h2⟩
      · exact .inl (h.step e')
      · exact .inr (.inl ⟨h1, h2.step e'⟩)
      · exact .inr (.inr ⟨h1, h2.step e'⟩)
    · rcases ih with h | ⟨h1, h2⟩ | ⟨h1, h2⟩
      · exact .inr (.inl ⟨h, .refl⟩)
      · exact .inr (.inl ⟨h1, .refl⟩)
      · exact .inl h1
    · rcases ih with h | ⟨h1, h2⟩ | ⟨h1, h2⟩
      · exact .inr (.inr ⟨h, .refl⟩)
      · exact .inl h1
      · exact .inr (.inr ⟨h1, .refl⟩)
end
end Zk

namespace Zk
open PySem PySem.Spec PyProof.Rows L2
abbrev PE := Int × List (Int × Int)
section
variable {ps : List (Int × Int)} {n : Nat} {a x y : Int} {l : List PE}
end
end Zk

namespace Zk
open PySem PySem.Spec PyProof.Rows L2
section
variable {G : Gx} {ds : List Df} {m i i0 i1 i2 i3 i4 i8 i9 iN : Nat}
end
end Zk

namespace Zk
open PySem PySem.Spec PyProof.Rows L2
section
variable {G : Gx} {ds : List Df} {m i i0 i1 i2 i3 i4 i8 i9 iN : Nat}
theorem Ext.refl {a : Sto} : Ext a a := ⟨Nat.le_refl _, fun _ _ => rfl⟩
end
end Zk

namespace Zk
open PySem PySem.Spec PyProof.Rows L2
section
variable {ps : List (Int × Int)} {n : Nat} {a x y : Int} {l : List PE}
end
section
variable {G : Gx} {ds : List Df} {m i i0 i1 i2 i3 i4 i8 i9 iN : Nat}
end
end Zk

namespace Zk
open PySem PySem.Spec PyProof.Rows L2
section
variable {G : Gx} {ds : List Df} {m i i0 i1 i2 i3 i4 i8 i9 iN : Nat}
end
end Zk

namespace Zk
open PySem PySem.Spec PyProof.Rows L2
/-- a fraction in lowest terms -/
structure Fr (p : Int × Int) : Prop where
  low : 1 ≤ p.2
  cop : Nat.gcd p.1.natAbs p.2.natAbs = 1
def qv (p : Int × Int) : Rat := (p.1 : Rat) / (p.2 : Rat)
def Fr.rat {p : Int × Int} (h : Fr p) : Rat := ⟨p.1, p.2.toNat, by have := h.low; omega, by
  have e : p.2.natAbs = p.2.toNat := by have := h.low; omega
  have := h.cop
  rw [e] at this
  exact this⟩
theorem Fr.qv {p : Int × Int} (h : Fr p) : qv p = h.rat := by
  have e : (h.rat.num : Rat) / (h.rat.den : Rat) = h.rat := by
    have := Rat.num_divInt_den h.rat
    rw [Rat.divInt_eq_div, Rat.intCast_natCast] at this
    exact this
  have e2 : ((p.2.toNat : Nat) : Int) = p.2 := by have := h.low; omega
  have e3 : (h.rat.den : Rat) = (p.2 : Rat) := by
    show ((p.2.toNat : Nat) : Rat) = (p.2 : Rat)
    rw [← Rat.intCast_natCast, e2]
  rw [← e, e3]; rfl
theorem Fr.eq {p q : Int × Int} (h : Fr p) (g : Fr q) : p = q ↔ Zk.qv p = Zk.qv q := by
  constructor
  · intro e; rw [e]
  · intro e
    rw [h.qv, g.qv] at e
    have e1 : p.1 = q.1 := congrArg Rat.num e
    have e2 : p.2.toNat = q.2.toNat := congrArg Rat.den e
    have := h.low
    have := g.low
    exact Prod.ext e1 (by omega)
section
variable {G : Gx} {ds : List Df} {m i i0 i1 i2 i3 i4 i8 i9 iN : Nat}
/-! rows: a number for each of some shafts -/
def iW (R : List (Int × Int)) : List (Key × W) := R.map fun e => ((Sum.inl e.1 : Key), W.int e.2)
def rsum (v : Int → Rat) (R : List (Int × Int)) : Rat := (R.map fun e => (e.2 : Rat) * v e.1).sum
theorem rsum_nil {v : Int → Rat} : rsum v [] = 0 := rfl
theorem rsum_cons {v : Int → Rat} {e : Int × Int} {R : List (Int × Int)} : rsum v (e :: R) = (e.2 : Rat) * v e.1 + rsum v R := by unfold rsum; rw [List.map_cons, List.sum_cons]
end
end Zk

namespace Zk
open PySem PySem.Spec PyProof.Rows L2
theorem Job.pr {n : Nat} {o : Job} (h : JobOk n o) : Pr n o.d1 ∧ Pr n o.d2 := by
  have nd := h.nd
  rcases h.sh with ⟨hk, hl, hr⟩ | ⟨hk, _, hl, hr⟩
  · obtain ⟨a, b, c, e⟩ : ∃ a b c, o.ax = [a, b, c] := by
      match o.ax, hl with
      | [a, b, c], _ => exact ⟨a, b, c, rfl⟩
    have ha := hr a (by rw [e]; simp)
    have hb := hr b (by rw [e]; simp)
    have hc := hr c (by rw [e]; simp)
    rw [e] at nd
    simp at nd
    simp only [Job.d1, Job.d2, Job.mid, if_pos hk, e]
    exact ⟨⟨ha.1, ha.2, hb.1, hb.2, nd.1.1⟩, ⟨hc.1, hc.2, hb.1, hb.2, fun z => nd.2 z.symm⟩⟩
  · obtain ⟨a, b, e⟩ : ∃ a b, o.ax = [a, b] := by
      match o.ax, hl with
      | [a, b], _ => exact ⟨a, b, rfl⟩
    have ha := hr a (by rw [e]; simp)
    have hb := hr b (by rw [e]; simp)
    simp only [Job.d1, Job.d2, Job.mid, if_neg (show ¬ o.k < 2 by omega), e]
    exact ⟨⟨by show 0 ≤ a; omega, by show a ≤ n; omega, by show (0 : Int) ≤ 0; omega, by show (0 : Int) ≤ n; omega, by show a ≠ 0; omega⟩, ⟨by show 0 ≤ b; omega, by show b ≤ n; omega, by show (0 : Int) ≤ 0; omega, by show (0 : Int) ≤ n; omega, by show b ≠ 0; omega⟩⟩
theorem Job.sg1 (o : Job) : o.sg = 1 ∨ o.sg = -1 := by
  unfold Job.sg
  split
  · exact .inl rfl
  · split
    · exact .inr rfl
    · split
      · exact .inl rfl
      · exact .inr rfl
section
variable {G : Gx} {ds : List Df} {m i i0 i1 i2 i3 i4 i5 i8 i9 iN e : Nat}
/-- told ratios as they may be -/
def CogOk (p : Int × Int) : Prop := p.1.natAbs < 2 ^ 42 ∧ p.2.natAbs < 2 ^ 42
structure HeldIn (n : Nat) (js : List Job) (cogs bolts : List (Int × Int)) : Prop where
  jk : ∀ j ∈ js, JobOk n j
  jl : js.length ≤ 100
  cl : cogs.length = js.length
  cg : ∀ p ∈ cogs, Fr p ∧ 0 < p.1
  cb : ∀ p ∈ cogs, CogOk p
  lk : Lks n bolts
  ll : bolts.length ≤ 100
end
end Zk

namespace Zk
open PySem PySem.Spec PyProof.Rows L2
section
variable {G : Gx} {ds : List Df} {m i i0 i1 i2 i3 i4 i5 i6 i8 i9 iN e : Nat}
/-! a list that may become still at its next use -/
def Fz (st : Sto) (v : W) (l : List W) : Prop := v = .lst l ∨ ∃ n b, v = .ref n ∧ st[n]? = some (b, .lst l)
/-- the same contents, some of them still now -/
def Stl (st st' : Sto) : Prop := st'.length = st.length ∧ ∀ (i : Nat) (b : Bool) (c : Cell), st[i]? = some (b, c) → ∃ b', st'[i]? = some (b', c)
theorem Stl.refl {st : Sto} : Stl st st := ⟨rfl, fun _ b _ h => ⟨b, h⟩⟩
theorem Stl.trans {a b c : Sto} (h : Stl a b) (g : Stl b c) : Stl a c := ⟨g.1.trans h.1, fun i x y e => by
  obtain ⟨x', e'⟩ := h.2 i x y e
  exact g.2 i x' y e'⟩
theorem Fz.frz {st : Sto} {v : W} {l : List W} {Q : Po} (h : Fz st v l) (k : ∀ st', Stl st st' → (∀ i, v ≠ .ref i → st'[i]? = st[i]?) → Q (.lst l) st') : frzP v st Q := by
  rcases h with rfl | ⟨n, b, rfl, e⟩
  · exact .inr (.inr (.inl ⟨l, rfl, k st .refl fun _ _ => rfl⟩))
  · refine .inl ⟨n, l, b, rfl, e, k _ ⟨by rw [List.length_set], fun i x y h => ?_⟩ fun i hi => List.getElem?_set_ne fun z => hi (by rw [z])⟩
    by_cases z : i = n
    · subst z
      rw [e] at h
      cases h
      exact ⟨false, setSelf e⟩
    · exact ⟨x, (List.getElem?_set_ne fun w => z w.symm).trans h⟩
theorem Fz.sq {st : Sto} {v : W} {l : List W} (h : Fz st v l) : Zk.sq st v = some l := by
  rcases h with rfl | ⟨n, b, rfl, e⟩
  · rfl
  · simp only [Zk.sq, e]
end
end Zk

namespace Zk
open PySem PySem.Spec PyProof.Rows L2
/-! ### rows as functions of points: determinants, spans -/
section
variable {ι : Type}
/-- a row ahead of a form, over points -/
def wdg (r : ι → Rat) : List ι → (List ι → Rat) → Rat
  | [], _ => 0
  | c :: cs, F => r c * F cs - wdg r cs fun x => F (c :: x)
def det : List (ι → Rat) → List ι → Rat
  | [], [] => 1
  | [], _ :: _ => 0
  | r :: rs, cs => wdg r cs (det rs)
theorem wdg_lin (r : ι → Rat) : ∀ (cs : List ι) (a : Rat) (F H : List ι → Rat), wdg r cs (fun x => a * F x - H x) = a * wdg r cs F - wdg r cs H
  | [], a, F, H => by simp only [wdg]; grind
  | c :: cs, a, F, H => by
    simp only [wdg]
    rw [wdg_lin r cs a (fun x => F (c :: x)) (fun x => H (c :: x))]
    grind
theorem wdg_zero (r : ι → Rat) : ∀ cs : List ι, wdg r cs (fun _ => 0) = 0
  | [] => rfl
  | c :: cs => by simp only [wdg]; rw [wdg_zero r cs]; grind
theorem wdg_neg (r : ι → Rat) (cs : List ι) (F : List ι → Rat) : wdg r cs (fun x => -F x) = -wdg r cs F := by
  have := wdg_lin r cs 0 F F
  have e : (fun x => (0 : Rat) * F x - F x) = fun x => -F x := by funext x; grind
  rw [e] at this
  rw [this]; grind
theorem wdg_row (r s : ι → Rat) (a : Rat) : ∀ (cs : List ι) (F : List ι → Rat), wdg (fun c => a * r c + s c) cs F = a * wdg r cs F + wdg s cs F
  | [], F => by simp only [wdg]; grind
  | c :: cs, F => by
    simp only [wdg]
    rw [wdg_row r s a cs]
    grind
theorem wdg_off (r : ι → Rat) : ∀ (cs : List ι) (F : List ι → Rat), (∀ c ∈ cs, r c = 0) → wdg r cs F = 0
  | [], F, _ => rfl
  | c :: cs, F, h => by
    simp only [wdg]
    rw [wdg_off r cs _ fun x hx => h x (List.mem_cons_of_mem _ hx), h c (List.mem_cons_self ..)]
    grind
theorem wdg_anti (r s : ι → Rat) : ∀ (cs : List ι) (F : List ι → Rat), wdg r cs (fun x => wdg s x F) + wdg s cs (fun x => wdg r x F) = 0
  | [], F => by simp only [wdg]; grind
  | c :: cs, F => by
    have ih := wdg_anti r s cs fun x => F (c :: x)
    simp only [wdg]
    rw [wdg_lin r cs (s c) F (fun x => wdg s x fun y => F (c :: y)), wdg_lin s cs (r c) F (fun x => wdg r x fun y => F (c :: y))]
    grind
theorem det_mem : ∀ (rs : List (ι → Rat)) (r : ι → Rat), r ∈ rs → ∀ cs, det (r :: rs) cs = 0
  | [], r, h, _ => by simp at h
  | s :: rs, r, h, cs => by
    simp only [det]
    have a := wdg_anti r s cs (det rs)
    rcases List.mem_cons.mp h with rfl | h
    · show wdg r cs (fun x => wdg r x (det rs)) = 0
      grind
    · have z : (fun x => wdg r x (det rs)) = fun _ => 0 := by funext x; exact det_mem rs r h x
      rw [z, wdg_zero] at a
      show wdg r cs (fun x => wdg s x (det rs)) = 0
      grind
inductive Span (us : List (ι → Rat)) : (ι → Rat) → Prop
  | zero : Span us fun _ => 0
  | add (a : Rat) {u f : ι → Rat} : u ∈ us → Span us f → Span us fun c => a * u c + f c
theorem Span.lin {us : List (ι → Rat)} {f g : ι → Rat} (b : Rat) (hf : Span us f) (hg : Span us g) : Span us fun c => b * f c + g c := by
  induction hf with
  | zero => 
    have : (fun c => b * (0 : Rat) + g c) = g := by funext c; grind
    rw [this]; exact hg
  | @add a u f hu _ ih =>
    have : (fun c => b * (a * u c + f c) + g c) = fun c => (b * a) * u c + (b * f c + g c) := by funext c; grind
    rw [this]; exact .add _ hu ih
theorem Span.mem {us : List (ι → Rat)} {u : ι → Rat} (h : u ∈ us) : Span us u := by
  have := Span.add 1 h (.zero (us := us))
  have e : (fun c => (1 : Rat) * u c + 0) = u := by funext c; grind
  rwa [e] at this
theorem Span.mono {us vs : List (ι → Rat)} (h : ∀ u ∈ us, Span vs u) {f : ι → Rat} (hf : Span us f) : Span vs f := by
  induction hf with
  | zero => exact .zero
  | add a hu _ ih => exact .lin a (h _ hu) ih
theorem Span.up {us : List (ι → Rat)} {r f : ι → Rat} (hf : Span us f) : Span (r :: us) f := hf.mono fun u hu => .mem (List.mem_cons_of_mem _ hu)
/-- all that is spanned is 0 where the rows are -/
theorem Span.at0 {us : List (ι → Rat)} {f : ι → Rat} (hf : Span us f) {v : ι} (h : ∀ u ∈ us, u v = 0) : f v = 0 := by
  induction hf with
  | zero => rfl
  | @add a u f hu _ ih =>
    show a * u v + f v = 0
    rw [h _ hu, ih]; grind
theorem det_span {us : List (ι → Rat)} {f : ι → Rat} (hf : Span us f) (cs : List ι) : det (f :: us) cs = 0 := by
  induction hf with
  | zero => exact wdg_off _ cs _ fun _ _ => rfl
  | @add a u f hu _ ih =>
    show wdg (fun c => a * u c + f c) cs (det us) = 0
    rw [wdg_row]
    have := det_mem us u hu cs
    have e1 : wdg u cs (det us) = 0 := this
    have e2 : wdg f cs (det us) = 0 := ih
    rw [e1, e2]; grind
/-- a form in one of its points -/
theorem span_wdg {us : List (ι → Rat)} (r : ι → Rat) : ∀ (y : List ι) (F : ι → List ι → Rat), (∀ z, Span us fun j => F j z) → Span us fun j => wdg r y (F j)
  | [], F, h => .zero
  | c :: y, F, h => by
    have := Span.lin (-1) (span_wdg r y (fun j x => F j (c :: x)) fun z => h (c :: z)) (Span.lin (r c) (h y) .zero)
    have e : (fun j => -1 * wdg r y (fun x => F j (c :: x)) + (r c * F j y + 0)) = fun j => wdg r (c :: y) (F j) := by
      funext j; simp only [wdg]; grind
    rwa [e] at this
theorem span_in {us : List (ι → Rat)} (r : ι → Rat) : ∀ (x y : List ι) (F : List ι → Rat), (∀ x y, Span us fun j => F (x ++ j :: y)) → Span (r :: us) fun j => wdg r (x ++ j :: y) F
  | [], y, F, h => by
    have h1 : Span (r :: us) fun j => wdg r y (fun z => F (j :: z)) := Span.up (span_wdg r y (fun j z => F (j :: z)) fun z => h [] z)
    have := Span.lin (-1) h1 (Span.add (F y) (List.mem_cons_self (a := r) (l := us)) .zero)
    have e : (fun j => -1 * wdg r y (fun z => F (j :: z)) + (F y * r j + 0)) = fun j => wdg r ([] ++ j :: y) F := by
      funext j; simp only [List.nil_append, wdg]; grind
    rwa [e] at this
  | c :: x, y, F, h => by
    have := Span.lin (-1) (span_in r x y (fun z => F (c :: z)) fun x y => h (c :: x) y) (Span.lin (r c) (Span.up (h x y)) .zero)
    have e : (fun j => -1 * wdg r (x ++ j :: y) (fun z => F (c :: z)) + (r c * F (x ++ j :: y) + 0)) = fun j => wdg r (c :: x ++ j :: y) F := by
      funext j; simp only [List.cons_append, wdg]; grind
    rwa [e] at this
theorem span_det : ∀ (us : List (ι → Rat)) (x y : List ι), Span us fun j => det us (x ++ j :: y)
  | [], x, y => by
    have e : (fun j => det [] (x ++ j :: y)) = fun _ => 0 := by
      funext j
      cases x <;> rfl
    rw [e]; exact .zero
  | r :: us, x, y => span_in r x y (det us) (span_det us)
/-- two points exchanged -/
theorem wdg_alt (r : ι → Rat) : ∀ (x : List ι) (a b : ι) (y : List ι) (F : List ι → Rat), (∀ x a b y, F (x ++ a :: b :: y) = -F (x ++ b :: a :: y)) → wdg r (x ++ a :: b :: y) F = -wdg r (x ++ b :: a :: y) F
  | [], a, b, y, F, h => by
    simp only [List.nil_append, wdg]
    have e : (fun z => F (a :: b :: z)) = fun z => -F (b :: a :: z) := by funext z; exact h [] a b z
    rw [e, wdg_neg]
    grind
  | c :: x, a, b, y, F, h => by
    simp only [List.cons_append, wdg]
    rw [wdg_alt r x a b y (fun z => F (c :: z)) fun x a b y => h (c :: x) a b y, h x a b y]
    grind
theorem det_alt : ∀ (us : List (ι → Rat)) (x : List ι) (a b : ι) (y : List ι), det us (x ++ a :: b :: y) = -det us (x ++ b :: a :: y)
  | [], x, a, b, y => by cases x <;> simp only [List.nil_append, List.cons_append, det] <;> grind
  | r :: us, x, a, b, y => wdg_alt r x a b y (det us) (det_alt us)
theorem det_two (us : List (ι → Rat)) (a : ι) : ∀ (y x z : List ι), det us (x ++ a :: (y ++ a :: z)) = 0
  | [], x, z => by
    have := det_alt us x a a z
    simp only [List.nil_append]
    grind
  | b :: y, x, z => by
    have h1 := det_alt us x a b (y ++ a :: z)
    have h2 := det_two us a y (x ++ [b]) z
    rw [List.append_assoc] at h2
    simp only [List.cons_append, List.nil_append] at h2 ⊢
    rw [h1, h2]; grind
theorem det_len : ∀ (us : List (ι → Rat)) (cs : List ι), us.length ≠ cs.length → det us cs = 0
  | [], [], h => absurd rfl h
  | [], _ :: _, _ => rfl
  | r :: us, cs, h => by
    have key : ∀ (cs : List ι) (F : List ι → Rat), (∀ x : List ι, x.length + 1 = cs.length → F x = 0) → wdg r cs F = 0 := by
      intro cs
      induction cs with
      | nil => intro F _; rfl
      | cons c cs ih =>
        intro F hF
        simp only [wdg]
        rw [hF cs rfl, ih (fun x => F (c :: x)) fun x hx => hF (c :: x) (by simp at hx ⊢; omega)]
        grind
    exact key cs (det us) fun x hx => det_len us x (by simp at h; omega)
/-- a whole number of at most this size -/
def IntB (M : Nat) (x : Rat) : Prop := ∃ z : Int, x = (z : Rat) ∧ z.natAbs ≤ M
theorem IntB.mono {M N : Nat} {x : Rat} (h : IntB M x) (k : M ≤ N) : IntB N x := let ⟨z, a, b⟩ := h; ⟨z, a, Nat.le_trans b k⟩
theorem IntB.zero {M : Nat} : IntB M 0 := ⟨0, rfl, by simp⟩
theorem IntB.sub {M N : Nat} {x y : Rat} (h : IntB M x) (g : IntB N y) : IntB (M + N) (x - y) := by
  obtain ⟨a, rfl, ha⟩ := h
  obtain ⟨b, rfl, hb⟩ := g
  exact ⟨a - b, by rw [Rat.intCast_sub], by omega⟩
theorem IntB.mul {M N : Nat} {x y : Rat} (h : IntB M x) (g : IntB N y) : IntB (M * N) (x * y) := by
  obtain ⟨a, rfl, ha⟩ := h
  obtain ⟨b, rfl, hb⟩ := g
  exact ⟨a * b, by rw [Rat.intCast_mul], by rw [Int.natAbs_mul]; exact Nat.mul_le_mul ha hb⟩
theorem wdg_int {B M : Nat} {r : ι → Rat} : ∀ (cs : List ι) (F : List ι → Rat), (∀ c ∈ cs, IntB B (r c)) → (∀ x, (∀ c ∈ x, c ∈ cs) → IntB M (F x)) → IntB (cs.length * (B * M)) (wdg r cs F)
  | [], F, _, _ => by simp only [wdg]; exact IntB.zero
  | c :: cs, F, hr, hF => by
    simp only [wdg]
    have h1 := (hr c (List.mem_cons_self ..)).mul (hF cs fun x hx => List.mem_cons_of_mem _ hx)
    have h2 := wdg_int cs (fun x => F (c :: x)) (fun x hx => hr x (List.mem_cons_of_mem _ hx)) fun x hx => hF (c :: x) fun y hy => by
      rcases List.mem_cons.mp hy with rfl | hy
      · exact List.mem_cons_self ..
      · exact List.mem_cons_of_mem _ (hx y hy)
    refine (h1.sub h2).mono ?_
    rw [List.length_cons, Nat.succ_mul]
    omega
theorem det_int {B : Nat} (hB : 0 < B) : ∀ (us : List (ι → Rat)) (cs : List ι), us.length ≤ 8 → (∀ u ∈ us, ∀ c ∈ cs, IntB B (u c)) → IntB ((8 * B) ^ us.length) (det us cs)
  | [], [], _, _ => ⟨1, rfl, by simp⟩
  | [], _ :: _, _, _ => IntB.zero
  | r :: us, cs, hl, h => by
    by_cases e : (r :: us).length = cs.length
    · rw [List.length_cons] at hl
      have := wdg_int (M := (8 * B) ^ us.length) cs (det us) (fun c hc => h r (List.mem_cons_self ..) c hc) fun x hx => det_int hB us x (by omega) fun u hu c hc => h u (List.mem_cons_of_mem _ hu) c (hx c hc)
      refine this.mono ?_
      rw [← e, List.length_cons, Nat.pow_succ]
      have q : (us.length + 1) * B ≤ 8 * B := Nat.mul_le_mul_right _ (by omega)
      have := Nat.mul_le_mul_right ((8 * B) ^ us.length) q
      rw [Nat.mul_assoc] at this
      rw [Nat.mul_comm ((8 * B) ^ us.length)]
      exact this
    · rw [det_len _ _ e]; exact IntB.zero
/-- rows with a point each: no row has another one's point -/
structure Ldr (L : List (ι × (ι → Rat))) : Prop where
  nz : ∀ e ∈ L, e.2 e.1 ≠ 0
  of : L.Pairwise fun e f => e.2 f.1 = 0 ∧ f.2 e.1 = 0
def proj (L : List (ι × (ι → Rat))) (f : ι → Rat) (j : ι) : Rat := (L.map fun e => f e.1 / e.2 e.1 * e.2 j).sum
theorem proj_lin (a : Rat) (u f : ι → Rat) (j : ι) : ∀ L : List (ι × (ι → Rat)), proj L (fun c => a * u c + f c) j = a * proj L u j + proj L f j
  | [] => by simp only [proj, List.map_nil, List.sum_nil]; grind
  | e :: L => by
    have := proj_lin a u f j L
    unfold proj at this ⊢
    simp only [List.map_cons, List.sum_cons]
    rw [this]
    grind
theorem proj_off {f : ι → Rat} (j : ι) : ∀ {L : List (ι × (ι → Rat))}, (∀ e ∈ L, f e.1 = 0) → proj L f j = 0
  | [], _ => rfl
  | e :: L, h => by
    have := proj_off (f := f) j (L := L) fun x hx => h x (List.mem_cons_of_mem _ hx)
    unfold proj at this ⊢
    simp only [List.map_cons, List.sum_cons]
    rw [this, h e (List.mem_cons_self ..)]
    grind
theorem proj_mem (j : ι) : ∀ {L : List (ι × (ι → Rat))}, Ldr L → ∀ e ∈ L, proj L e.2 j = e.2 j
  | [], _, e, he => by simp at he
  | e0 :: L, h, e, he => by
    have of := List.pairwise_cons.mp h.of
    rcases List.mem_cons.mp he with rfl | he
    · have z := proj_off (f := e.2) j (L := L) fun x hx => (of.1 x hx).1
      have nz := h.nz e (List.mem_cons_self ..)
      unfold proj at z ⊢
      simp only [List.map_cons, List.sum_cons]
      rw [z]
      grind
    · have ih := proj_mem j (L := L) ⟨fun x hx => h.nz x (List.mem_cons_of_mem _ hx), of.2⟩ e he
      have z := (of.1 e he).2
      unfold proj at ih ⊢
      simp only [List.map_cons, List.sum_cons]
      rw [ih, z]
      grind
theorem proj_span {L : List (ι × (ι → Rat))} (h : Ldr L) {f : ι → Rat} (hf : Span (L.map (·.2)) f) (j : ι) : proj L f j = f j := by
  induction hf with
  | zero => exact proj_off (f := fun _ => 0) j fun _ _ => rfl
  | @add a u f hu _ ih =>
    obtain ⟨e, he, rfl⟩ := List.mem_map.mp hu
    rw [proj_lin, ih, proj_mem j h e he]
theorem proj_app (A B : List (ι × (ι → Rat))) (f : ι → Rat) (j : ι) : proj (A ++ B) f j = proj A f j + proj B f j := by
  unfold proj
  rw [List.map_append, List.sum_append]
/-- a leading row is a multiple of a row of determinants -/
theorem lead_prop {us : List (ι → Rat)} {A B : List (ι × (ι → Rat))} {e : ι × (ι → Rat)} (h : Ldr (A ++ e :: B)) (sp : ∀ u ∈ us, Span ((A ++ e :: B).map (·.2)) u) (j : ι) :
    e.2 e.1 * det us (A.map (·.1) ++ j :: B.map (·.1)) = det us (A.map (·.1) ++ e.1 :: B.map (·.1)) * e.2 j := by
  have sv : Span ((A ++ e :: B).map (·.2)) fun j => det us (A.map (·.1) ++ j :: B.map (·.1)) := (span_det us _ _).mono sp
  have pj := proj_span h sv j
  have nz := h.nz e (by simp)
  have zA : proj A (fun j => det us (A.map (·.1) ++ j :: B.map (·.1))) j = 0 := proj_off j fun f hf => by
    obtain ⟨x, y, hxy⟩ := List.append_of_mem (List.mem_map.mpr ⟨f, hf, rfl⟩ : f.1 ∈ A.map (·.1))
    rw [hxy, List.append_assoc]
    exact det_two us f.1 y x _
  have zB : proj B (fun j => det us (A.map (·.1) ++ j :: B.map (·.1))) j = 0 := proj_off j fun f hf => by
    obtain ⟨x, y, hxy⟩ := List.append_of_mem (List.mem_map.mpr ⟨f, hf, rfl⟩ : f.1 ∈ B.map (·.1))
    rw [hxy]
    exact det_two us f.1 x _ y
  have e1 : proj (A ++ e :: B) (fun j => det us (A.map (·.1) ++ j :: B.map (·.1))) j = det us (A.map (·.1) ++ e.1 :: B.map (·.1)) / e.2 e.1 * e.2 j := by
    have : A ++ e :: B = A ++ ([e] ++ B) := rfl
    rw [this, proj_app, proj_app, zA, zB]
    unfold proj
    simp only [List.map_cons, List.map_nil, List.sum_cons, List.sum_nil]
    grind
  rw [e1] at pj
  rw [← pj]
  grind
end
/-! whole rows without a common divisor -/
def gcdL : List (Int × Int) → Nat → Nat
  | [], c => c
  | e :: T, c => gcdL T (Nat.gcd c e.2.natAbs)
theorem gcdL_dvd {t d : Nat} : ∀ (T : List (Int × Int)) (c : Nat), t ∣ d * c → (∀ e ∈ T, t ∣ d * e.2.natAbs) → t ∣ d * gcdL T c
  | [], c, h, _ => h
  | e :: T, c, h, g => gcdL_dvd T _ (by rw [← Nat.gcd_mul_left]; exact Nat.dvd_gcd h (g e (List.mem_cons_self ..))) fun x hx => g x (List.mem_cons_of_mem _ hx)
theorem prim_bound {T : List (Int × Int)} {t d : Int} {w : Int × Int → Int} {M : Nat} (hd : d ≠ 0) (ht : t ≠ 0) (g : gcdL T 0 = 1) (h : ∀ e ∈ T, t * w e = d * e.2) (hw : ∀ e ∈ T, (w e).natAbs ≤ M) : ∀ e ∈ T, e.2.natAbs ≤ M := by
  have dv : t.natAbs ∣ d.natAbs := by
    have := gcdL_dvd (t := t.natAbs) (d := d.natAbs) T 0 (by simp) fun e he => by
      rw [← Int.natAbs_mul, ← h e he, Int.natAbs_mul]; exact Nat.dvd_mul_right ..
    rw [g, Nat.mul_one] at this
    exact this
  obtain ⟨q, hq⟩ := dv
  intro e he
  have h1 := congrArg Int.natAbs (h e he)
  rw [Int.natAbs_mul, Int.natAbs_mul, hq, Nat.mul_assoc] at h1
  have h2 := Nat.eq_of_mul_eq_mul_left (by omega : 0 < t.natAbs) h1
  have q0 : 0 < q := Nat.pos_of_ne_zero fun z => by rw [z, Nat.mul_zero] at hq; omega
  have := hw e he
  rw [h2] at this
  exact Nat.le_trans (Nat.le_mul_of_pos_left _ q0) this
/-! more unknowns than equations -/
def ssum (cols : List Int) (g : Int → Rat) : Rat := (cols.map g).sum
theorem ssum_lin (a : Rat) (f g : Int → Rat) : ∀ cols : List Int, ssum cols (fun c => f c - a * g c) = ssum cols f - a * ssum cols g
  | [] => by simp only [ssum, List.map_nil, List.sum_nil]; grind
  | c :: cols => by
    have := ssum_lin a f g cols
    unfold ssum at this ⊢
    simp only [List.map_cons, List.sum_cons]
    rw [this]; grind
theorem ssum_congr {f g : Int → Rat} : ∀ {cols : List Int}, (∀ c ∈ cols, f c = g c) → ssum cols f = ssum cols g
  | [], _ => rfl
  | c :: cols, h => by
    have := ssum_congr (f := f) (g := g) (cols := cols) fun x hx => h x (List.mem_cons_of_mem _ hx)
    unfold ssum at this ⊢
    simp only [List.map_cons, List.sum_cons]
    rw [this, h c (List.mem_cons_self ..)]
theorem ssum_zero {f : Int → Rat} {cols : List Int} (h : ∀ c ∈ cols, f c = 0) : ssum cols f = 0 := by
  rw [ssum_congr (g := fun _ => 0) h]
  clear h
  induction cols with
  | nil => rfl
  | cons c cols ih =>
    unfold ssum at ih ⊢
    simp only [List.map_cons, List.sum_cons]
    rw [ih]; grind
theorem ssum_at (f : Int → Rat) {c : Int} : ∀ {cols : List Int}, c ∈ cols → ssum cols f = f c + ssum (cols.erase c) f
  | [], h => by simp at h
  | d :: cols, h => by
    by_cases e : d = c
    · subst e
      rw [List.erase_cons_head]; rfl
    · rcases List.mem_cons.mp h with z | h
      · exact absurd z.symm e
      · have := ssum_at f h
        rw [List.erase_cons_tail (by simpa using e)]
        unfold ssum at this ⊢
        simp only [List.map_cons, List.sum_cons]
        rw [this]; grind
termination_by E cols => E.length
/-! rows of n columns -/
abbrev Fn := (Int → Rat) → Rat
def ind (c : Int) : Int → Rat := fun x => if x = c then 1 else 0
/-- a row in the columns 1 to n -/
def Lin (n : Nat) (f : Fn) : Prop := ∀ v, f v = ssum (shaftsF 1 n) fun c => f (ind c) * v c
theorem shaft_mem {n : Nat} {c : Int} : c ∈ shaftsF 1 n ↔ 1 ≤ c ∧ c ≤ n := by
  constructor
  · intro h
    have := shaftsF_mem h
    omega
  · intro h
    unfold shaftsF
    exact List.mem_map.mpr ⟨(c - 1).toNat, List.mem_range.mpr (by omega), by omega⟩
theorem Lin.one {n : Nat} {f : Fn} (h : Lin n f) {v : Int → Rat} {c : Int} (hc : 1 ≤ c ∧ c ≤ n) (z : ∀ x : Int, 1 ≤ x → x ≤ n → x ≠ c → f (ind x) * v x = 0) : f v = f (ind c) * v c := by
  rw [h v, ssum_at _ (shaft_mem.mpr hc), ssum_zero fun x hx => ?_]
  · grind
  · have nd := shaftsF_nd 1 n
    have h1 := shaft_mem.mp (List.mem_of_mem_erase hx)
    refine z x h1.1 h1.2 fun e => ?_
    rw [e] at hx
    exact (List.Nodup.not_mem_erase nd) hx
structure Tri (n : Nat) (E : List (Int × Fn)) : Prop where
  nd : (E.map (·.1)).Nodup
  rg : ∀ e ∈ E, 1 ≤ e.1 ∧ e.1 ≤ n
  nz : ∀ e ∈ E, e.2 (ind e.1) ≠ 0
  tri : E.Pairwise fun e f => f.2 (ind e.1) = 0
  lin : ∀ e ∈ E, Lin n e.2
theorem nd_sub : ∀ {l m : List Int}, l.Nodup → (∀ x ∈ l, x ∈ m) → l.length ≤ m.length
  | [], m, _, _ => Nat.zero_le _
  | a :: l, m, nd, h => by
    have nd' := List.nodup_cons.mp nd
    have ha := h a (List.mem_cons_self ..)
    have := nd_sub (l := l) (m := m.erase a) nd'.2 fun x hx => by
      have : x ≠ a := fun e => nd'.1 (by rw [← e]; exact hx)
      exact (List.mem_erase_of_ne this).mpr (h x (List.mem_cons_of_mem _ hx))
    rw [List.length_erase_of_mem ha] at this
    have := List.length_pos_of_mem ha
    rw [List.length_cons]; omega
end Zk

namespace Zk
open PySem PySem.Spec PyProof.Rows L2
/-- a row of columns 1 to n -/
structure RowB (n : Nat) (T : List (Int × Int)) : Prop where
  nd : (T.map (·.1)).Nodup
  nz : ∀ e ∈ T, e.2 ≠ 0
  rg : ∀ e ∈ T, 1 ≤ e.1 ∧ e.1 ≤ n
theorem RowB.len {n : Nat} {T : List (Int × Int)} (h : RowB n T) : T.length ≤ n := by
  have := nd_sub (l := T.map (·.1)) (m := shaftsF 1 n) h.nd fun x hx => by
    obtain ⟨e, he, rfl⟩ := List.mem_map.mp hx
    exact shaft_mem.mpr (h.rg e he)
  rwa [List.length_map, shaftsF_len] at this
def fnR (T : List (Int × Int)) : Fn := fun v => rsum v T
theorem fnR_at {T : List (Int × Int)} (nd : (T.map (·.1)).Nodup) : ∀ e ∈ T, fnR T (ind e.1) = (e.2 : Rat) := by
  unfold fnR
  induction T with
  | nil => intro e he; simp at he
  | cons z T ih =>
    intro e he
    rw [List.map_cons] at nd
    obtain ⟨n1, n2⟩ := List.nodup_cons.mp nd
    rw [rsum_cons]
    have off : ∀ (S : List (Int × Int)) (c : Int), c ∉ S.map (·.1) → rsum (ind c) S = 0 := fun S c hc => by
      induction S with
      | nil => rfl
      | cons y S ihS =>
        rw [rsum_cons, ihS fun w => hc (List.mem_cons_of_mem _ w)]
        have : y.1 ≠ c := fun w => hc (by rw [← w]; exact List.mem_cons_self ..)
        unfold ind
        rw [if_neg this]; grind
    rcases List.mem_cons.mp he with rfl | he
    · rw [off T e.1 n1]
      unfold ind
      rw [if_pos rfl]; grind
    · rw [ih n2 e he]
      have : z.1 ≠ e.1 := fun w => n1 (by rw [w]; exact List.mem_map.mpr ⟨e, he, rfl⟩)
      unfold ind
      rw [if_neg this]; grind
theorem fnR_off {T : List (Int × Int)} {c : Int} (hc : c ∉ T.map (·.1)) : fnR T (ind c) = 0 := by
  unfold fnR
  induction T with
  | nil => rfl
  | cons y T ih =>
    rw [rsum_cons, ih fun w => hc (List.mem_cons_of_mem _ w)]
    have : y.1 ≠ c := fun w => hc (by rw [← w]; exact List.mem_cons_self ..)
    unfold ind
    rw [if_neg this]; grind
theorem cast0 {x : Int} (h : x ≠ 0) : (x : Rat) ≠ 0 := fun z => h (Rat.intCast_inj.mp (show (x : Rat) = ((0 : Int) : Rat) from z))
/-- where a row is not 0 it has an entry -/
theorem fnR_mem {T : List (Int × Int)} (nd : (T.map (·.1)).Nodup) {c : Int} (h : fnR T (ind c) ≠ 0) : ∃ e ∈ T, e.1 = c := by
  by_cases hc : c ∈ T.map (·.1)
  · obtain ⟨e, he, rfl⟩ := List.mem_map.mp hc
    exact ⟨e, he, rfl⟩
  · exact absurd (fnR_off hc) h
theorem RowB.in {n : Nat} {T : List (Int × Int)} (h : RowB n T) {c : Int} : fnR T (ind c) ≠ 0 ↔ c ∈ T.map (·.1) := by
  constructor
  · intro z
    obtain ⟨e, he, rfl⟩ := fnR_mem h.nd z
    exact List.mem_map.mpr ⟨e, he, rfl⟩
  · intro z
    obtain ⟨e, he, rfl⟩ := List.mem_map.mp z
    rw [fnR_at h.nd e he]
    exact cast0 (h.nz e he)
theorem fnR_lin {n : Nat} {T : List (Int × Int)} (h : RowB n T) : Lin n (fnR T) := fun v => by
  have key : ∀ (S : List (Int × Int)), (∀ e ∈ S, 1 ≤ e.1 ∧ e.1 ≤ n) → rsum v S = ssum (shaftsF 1 n) fun c => rsum (ind c) S * v c := fun S hS => by
    induction S with
    | nil =>
      rw [ssum_zero fun c _ => by rw [rsum_nil]; grind]; rfl
    | cons y S ih =>
      rw [rsum_cons, ih fun e he => hS e (List.mem_cons_of_mem _ he)]
      have e1 : ssum (shaftsF 1 n) (fun c => rsum (ind c) (y :: S) * v c) = ssum (shaftsF 1 n) fun c => rsum (ind c) S * v c - (-1) * ((y.2 : Rat) * ind c y.1 * v c) := ssum_congr fun c _ => by rw [rsum_cons]; grind
      rw [e1, ssum_lin]
      have e2 : ssum (shaftsF 1 n) (fun c => (y.2 : Rat) * ind c y.1 * v c) = (y.2 : Rat) * v y.1 := by
        rw [ssum_at _ (shaft_mem.mpr (hS y (List.mem_cons_self ..))), ssum_zero fun x hx => ?_]
        · unfold ind
          rw [if_pos rfl]; grind
        · have : y.1 ≠ x := fun e => by
            rw [← e] at hx
            exact (List.Nodup.not_mem_erase (shaftsF_nd 1 n)) hx
          unfold ind
          rw [if_neg this]; grind
      rw [e2]; grind
  exact key T h.rg
theorem int_cast_eq {a b c d : Int} (h : (a : Rat) * (b : Rat) = (c : Rat) * (d : Rat)) : a * b = c * d := by
  rw [← Rat.intCast_mul, ← Rat.intCast_mul] at h
  exact Rat.intCast_inj.mp h
/-- how large a leading row without a common divisor is -/
theorem lead_bound {us : List Fn} {A B : List ((Int → Rat) × Fn)} {c : Int} {T : List (Int × Int)} {b : Nat} (h : Ldr (A ++ (ind c, fnR T) :: B)) (sp : ∀ u ∈ us, Span ((A ++ (ind c, fnR T) :: B).map (·.2)) u)
    (hd : det us ((A ++ (ind c, fnR T) :: B).map (·.1)) ≠ 0) (hb : 0 < b) (ub : ∀ u ∈ us, ∀ j, IntB b (u (ind j))) (pt : ∀ x ∈ A ++ B, ∃ j, x.1 = ind j) (hl : us.length ≤ 8) (nd : (T.map (·.1)).Nodup) (g : gcdL T 0 = 1) : ∀ f ∈ T, f.2.natAbs ≤ (8 * b) ^ 8 := by
  have M : ∀ j : Int, IntB ((8 * b) ^ 8) (det us (A.map (·.1) ++ ind j :: B.map (·.1))) := fun j => by
    refine (det_int hb us _ hl fun u hu x hx => ?_).mono (Nat.pow_le_pow_right (by omega) hl)
    have : ∃ k, x = ind k := by
      rcases List.mem_append.mp hx with hx | hx
      · obtain ⟨y, hy, rfl⟩ := List.mem_map.mp hx
        exact pt y (List.mem_append_left _ hy)
      · rcases List.mem_cons.mp hx with rfl | hx
        · exact ⟨j, rfl⟩
        · obtain ⟨y, hy, rfl⟩ := List.mem_map.mp hx
          exact pt y (List.mem_append_right _ hy)
    obtain ⟨k, rfl⟩ := this
    exact ub u hu k
  have nz : fnR T (ind c) ≠ 0 := h.nz (ind c, fnR T) (by simp)
  obtain ⟨e0, he0, hc0⟩ := fnR_mem nd nz
  have t0 : fnR T (ind c) = (e0.2 : Rat) := by rw [← hc0]; exact fnR_at nd e0 he0
  obtain ⟨d, hd1, _⟩ := M c
  rw [List.map_append, List.map_cons] at hd
  have hd : det us (A.map (·.1) ++ ind c :: B.map (·.1)) ≠ 0 := hd
  have d0 : d ≠ 0 := fun z => by rw [hd1, z] at hd; exact hd rfl
  have e00 : e0.2 ≠ 0 := fun z => by rw [t0, z] at nz; exact nz rfl
  refine prim_bound (t := e0.2) (d := d) (w := fun e => Classical.choose (M e.1)) d0 e00 g (fun f hf => ?_) fun f hf => (Classical.choose_spec (M f.1)).2
  refine int_cast_eq ?_
  rw [← (Classical.choose_spec (M f.1)).1, ← hd1, ← t0, ← fnR_at nd f hf]
  exact lead_prop h sp (ind f.1)
/-- the leads of some rows -/
structure LeadS (n : Nat) (us : List Fn) (L : List (Int × List (Int × Int))) : Prop where
  row : ∀ e ∈ L, RowB n e.2
  prim : ∀ e ∈ L, gcdL e.2 0 = 1
  ldr : Ldr (L.map fun e => (ind e.1, fnR e.2))
  top : ∀ e ∈ L, ∀ f ∈ e.2, f.1 ≤ e.1
  sp1 : ∀ e ∈ L, Span us (fnR e.2)
  sp2 : ∀ u ∈ us, Span (L.map fun e => fnR e.2) u
  dt : det us (L.map fun e => ind e.1) ≠ 0
  ub : ∀ u ∈ us, ∀ j, IntB (2 ^ 52) (u (ind j))
theorem LeadS.len {n : Nat} {us : List Fn} {L : List (Int × List (Int × Int))} (h : LeadS n us L) : us.length = L.length := by
  refine Classical.byContradiction fun z => h.dt (det_len _ _ ?_)
  rw [List.length_map]; exact z
theorem ldr_nd {L : List (Int × List (Int × Int))} (h : Ldr (L.map fun e => (ind e.1, fnR e.2))) : (L.map (·.1)).Nodup := by
  induction L with
  | nil => exact List.nodup_nil
  | cons e L ih =>
    rw [List.map_cons] at h ⊢
    have of := List.pairwise_cons.mp h.of
    refine List.nodup_cons.mpr ⟨fun z => ?_, ih ⟨fun x hx => h.nz x (List.mem_cons_of_mem _ hx), of.2⟩⟩
    obtain ⟨f, hf, ef⟩ := List.mem_map.mp z
    have h1 := (of.1 (ind f.1, fnR f.2) (List.mem_map.mpr ⟨f, hf, rfl⟩)).1
    have h2 := h.nz (ind e.1, fnR e.2) (List.mem_cons_self ..)
    exact h2 (by rw [← ef]; exact h1)
theorem LeadS.rg {n : Nat} {us : List Fn} {L : List (Int × List (Int × Int))} (h : LeadS n us L) {e : Int × List (Int × Int)} (he : e ∈ L) : 1 ≤ e.1 ∧ e.1 ≤ n := by
  have := h.ldr.nz (ind e.1, fnR e.2) (List.mem_map.mpr ⟨e, he, rfl⟩)
  obtain ⟨f, hf, ef⟩ := fnR_mem (h.row e he).nd this
  rw [← ef]
  exact (h.row e he).rg f hf
theorem LeadS.le {n : Nat} {us : List Fn} {L : List (Int × List (Int × Int))} (h : LeadS n us L) : L.length ≤ n := by
  have := nd_sub (l := L.map (·.1)) (m := shaftsF 1 n) (ldr_nd h.ldr) fun x hx => by
    obtain ⟨e, he, rfl⟩ := List.mem_map.mp hx
    exact shaft_mem.mpr (h.rg he)
  rwa [List.length_map, shaftsF_len] at this
theorem pow440 : (8 * 2 ^ 52) ^ 8 = 2 ^ 440 := by
  rw [show (8 : Nat) = 2 ^ 3 by decide, ← Nat.pow_add, ← Nat.pow_mul]
theorem LeadS.bd {n : Nat} {us : List Fn} {L : List (Int × List (Int × Int))} (h : LeadS n us L) (hn : n ≤ 8) : ∀ e ∈ L, ∀ f ∈ e.2, f.2.natAbs < 2 ^ 441 := by
  intro e he f hf
  obtain ⟨A, B, rfl⟩ := List.append_of_mem he
  have hl := h.len
  have hle := h.le
  have := lead_bound (us := us) (A := A.map fun e => (ind e.1, fnR e.2)) (B := B.map fun e => (ind e.1, fnR e.2)) (c := e.1) (T := e.2) (b := 2 ^ 52) (by have := h.ldr; rwa [List.map_append, List.map_cons] at this)
    (fun u hu => by have := h.sp2 u hu; rw [List.map_append, List.map_cons] at this ⊢; rw [List.map_map, List.map_map]; exact this)
    (by have := h.dt; rw [List.map_append, List.map_cons] at this ⊢; rw [List.map_map, List.map_map]; exact this) (Nat.two_pow_pos _) h.ub
    (fun x hx => by
      rcases List.mem_append.mp hx with hx | hx
      · obtain ⟨y, _, rfl⟩ := List.mem_map.mp hx; exact ⟨_, rfl⟩
      · obtain ⟨y, _, rfl⟩ := List.mem_map.mp hx; exact ⟨_, rfl⟩) (by omega) (h.row e he).nd (h.prim e he) f hf
  rw [pow440] at this
  exact Nat.lt_of_le_of_lt this (Nat.pow_lt_pow_right (by decide) (by omega))
theorem LeadS.tri {n : Nat} {us : List Fn} {L : List (Int × List (Int × Int))} (h : LeadS n us L) : Tri n (L.map fun e => (e.1, fnR e.2)) := by
  refine ⟨?_, fun x hx => ?_, fun x hx => ?_, ?_, fun x hx => ?_⟩
  · rw [List.map_map]; exact ldr_nd h.ldr
  · obtain ⟨e, he, rfl⟩ := List.mem_map.mp hx; exact h.rg he
  · obtain ⟨e, he, rfl⟩ := List.mem_map.mp hx
    exact h.ldr.nz _ (List.mem_map.mpr ⟨e, he, rfl⟩)
  · have := h.ldr.of
    refine List.pairwise_map.mpr ((List.pairwise_map.mp this).imp fun {a b} z => z.2)
  · obtain ⟨e, he, rfl⟩ := List.mem_map.mp hx
    exact fnR_lin (h.row e he)
/-! taking out a column, a common divisor -/
section
variable {G : Gx} {ds : List Df} {m i i1 i2 i3 i4 : Nat}
end
end Zk

namespace Zk
open PySem PySem.Spec PyProof.Rows L2
theorem LeadS.ne {n : Nat} {us : List Fn} {L : List (Int × List (Int × Int))} (h : LeadS n us L) {e f : Int × List (Int × Int)} (he : e ∈ L) (hf : f ∈ L) (ne : e.1 ≠ f.1) : fnR e.2 (ind f.1) = 0 := by
  have of := List.pairwise_map.mp h.ldr.of
  obtain ⟨A, B, rfl⟩ := List.append_of_mem he
  obtain ⟨o1, o2, o3⟩ := List.pairwise_append.mp of
  rcases List.mem_append.mp hf with hf | hf
  · exact (o3 f hf e (List.mem_cons_self ..)).2
  · rcases List.mem_cons.mp hf with rfl | hf
    · exact absurd rfl ne
    · exact ((List.pairwise_cons.mp o2).1 f hf).1
section
variable {G : Gx} {ds : List Df} {m i i1 i2 i3 i4 : Nat}
end
end Zk

namespace Zk
open PySem PySem.Spec PyProof.Rows L2
def fnG (n : Nat) (g : Int → Int) : Fn := fun v => ssum (shaftsF 1 n) fun c => (g c : Rat) * v c
theorem fnG_at {n : Nat} {g : Int → Int} {c : Int} (h : 1 ≤ c ∧ c ≤ n) : fnG n g (ind c) = (g c : Rat) := by
  unfold fnG
  rw [ssum_at _ (shaft_mem.mpr h), ssum_zero fun x hx => ?_]
  · unfold ind
    rw [if_pos rfl]; grind
  · have : x ≠ c := fun e => by
      rw [e] at hx
      exact (List.Nodup.not_mem_erase (shaftsF_nd 1 n)) hx
    unfold ind
    rw [if_neg this]; grind
theorem fnG_lin (n : Nat) (g : Int → Int) : Lin n (fnG n g) := fun v => ssum_congr fun c hc => by rw [fnG_at (shaft_mem.mp hc)]
structure EchOk (n : Nat) (b : List (Int × (Int → Int))) : Prop where
  rg : ∀ e ∈ b, 1 ≤ e.1 ∧ e.1 ≤ n
  nz : ∀ e ∈ b, e.2 e.1 ≠ 0
  tri : b.Pairwise fun e f => f.2 e.1 = 0
  bd : ∀ k, ∀ h : k < b.length, ∀ c, ((b[k]).2 c).natAbs < 2 ^ (47 * 2 ^ k - 1)
theorem EchOk.nd {n : Nat} {b : List (Int × (Int → Int))} (h : EchOk n b) : (b.map (·.1)).Nodup :=
  List.pairwise_map.mpr (List.Pairwise.imp_of_mem (fun {e f} he hf z w => h.nz f hf (by rw [← w]; exact z)) h.tri)
theorem EchOk.le {n : Nat} {b : List (Int × (Int → Int))} (h : EchOk n b) : b.length ≤ n := by
  have := nd_sub (l := b.map (·.1)) (m := shaftsF 1 n) h.nd fun x hx => by
    obtain ⟨e, he, rfl⟩ := List.mem_map.mp hx
    exact shaft_mem.mpr (h.rg e he)
  rwa [List.length_map, shaftsF_len] at this
section
variable {G : Gx} {ds : List Df} {m i i1 i2 i3 i4 : Nat}
end
end Zk

namespace Zk
open PySem PySem.Spec PyProof.Rows L2
/-! ### a law's equations, its base -/
/-- law_entries:  -/
def B_law_entries  : Sm :=
      (.cons (.set 2 (.lc true [("k", 3)] (.one 3) (.rg1 (.bin .add false (.var 0) (.int 1))) .nil (.int 0)))
      (.cons (.put (.var 2) (.ix (.var 1) (.int 0)) (.bin .add false (.ix (.var 2) (.ix (.var 1) (.int 0))) (.int 1)))
      (.cons (.put (.var 2) (.ix (.var 1) (.int 1)) (.bin .sub false (.ix (.var 2) (.ix (.var 1) (.int 1))) (.int 1)))
      (.cons (.ret (.sl false (.var 2) (.int 1) .no))
      .nil))))

section
variable {G : Gx} {ds : List Df} {m i i1 i2 i3 i4 : Nat}
end
end Zk

namespace Zk
open PySem PySem.Spec PyProof.Rows L2
section
variable {G : Gx} {ds : List Df} {m i i1 i2 i3 i4 i5 : Nat}
end
end Zk

namespace Zk
open PySem PySem.Spec PyProof.Rows L2
section
variable {G : Gx} {ds : List Df} {m i i1 i2 i3 i4 i5 : Nat}
/-- jobs as they come out of a draw: still, or a list of their own -/
def JobsAt (st : Sto) (v1 : W) (js : List Job) (c2 c3 : Nat) (lo : Nat) : Prop := v1 = .lst (js.map Job.w) ∨ ∃ c1, v1 = .ref c1 ∧ st[c1]? = some (true, .lst (js.map Job.w)) ∧ lo ≤ c1 ∧ c1 ≠ c2 ∧ c1 ≠ c3
/-- cells other than these stay -/
def But (j c2 c3 : Nat) (s s' : Sto) : Prop := s.length ≤ s'.length ∧ ∀ i, i < s.length → i ≠ j → i ≠ c2 → i ≠ c3 → s'[i]? = s[i]?
theorem But.aft {j c2 c3 : Nat} {s s' : Sto} (h : Aft j s s') : But j c2 c3 s s' := ⟨h.1, fun i hi n1 _ _ => h.2 i hi n1⟩
theorem But.trans {j c2 c3 : Nat} {a b c : Sto} (h : But j c2 c3 a b) (g : But j c2 c3 b c) : But j c2 c3 a c := ⟨Nat.le_trans h.1 g.1, fun i hi n1 n2 n3 => (g.2 i (Nat.lt_of_lt_of_le hi h.1) n1 n2 n3).trans (h.2 i hi n1 n2 n3)⟩
theorem JobsAt.but {j c2 c3 lo : Nat} {s s' : Sto} {v1 : W} {js : List Job} (h : JobsAt s v1 js c2 c3 lo) (hj : j < lo) (b : But j c2 c3 s s') : JobsAt s' v1 js c2 c3 lo := by
  rcases h with h | ⟨c1, e, h1, h2, h3, h4⟩
  · exact .inl h
  · exact .inr ⟨c1, e, (b.2 c1 (List.getElem?_eq_some_iff.mp h1).1 (by omega) h3 h4).trans h1, h2, h3, h4⟩
theorem JobsAt.lst {c2 c3 lo : Nat} {s : Sto} {v1 : W} {js : List Job} (h : JobsAt s v1 js c2 c3 lo) : LstAt s v1 (js.map Job.w) := by
  rcases h with h | ⟨c1, e, h1, _⟩
  · exact .inl h
  · exact .inr ⟨c1, e, h1⟩
end
end Zk

namespace Zk
open PySem PySem.Spec PyProof.Rows L2
/-! ### what laws of motions share -/
theorem Lin.congr {n : Nat} {f : Fn} (h : Lin n f) {u v : Int → Rat} (e : ∀ c, 1 ≤ c → c ≤ (n : Int) → u c = v c) : f u = f v := by
  rw [h u, h v]
  exact ssum_congr fun c hc => by
    have := shaft_mem.mp hc
    rw [e c this.1 this.2]
theorem EchOk.nil (n : Nat) : EchOk n [] := ⟨fun e he => by simp at he, fun e he => by simp at he, .nil, fun k hk => by simp at hk⟩
end Zk

namespace Zk
open PySem PySem.Spec PyProof.Rows L2
section
variable {G : Gx} {ds : List Df} {m i i1 i2 i3 i4 i5 : Nat}
/-- the shafts that no row tells -/
def frees (n : Nat) (L : List (Int × List (Int × Int))) : List Int := (shaftsF 1 n).filter fun c => !decide (c ∈ L.map (·.1))
def vl (ps : List (Int × Int)) (c : Int) : Int × Int := ps.getD c.toNat (0, 1)
/-- the motion of a free shaft -/
structure MotOk (n : Nat) (L : List (Int × List (Int × Int))) (f : Int) (ps : List (Int × Int)) : Prop where
  len : ps.length = n + 1
  fr : ∀ p ∈ ps, Fr p ∧ p.1.natAbs < 2 ^ 441 ∧ p.2.natAbs < 2 ^ 441
  z0 : vl ps 0 = (0, 1)
  one : vl ps f = (1, 1)
  off : ∀ g ∈ frees n L, g ≠ f → vl ps g = (0, 1)
  ld : ∀ e ∈ L, qv (vl ps e.1) = -(fnR e.2 (ind f)) / fnR e.2 (ind e.1)
end
end Zk

namespace Zk
open PySem PySem.Spec PyProof.Rows L2
section
variable {G : Gx} {ds : List Df} {m i i1 i2 i3 i4 i5 : Nat}
end
theorem Lin.two {n : Nat} {f : Fn} (h : Lin n f) {v : Int → Rat} {c d : Int} (hc : 1 ≤ c ∧ c ≤ n) (hd : 1 ≤ d ∧ d ≤ n) (cd : c ≠ d) (z : ∀ x : Int, 1 ≤ x → x ≤ n → x ≠ c → x ≠ d → f (ind x) * v x = 0) : f v = f (ind c) * v c + f (ind d) * v d := by
  have nd := shaftsF_nd 1 n
  rw [h v, ssum_at _ (shaft_mem.mpr hc), ssum_at _ ((List.mem_erase_of_ne (Ne.symm cd)).mpr (shaft_mem.mpr hd)), ssum_zero fun x hx => ?_]
  · grind
  · have h1 := List.mem_of_mem_erase hx
    have h2 := shaft_mem.mp (List.mem_of_mem_erase h1)
    refine z x h2.1 h2.2 (fun e => ?_) fun e => ?_
    · rw [e] at h1; exact (List.Nodup.not_mem_erase nd) h1
    · rw [e] at hx; exact (List.Nodup.not_mem_erase (nd.erase c)) hx
section
variable {G : Gx} {ds : List Df} {m i i1 i2 i3 i4 i5 : Nat}
end
end Zk

namespace Zk
open PySem PySem.Spec PyProof.Rows L2
section
variable {G : Gx} {ds : List Df} {m i i1 i2 i3 i4 i5 : Nat}
def axg (a : Int) (c : Int) : Int := if c = a then 1 else 0
theorem axg_fn {n : Nat} {a : Int} (h : 1 ≤ a ∧ a ≤ (n : Int)) (v : Int → Rat) : fnG n (axg a) v = v a := by
  unfold fnG
  rw [ssum_at _ (shaft_mem.mpr h), ssum_zero fun c hc => ?_]
  · unfold axg
    rw [if_pos rfl]
    show (1 : Rat) * v a + 0 = v a
    grind
  · have : c ≠ a := fun e => by
      rw [e] at hc
      exact (List.Nodup.not_mem_erase (shaftsF_nd 1 n)) hc
    unfold axg
    rw [if_neg this]
    show (0 : Rat) * _ = 0
    grind
end
end Zk

namespace Zk
open PySem PySem.Spec PyProof.Rows L2
/-- what stands where a box with its ratios and locks is asked -/
structure AtB (j c2 c3 n : Nat) (js : List Job) (cogs bolts : List (Int × Int)) (s : Sto) : Prop where
  jar : JarOk s j
  n1 : 1 ≤ n
  n8 : n ≤ 8
  h : HeldIn n js cogs bolts
  jl : js.length ≤ 6
  bl : bolts.length ≤ 8
  e2 : s[c2]? = some (true, .lst (cogs.map pw))
  e3 : s[c3]? = some (true, .lst (bolts.map pw))
  n2 : c2 ≠ j
  n3 : c3 ≠ j
theorem AtB.aft {j c2 c3 n : Nat} {js : List Job} {cogs bolts : List (Int × Int)} {s s' : Sto} (h : AtB j c2 c3 n js cogs bolts s) (x : Aft j s s') (hj : JarOk s' j) : AtB j c2 c3 n js cogs bolts s' :=
  ⟨hj, h.n1, h.n8, h.h, h.jl, h.bl, x.at h.e2 h.n2, x.at h.e3 h.n3, h.n2, h.n3⟩
theorem AtB.ext {j c2 c3 n : Nat} {js : List Job} {cogs bolts : List (Int × Int)} {s s' : Sto} (h : AtB j c2 c3 n js cogs bolts s) (x : Ext s s') : AtB j c2 c3 n js cogs bolts s' := h.aft x.aft (x.jar h.jar)
end Zk

namespace Zk
open PySem PySem.Spec PyProof.Rows L2
section
variable {G : Gx} {ds : List Df} {m i i1 i2 i3 i4 i5 i6 i7 i8 e : Nat}
end
end Zk

namespace Zk
open PySem PySem.Spec PyProof.Rows L2
theorem Lin.zero {n : Nat} {f : Fn} (h : Lin n f) : f (fun _ => 0) = 0 := by
  rw [h]
  exact ssum_zero fun _ _ => by grind
theorem Lin.add {n : Nat} {f : Fn} (h : Lin n f) (x : Rat) (a b : Int → Rat) : f (fun c => a c * x + b c) = f a * x + f b := by
  rw [h, h a, h b]
  have e3 : ssum (shaftsF 1 n) (fun c => f (ind c) * (a c * x + b c)) = ssum (shaftsF 1 n) fun c => f (ind c) * b c - -x * (f (ind c) * a c) := ssum_congr fun c _ => by grind
  rw [e3, ssum_lin]; grind
/-- motions of the free shafts, one a shaft -/
structure Motn (n : Nat) (L : List (Int × List (Int × Int))) (fs : List Int) (pss : List (List (Int × Int))) : Prop where
  len : pss.length = fs.length
  ok : ∀ k, ∀ h : k < pss.length, ∀ h' : k < fs.length, MotOk n L fs[k] pss[k]
  sub : ∀ f ∈ fs, f ∈ frees n L
  nd : fs.Nodup
theorem Motn.mem {n : Nat} {L : List (Int × List (Int × Int))} {fs : List Int} {pss : List (List (Int × Int))} (h : Motn n L fs pss) {ps : List (Int × Int)} (hp : ps ∈ pss) : ∃ f ∈ fs, MotOk n L f ps := by
  obtain ⟨k, hk, rfl⟩ := List.getElem_of_mem hp
  have hk' : k < fs.length := by rw [← h.len]; exact hk
  exact ⟨fs[k], List.getElem_mem hk', h.ok k hk hk'⟩
theorem Lin.comb {n : Nat} {f g : Fn} (hf : Lin n f) (hg : Lin n g) (x : Rat) : Lin n (fun u => x * f u + g u) := fun v => by
  show x * f v + g v = ssum (shaftsF 1 n) fun c => (x * f (ind c) + g (ind c)) * v c
  rw [hf v, hg v]
  have e : ssum (shaftsF 1 n) (fun c => (x * f (ind c) + g (ind c)) * v c) = ssum (shaftsF 1 n) fun c => g (ind c) * v c - -x * (f (ind c) * v c) := ssum_congr fun c _ => by grind
  rw [e, ssum_lin]; grind
theorem Lin.at {n : Nat} {c : Int} (hc : 1 ≤ c ∧ c ≤ (n : Int)) : Lin n (fun u => u c) := by
  have : (fun u : Int → Rat => u c) = fnG n (axg c) := funext fun u => (axg_fn hc u).symm
  rw [this]; exact fnG_lin _ _
theorem Lin.non {n : Nat} : Lin n (fun _ => 0) := fun v => by
  show (0 : Rat) = ssum (shaftsF 1 n) fun c => 0 * v c
  rw [ssum_zero fun _ _ => by grind]
section
variable {G : Gx} {ds : List Df} {m i i1 i2 i3 i4 i5 i6 i7 i8 e : Nat}
end
end Zk

namespace Zk
open PySem PySem.Spec PyProof.Rows L2
/-! ### boxes drawn with a bound on their shafts; boxes side by side -/
section
variable {G : Gx} {ds : List Df} {m i i1 i2 i3 i4 i5 : Nat}
/-- raised:  -/
def B_raised : Sm :=
      (.cons (.ret (.bin .add false (.sl false (.var 0) .no (.int 1)) (.bi .tup false (.cons (.lc false [("shaft", 2)] (.one 2) (.sl false (.var 0) (.int 1) .no) .nil (.ite (.cmp .gt (.var 2) (.int 0)) (.bin .add false (.var 2) (.var 1)) (.int 0))) .nil))))
      .nil)
/-! one list behind another: shafts raised -/
def upx (b : Nat) (x : Int) : Int := if x > 0 then x + b else 0
def Job.up (b : Nat) (o : Job) : Job := ⟨o.k, o.ax.map (upx b)⟩
theorem JobOk.up {n b : Nat} {o : Job} (ho : JobOk n o) : JobOk (b + n) (o.up b) := by
  refine ⟨?_, ?_⟩
  · show (o.ax.map (upx b)).Nodup
    refine List.pairwise_map.mpr ((List.Pairwise.and_mem.mp ho.nd).imp fun {x y} h e => ?_)
    obtain ⟨hx, hy, ne⟩ := h
    have h1 := ho.ax hx
    have h2 := ho.ax hy
    unfold upx at e
    by_cases z1 : x > 0
    · by_cases z2 : y > 0
      · rw [if_pos z1, if_pos z2] at e; exact ne (by omega)
      · rw [if_pos z1, if_neg z2] at e; omega
    · by_cases z2 : y > 0
      · rw [if_neg z1, if_pos z2] at e; omega
      · exact ne (by omega)
  · rcases ho.sh with ⟨h1, h2, h3⟩ | ⟨h1, h2, h3, h4⟩
    · refine .inl ⟨h1, by show (o.ax.map (upx b)).length = 3; rw [List.length_map, h2], fun x hx => ?_⟩
      obtain ⟨y, hy, rfl⟩ := List.mem_map.mp hx
      have := h3 y hy
      unfold upx
      split <;> omega
    · refine .inr ⟨h1, h2, by show (o.ax.map (upx b)).length = 2; rw [List.length_map, h3], fun x hx => ?_⟩
      obtain ⟨y, hy, rfl⟩ := List.mem_map.mp hx
      have := h4 y hy
      unfold upx
      split <;> omega
theorem JobOk.more {n b : Nat} {o : Job} (ho : JobOk n o) : JobOk (n + b) o := by
  refine ⟨ho.nd, ?_⟩
  rcases ho.sh with ⟨h1, h2, h3⟩ | ⟨h1, h2, h3, h4⟩
  · exact .inl ⟨h1, h2, fun x hx => by have := h3 x hx; omega⟩
  · exact .inr ⟨h1, h2, h3, fun x hx => by have := h4 x hx; omega⟩
def RaisedSp (C : Calls) (i : Nat) : Prop := ∀ (n b : Nat) (o : Job) (st : Sto) (X : XPo) (Q : Po), JobOk n o → n ≤ 100 → b ≤ 100 → Q (o.up b).w st → C i [o.w, .int b] st X Q
theorem raised_ok (h : Is ds i 3 2 B_raised) : RaisedSp (callW G ds (m + 1)) i := fun n b o st X Q ho hn hb k => by
  refine call_by h rfl ?_
  simp only [B_raised, wpS, wpE]
  have hax : o.ax.length ≤ 3 := by rcases ho.cases with ⟨_, a, b, c, ea⟩ | ⟨_, a, b, ea⟩ <;> rw [ea] <;> simp
  have ct : cutX (W.str (wordOf o.k) :: o.ax.map W.int) none (some 1) = [W.str (wordOf o.k)] := cut_to _ (k := 1) (by simp)
  refine ⟨_, rfl, none, rfl, some 1, ⟨_, rfl, rfl⟩, .inr (.inr (.inl ⟨_, rfl, ?_⟩))⟩
  rw [ct]
  refine ⟨_, rfl, some 1, ⟨_, rfl, rfl⟩, none, rfl, .inr (.inr (.inl ⟨_, rfl, ?_⟩))⟩
  rw [cut1]
  refine .inr (.inl ⟨_, rfl, by rw [List.length_map, sizeLine_eq]; omega, ?_⟩)
  refine lc_by (fun rem acc s => s = st ∧ ∃ (dn rm : List Int), rem = rm.map W.int ∧ acc = (dn.map (upx b)).map W.int ∧ o.ax = dn ++ rm) ?_ ?_ _ _ _ ⟨rfl, [], o.ax, rfl, rfl, rfl⟩
  · rintro w rem acc s ⟨rfl, dn, rm, hr, rfl, hax'⟩ P hP
    cases rm with
    | nil => cases hr
    | cons x rm =>
      cases hr
      simp only [tgP]
      have hx := ho.ax (x := x) (by rw [hax']; simp)
      refine .inl ⟨trivial, _, rfl, gtI ⟨_, rfl, fun z => ?_, fun z => ?_⟩⟩
      · have z := of_decide_eq_true z
        refine ⟨_, rfl, _, rfl, addI (hP _ _ ⟨rfl, dn ++ [x], rm, rfl, ?_, by rw [hax']; simp⟩)⟩
        rw [List.map_append, List.map_append]
        show _ = _ ++ [W.int (upx b x)]
        unfold upx
        rw [if_pos z]
      · have z := of_decide_eq_false z
        refine hP _ _ ⟨rfl, dn ++ [x], rm, rfl, ?_, by rw [hax']; simp⟩
        rw [List.map_append, List.map_append]
        show _ = _ ++ [W.int (upx b x)]
        unfold upx
        rw [if_neg z]
  · rintro acc s ⟨rfl, dn, rm, hr, rfl, hax'⟩
    have : rm = [] := by cases rm with | nil => rfl | cons => cases hr
    subst this
    rw [List.append_nil] at hax'
    subst hax'
    refine newF (by rw [List.length_map, List.length_map, sizeLine_eq]; omega) ?_
    refine ⟨_, rfl, _, rfl, _, _, rfl, .inl rfl, .inr (.inr (.inl ⟨_, _, rfl, rfl, ?_, k⟩))⟩
    rw [List.length_map, List.length_map, sizeLine_eq]; simp; omega
def AddBSp (A : Addr) (C : Calls) (i : Nat) : Prop := ∀ (n k : Nat) (js ks : List Job) (st : Sto) (X : XPo) (Q : Po), (∀ o ∈ js, JobOk n o) → (∀ o ∈ ks, JobOk k o) → js.length ≤ 60 → ks.length ≤ 60 → 1 ≤ n → n ≤ 50 → k ≤ 50 → (∀ s', Ext st s' → Q (boxV A (n + k) (js ++ ks.map (Job.up n))) s') → C i [boxV A n js, boxV A k ks] st X Q
end
end Zk

namespace Zk
open PySem PySem.Spec PyProof.Rows L2
theorem Lin.many {n : Nat} {τ : Int → Int} (a : Int → Rat) : ∀ {cols : List Int}, (∀ c ∈ cols, 1 ≤ τ c ∧ τ c ≤ (n : Int)) → Lin n (fun u => ssum cols fun c => a c * u (τ c))
  | [], _ => Lin.non
  | c :: cols, h => (Lin.at (h c (List.mem_cons_self ..))).comb (Lin.many a fun x hx => h x (List.mem_cons_of_mem _ hx)) (a c)
theorem Lin.sub {n k : Nat} {f : Fn} (h : Lin n f) {τ : Int → Int} (ht : ∀ c : Int, 1 ≤ c → c ≤ (n : Int) → 1 ≤ τ c ∧ τ c ≤ (k : Int)) : Lin k (fun u => f fun c => u (τ c)) := by
  have : (fun u : Int → Rat => f fun c => u (τ c)) = fun u => ssum (shaftsF 1 n) fun c => f (ind c) * u (τ c) := funext fun u => h _
  rw [this]
  exact Lin.many _ fun c hc => by
    have := shaft_mem.mp hc
    exact ht c this.1 this.2
section
variable {n k : Nat} {js ks : List Job} {cogs bolts teeth hooks B : List (Int × Int)} {us us1 us2 : List Fn} {L L1 L2 : List (Int × List (Int × Int))}
end
section
variable {n k : Nat} {js ks : List Job} {cogs bolts teeth hooks B : List (Int × Int)} {us us1 us2 : List Fn} {L L1 L2 : List (Int × List (Int × Int))} {pss pss1 pss2 : List (List (Int × Int))}
end
end Zk

namespace Zk
open PySem PySem.Spec PyProof.Rows L2
/-! ### where a box, its ratios and its locks stand while a law draws on -/
def LA (j : Nat) (s : Sto) (v : W) (l : List W) : Prop := v = .lst l ∨ ∃ c, v = .ref c ∧ s[c]? = some (true, .lst l) ∧ c ≠ j
theorem LA.at {j : Nat} {s : Sto} {v : W} {l : List W} (h : LA j s v l) : Zk.LstAt s v l := by
  rcases h with h | ⟨c, h, e, _⟩
  · exact .inl h
  · exact .inr ⟨c, h, e⟩
theorem LA.aft {j : Nat} {s s' : Sto} {v : W} {l : List W} (h : LA j s v l) (x : Aft j s s') : LA j s' v l := by
  rcases h with h | ⟨c, h, e, n⟩
  · exact .inl h
  · exact .inr ⟨c, h, x.at e n, n⟩
structure Ct (j n : Nat) (js : List Job) (cogs bolts : List (Int × Int)) (v1 v2 v3 : W) (s : Sto) : Prop where
  jar : JarOk s j
  n1 : 1 ≤ n
  n8 : n ≤ 8
  h : HeldIn n js cogs bolts
  jl : js.length ≤ 6
  bl : bolts.length ≤ 8
  a1 : LA j s v1 (js.map Job.w)
  a2 : LA j s v2 (cogs.map pw)
  a3 : LA j s v3 (bolts.map pw)
theorem Ct.aft {j n : Nat} {js : List Job} {cogs bolts : List (Int × Int)} {v1 v2 v3 : W} {s s' : Sto} (h : Ct j n js cogs bolts v1 v2 v3 s) (x : Aft j s s') (hj : JarOk s' j) : Ct j n js cogs bolts v1 v2 v3 s' :=
  ⟨hj, h.n1, h.n8, h.h, h.jl, h.bl, h.a1.aft x, h.a2.aft x, h.a3.aft x⟩
theorem Ct.ext {j n : Nat} {js : List Job} {cogs bolts : List (Int × Int)} {v1 v2 v3 : W} {s s' : Sto} (h : Ct j n js cogs bolts v1 v2 v3 s) (x : Ext s s') : Ct j n js cogs bolts v1 v2 v3 s' := h.aft x.aft (x.jar h.jar)
section
variable {G : Gx} {ds : List Df} {m i : Nat}
end
end Zk

namespace Zk
open PySem PySem.Spec PyProof.Rows L2
/-! ### determinants without fractions: each entry is a determinant, the division leaves nothing -/
section
variable {ι : Type}
/-- a row in another's place, up to what the rows behind span -/
theorem det_repl {A : List (ι → Rat)} {u v : ι → Rat} (a : Rat) (h : Span A fun c => v c - a * u c) (cs : List ι) : det (v :: A) cs = a * det (u :: A) cs := by
  have e : v = fun c => a * u c + (v c - a * u c) := by funext c; grind
  have z := det_span h cs
  show wdg v cs (det A) = a * wdg u cs (det A)
  have z : wdg (fun c => v c - a * u c) cs (det A) = 0 := z
  rw [e, wdg_row]
  have : (fun c => v c - a * u c) = fun c => (a * u c + (v c - a * u c)) - a * u c := by funext c; grind
  rw [z]; grind
/-- what is left of a row -/
def lft (A : List (ι → Rat)) (C : List ι) (u : ι → Rat) (c : ι) : Rat := det (u :: A) (c :: C)
theorem lft_span (A : List (ι → Rat)) (C : List ι) (u : ι → Rat) : Span A fun c => lft A C u c - det A C * u c := by
  have h := Span.lin (-1) (span_wdg (us := A) u C (fun j x => det A (j :: x)) fun z => span_det A [] z) .zero
  have e : (fun c => -1 * wdg u C (fun x => det A (c :: x)) + (0 : Rat)) = fun c => lft A C u c - det A C * u c := by
    funext c
    show _ = (u c * det A C - wdg u C fun x => det A (c :: x)) - det A C * u c
    grind
  rwa [e] at h
theorem lft_zero (A : List (ι → Rat)) {C : List ι} (u : ι → Rat) {c : ι} (h : c ∈ C) : lft A C u c = 0 := by
  obtain ⟨y, z, rfl⟩ := List.append_of_mem h
  exact det_two (u :: A) c y [] z
/-- the same where the rows vanish there but for what the leads span -/
theorem det_few2 {A : List (ι → Rat)} {S : ι → Bool} {d : Rat} (hd : d ≠ 0) : ∀ (P : List (ι → Rat)) (cs : List ι), (∀ p ∈ P, ∃ q : ι → Rat, (Span A fun c => q c - d * p c) ∧ ∀ c, S c = true → q c = 0) → A.length < (cs.filter S).length → det (P ++ A) cs = 0
  | [], cs, _, h => det_len _ _ (by have := List.length_filter_le S cs; simp only [List.nil_append]; omega)
  | p :: P, cs, hp, h => by
    obtain ⟨q, hq, qz⟩ := hp p (List.mem_cons_self ..)
    have sp : Span (P ++ A) fun c => q c - d * p c := hq.mono fun u hu => .mem (List.mem_append_right _ hu)
    have e := det_repl d sp cs
    have z : det (q :: (P ++ A)) cs = 0 := by
      have key : ∀ (x y : List ι), A.length < ((x ++ y).filter S).length → wdg q y (fun z => det (P ++ A) (x ++ z)) = 0 := by
        intro x y
        induction y generalizing x with
        | nil => intros; rfl
        | cons c y ih =>
          intro hl
          have e2 : (fun z => det (P ++ A) (x ++ c :: z)) = fun z => det (P ++ A) ((x ++ [c]) ++ z) := by funext z; rw [List.append_assoc]; rfl
          show q c * det (P ++ A) (x ++ y) - wdg q y (fun z => det (P ++ A) (x ++ c :: z)) = 0
          rw [e2, ih (x ++ [c]) (by rw [List.append_assoc]; exact hl)]
          by_cases s : S c = true
          · rw [qz c s]; grind
          · have : det (P ++ A) (x ++ y) = 0 := det_few2 hd P (x ++ y) (fun u hu => hp u (List.mem_cons_of_mem _ hu)) (by
                have : ((x ++ c :: y).filter S).length = ((x ++ y).filter S).length := by
                  simp [List.filter_append, List.filter_cons, s]
                omega)
            rw [this]; grind
      exact key [] cs h
    rw [z] at e
    show det (p :: (P ++ A)) cs = 0
    grind
end
/-! ### the loop of determinant -/
def rf (r : List Int) (c : Int) : Rat := ((r.getD c.toNat 0 : Int) : Rat)
def cl : Nat → List Int
  | 0 => []
  | s + 1 => (s : Int) :: cl s
def ar (Q : List (List Int)) (s : Nat) : List (Int → Rat) := ((Q.take s).map rf).reverse
theorem cl_mem {s : Nat} {c : Int} : c ∈ cl s ↔ 0 ≤ c ∧ c < (s : Int) := by
  induction s with
  | zero => simp [cl]
  | succ s ih =>
    rw [cl, List.mem_cons, ih]
    omega
/-- where the loop stands: the rows' order Q, the sign, the lead so far -/
structure Bar (R Q T : List (List Int)) (s : Nat) (sg be : Int) : Prop where
  len : Q.length = R.length
  sq : ∀ r ∈ Q, r.length = R.length
  mem : ∀ r ∈ Q, r ∈ R
  tl : T.length = R.length
  tq : ∀ r ∈ T, r.length = R.length
  sg1 : sg = 1 ∨ sg = -1
  dt : det (ar Q R.length) (cl R.length) = (sg : Rat) * det (ar R R.length) (cl R.length)
  be0 : ((be : Int) : Rat) = det (ar Q s) (cl s)
  nz : be ≠ 0
  row : ∀ i, s ≤ i → ∀ h : i < T.length, ∀ h' : i < Q.length, ∀ c : Int, 0 ≤ c → c < (R.length : Int) → rf T[i] c = lft (ar Q s) (cl s) (rf Q[i]) c
theorem ar_len {Q : List (List Int)} {s : Nat} (h : s ≤ Q.length) : (ar Q s).length = s := by
  unfold ar
  rw [List.length_reverse, List.length_map, List.length_take]; omega
theorem ar_split {Q : List (List Int)} (s : Nat) : ar Q Q.length = ((Q.drop s).map rf).reverse ++ ar Q s := by
  unfold ar
  rw [List.take_length]
  conv => lhs; rw [← List.take_append_drop s Q, List.map_append, List.reverse_append]
theorem cl_filter : ∀ (n k : Nat), k ≤ n → ((cl n).filter fun c => decide (c < (k : Int))).length = k
  | 0, k, h => by
    have : k = 0 := by omega
    subst this; rfl
  | n + 1, k, h => by
    by_cases z : k = n + 1
    · subst z
      have ih := cl_filter n n (Nat.le_refl _)
      have e : ∀ m k : Nat, m ≤ k → (cl m).filter (fun c => decide (c < (k : Int))) = cl m := fun m k hm => List.filter_eq_self.mpr fun c hc => by
        have := cl_mem.mp hc
        exact decide_eq_true (by omega)
      have l : ∀ m : Nat, (cl m).length = m := fun m => by
        induction m with
        | zero => rfl
        | succ m ih => rw [cl, List.length_cons, ih]
      rw [e _ _ (Nat.le_refl _), l]
    · have ih := cl_filter n k (by omega)
      rw [cl, List.filter_cons, if_neg (by simp; omega)]
      exact ih
theorem Bar.none {R Q T : List (List Int)} {s : Nat} {sg be : Int} (b : Bar R Q T s sg be) (hs : s < R.length) (hz : ∀ i, s ≤ i → ∀ h : i < T.length, rf T[i] (s : Int) = 0) : det (ar R R.length) (cl R.length) = 0 := by
  have hl := b.len
  have tl := b.tl
  have d0 : det (ar Q s) (cl s) ≠ 0 := by rw [← b.be0]; exact cast0 b.nz
  have z : det (ar Q Q.length) (cl R.length) = 0 := by
    rw [ar_split s]
    refine det_few2 (A := ar Q s) (S := fun c => decide (c < ((s + 1 : Nat) : Int)) && decide (0 ≤ c)) d0 _ _ (fun p hp => ?_) ?_
    · rw [List.mem_reverse] at hp
      obtain ⟨r, hr, rfl⟩ := List.mem_map.mp hp
      obtain ⟨k, hk, rfl⟩ := List.getElem_of_mem hr
      rw [List.length_drop] at hk
      refine ⟨lft (ar Q s) (cl s) (rf (Q.drop s)[k]), lft_span _ _ _, fun c hc => ?_⟩
      rw [Bool.and_eq_true] at hc
      have c1 := of_decide_eq_true hc.1
      have c0 := of_decide_eq_true hc.2
      have e : (Q.drop s)[k]'(by rw [List.length_drop]; exact hk) = Q[s + k]'(by omega) := List.getElem_drop
      rw [e]
      by_cases y : c = (s : Int)
      · rw [y, ← b.row (s + k) (by omega) (by omega) (by omega) (s : Int) (by omega) (by omega)]
        exact hz (s + k) (by omega) (by omega)
      · exact lft_zero _ _ (cl_mem.mpr ⟨c0, by omega⟩)
    · rw [ar_len (by omega)]
      have h1 := cl_filter R.length (s + 1) (by omega)
      have e : (cl R.length).filter (fun c => decide (c < ((s + 1 : Nat) : Int)) && decide (0 ≤ c)) = (cl R.length).filter fun c => decide (c < ((s + 1 : Nat) : Int)) := List.filter_congr fun c hc => by
        have := cl_mem.mp hc
        rw [decide_eq_true this.1, Bool.and_true]
      rw [e, h1]; omega
  have h := b.dt
  rw [hl] at z
  rw [z] at h
  rcases b.sg1 with e | e <;> rw [e] at h
  · have : ((1 : Int) : Rat) = 1 := rfl
    rw [this] at h; grind
  · have : ((-1 : Int) : Rat) = -1 := rfl
    rw [this] at h; grind
end Zk

namespace Zk
open PySem PySem.Spec PyProof.Rows L2
-- law_entries: is B_law_entries
section
variable {G : Gx} {ds : List Df} {m i i1 i2 i3 : Nat}
end
end Zk

namespace Zk
open PySem PySem.Spec PyProof.Rows L2
/-! ### rows of differences, whole -/
section
variable {G : Gx} {ds : List Df} {m i i1 i2 i3 : Nat}
end
end Zk

namespace Zk
open PySem PySem.Spec PyProof.Rows L2
/-! ### a web's determinant is 1 or -1 for a tree, else 0 -/
section
variable {ι : Type}
end
end Zk

namespace Zk
open PySem PySem.Spec PyProof.Rows L2
def sm : Nat → (Nat → Rat) → Rat
  | 0, _ => 0
  | n + 1, f => sm n f + f n
end Zk

namespace Zk
open PySem PySem.Spec PyProof.Rows L2
/-! ### _law_square -/
section
variable {G : Gx} {ds : List Df} {m i i1 i2 i3 : Nat}
structure SDict (w : Nat) (T : List (Int × Int)) : Prop where
  nd : (T.map (·.1)).Nodup
  rg : ∀ e ∈ T, 0 ≤ e.1 ∧ e.1 < 2 ^ w
theorem SDict.len {w : Nat} {T : List (Int × Int)} (h : SDict w T) (hw : w ≤ 8) : T.length ≤ 256 := by
  have p8 : (2 : Nat) ^ w ≤ 2 ^ 8 := Nat.pow_le_pow_right (by omega) hw
  have := nodup_le (2 ^ w) (T.map (·.1)) h.nd fun x hx => by
    obtain ⟨e, he, rfl⟩ := List.mem_map.mp hx
    have := h.rg e he
    simpa using this
  rw [List.length_map] at this
  omega
/-- a dict that is read -/
def DAt (s : Sto) (v : W) (T : List (Int × Int)) : Prop := v = .dct (iW T) ∨ ∃ n b, v = .ref n ∧ s[n]? = some (b, .dct (iW T))
theorem DAt.frz {s : Sto} {v : W} {T : List (Int × Int)} {Q : List (Key × W) → Sto → Prop} {b0 c : Nat} (h : DAt s v T) (hb : ∀ n, v = .ref n → b0 ≤ n ∧ n ≠ c) (hl : b0 ≤ s.length) (k : ∀ s', s'.length = s.length → (∀ i, i < b0 → s'[i]? = s[i]?) → s'[c]? = s[c]? → Q (iW T) s') : frzD v s Q := by
  rcases h with rfl | ⟨n, b, rfl, e⟩
  · exact .inl ⟨_, rfl, k s rfl (fun _ _ => rfl) rfl⟩
  · obtain ⟨h1, h2⟩ := hb n rfl
    exact .inr ⟨n, _, b, rfl, e, k _ (List.length_set ..) (fun i hi => List.getElem?_set_ne (by omega)) (List.getElem?_set_ne h2)⟩
end
end Zk

namespace Zk
open PySem PySem.Spec PyProof.Rows L2
/-! ### webs in lists that may change -/
section
variable {G : Gx} {ds : List Df} {m i i0 i1 i2 i3 i4 i5 i6 i8 i9 iN j : Nat}
end
end Zk

namespace Zk
open PySem PySem.Spec PyProof.Rows L2
/-! ### products of rows: their determinant is a sum over sets of rows -/
section
variable {ι κ : Type}
end
end Zk

namespace Zk
open PySem PySem.Spec PyProof.Rows L2
/-! groups -/
section
variable {n : Nat} {ps qs : List (Int × Int)}
theorem rch_more_iff {p : Int × Int} {u v : Int} : Rch (qs ++ [p]) u v ↔ Rch qs u v ∨ (Rch qs u p.1 ∧ Rch qs p.2 v) ∨ (Rch qs u p.2 ∧ Rch qs p.1 v) := by
  have up : ∀ {a b : Int}, Rch qs a b → Rch (qs ++ [p]) a b := fun h => h.up fun q hq => List.mem_append_left _ hq
  have e : (p.1, p.2) ∈ qs ++ [p] := by simp
  constructor
  · intro h
    exact Rch.more (ps := qs) (x := p.1) (y := p.2) h
  · rintro (h | ⟨h1, h2⟩ | ⟨h1, h2⟩)
    · exact up h
    · exact ((up h1).step (.inl e)).trans (up h2)
    · exact ((up h1).step (.inr e)).trans (up h2)
def lab (gs : List Int) (v : Int) : Int := gs.getD v.toNat 0
def joinF (gs : List Int) (p : Int × Int) : List Int := gs.map fun g => if g = lab gs p.2 then lab gs p.1 else g
theorem lab_join {gs : List Int} {p : Int × Int} {v : Int} (h : v.toNat < gs.length) : lab (joinF gs p) v = if lab gs v = lab gs p.2 then lab gs p.1 else lab gs v := by
  have e : lab gs v = gs[v.toNat] := by unfold lab; rw [List.getD_eq_getElem?_getD, List.getElem?_eq_getElem h]; rfl
  rw [e]
  have e2 : lab (joinF gs p) v = (fun g => if g = lab gs p.2 then lab gs p.1 else g) gs[v.toNat] := by
    unfold joinF
    show ((gs.map fun g => if g = lab gs p.2 then lab gs p.1 else g).getD v.toNat 0) = _
    rw [List.getD_eq_getElem?_getD, List.getElem?_map, List.getElem?_eq_getElem h]; rfl
  exact e2
structure LabOk (n : Nat) (qs : List (Int × Int)) (gs : List Int) : Prop where
  len : gs.length = n + 1
  iff : ∀ u v : Int, 0 ≤ u → u ≤ n → 0 ≤ v → v ≤ n → (lab gs u = lab gs v ↔ Rch qs u v)
theorem LabOk.join {gs : List Int} (h : LabOk n qs gs) {p : Int × Int} (pr : Pr n p) : LabOk n (qs ++ [p]) (joinF gs p) := by
  refine ⟨by unfold joinF; rw [List.length_map]; exact h.len, fun u v a b c d => ?_⟩
  rw [lab_join (by rw [h.len]; omega), lab_join (by rw [h.len]; omega), rch_more_iff, ← h.iff u v a b c d, ← h.iff u p.1 a b pr.1 pr.2.1, ← h.iff p.2 v pr.2.2.1 pr.2.2.2.1 c d, ← h.iff u p.2 a b pr.2.2.1 pr.2.2.2.1, ← h.iff p.1 v pr.1 pr.2.1 c d]
  split <;> split <;> omega
def stt (S : List Int) : Nat := match S.getLast? with
  | none => 0
  | some x => x.toNat + 1
structure Inc (m : Nat) (S : List Int) : Prop where
  up : S.Pairwise (· < ·)
  rg : ∀ x ∈ S, 0 ≤ x ∧ x < m
theorem Inc.stt {m : Nat} {S : List Int} (h : Inc m S) : ∀ x ∈ S, x < (Zk.stt S : Int) := by
  intro x hx
  unfold Zk.stt
  cases e : S.getLast? with
  | none => rw [List.getLast?_eq_none_iff.mp e] at hx; cases hx
  | some y =>
    obtain ⟨T, rfl⟩ := List.getLast?_eq_some_iff.mp e
    have y0 := (h.rg y (by simp)).1
    rcases List.mem_append.mp hx with hx | hx
    · have := (List.pairwise_append.mp h.up).2.2 x hx y (by simp)
      show x < ((y.toNat + 1 : Nat) : Int)
      omega
    · rw [List.mem_singleton.mp hx]
      show y < ((y.toNat + 1 : Nat) : Int)
      omega
theorem Inc.add {m : Nat} {S : List Int} (h : Inc m S) {k : Nat} (h1 : Zk.stt S ≤ k) (h2 : k < m) : Inc m (S ++ [(k : Int)]) := by
  refine ⟨List.pairwise_append.mpr ⟨h.up, by simp, fun a ha b hb => ?_⟩, fun x hx => ?_⟩
  · rw [List.mem_singleton.mp hb]
    have := h.stt a ha
    omega
  · rcases List.mem_append.mp hx with hx | hx
    · exact h.rg x hx
    · rw [List.mem_singleton.mp hx]; omega
theorem Inc.le {m : Nat} {S : List Int} (h : Inc m S) : Zk.stt S ≤ m := by
  unfold Zk.stt
  cases e : S.getLast? with
  | none => exact Nat.zero_le _
  | some y =>
    have := h.rg y (List.mem_of_getLast? e)
    show y.toNat + 1 ≤ m
    omega
end
end Zk

namespace Zk
open PySem PySem.Spec PyProof.Rows L2
/-! ### all sets; how many trees there are -/
section
variable {n : Nat} {ps : List (Int × Int)}
theorem Inc.of {j : Nat} {T : List Int} (h : Inc j T) : Inc (j + 1) (T ++ [(j : Int)]) := by
  refine ⟨List.pairwise_append.mpr ⟨h.up, by simp, fun a ha b hb => ?_⟩, fun x hx => ?_⟩
  · rw [List.mem_singleton.mp hb]
    exact (h.rg a ha).2
  · rcases List.mem_append.mp hx with hx | hx
    · have := h.rg x hx; omega
    · rw [List.mem_singleton.mp hx]; omega
theorem Inc.len {m : Nat} {S : List Int} (h : Inc m S) : S.length ≤ m := nodup_le m S (h.up.imp fun {a b} ab e => by omega) h.rg
end
end Zk

namespace Zk
open PySem PySem.Spec PyProof.Rows L2
section
variable {G : Gx} {ds : List Df} {m i i1 i2 i3 : Nat}
end
end Zk

namespace Zk
open PySem PySem.Spec PyProof.Rows L2
section
variable {G : Gx} {ds : List Df} {m i i1 i2 i3 : Nat}
end
end Zk

namespace Zk
open PySem PySem.Spec PyProof.Rows L2
/-! ### odd values; a box held against anything -/
/-- law_some_number: cal 14 -/
def B_law_some_number (a0 : Nat) : Sm :=
      (.cons (.set 1 (.lst false (.cons (.int 3) (.cons (.int 10) (.cons (.int 1000) (.cons (.bin .pow false (.int 10) (.int 12)) (.cons (.bin .pow false (.int 10) (.int 40)) .nil)))))))
      (.cons (.set 2 (.cal a0 (.cons (.var 0) (.cons (.ix (.var 1) (.cal a0 (.cons (.var 0) (.cons (.int 5) .nil)))) .nil))))
      (.cons (.ife (.cmp .eq (.cal a0 (.cons (.var 0) (.cons (.int 2) .nil))) (.int 1)) (.cons (.ret (.bin .sub false (.int 0) (.var 2)))
      .nil) .nil)
      (.cons (.ret (.var 2))
      .nil))))

/-- law_string: cal 14 -/
def B_law_string (a0 : Nat) : Sm :=
      (.cons (.set 1 (.str "abcdefghijklmnopqrstuvwxyz 0123456789-:.,;ABCDEFGHIJKLMNOPQRSTUVWXYZ(){}[]!?#$&'*+/<=>@^_~"))
      (.cons (.ret (.mt .join (.str "") (.cons (.lc false [("turn", 2)] (.one 2) (.rg1 (.cal a0 (.cons (.var 0) (.cons (.int 9) .nil)))) .nil (.ix (.var 1) (.cal a0 (.cons (.var 0) (.cons (.bi .len false (.cons (.var 1) .nil)) .nil))))) .nil)))
      .nil))

/-- law_odd: cal 14, cal 18, cal 17, cal 16 -/
def B_law_odd (a0 : Nat) (a1 : Nat) (a2 : Nat) (a3 : Nat) : Sm :=
      (.cons (.set 2 (.cal a0 (.cons (.var 0) (.cons (.int 11) .nil))))
      (.cons (.ife (.an (.cmp .gt (.var 1) (.int 0)) (.cmp .lt (.var 2) (.int 3))) (.cons (.set 3 (.lc false [("turn", 5)] (.one 5) (.rg1 (.cal a0 (.cons (.var 0) (.cons (.int 4) .nil)))) .nil (.cal a1 (.cons (.var 0) (.cons (.bin .sub false (.var 1) (.int 1)) .nil)))))
      (.cons (.ife (.cmp .eq (.var 2) (.int 0)) (.cons (.ret (.var 3))
      .nil) .nil)
      (.cons (.ret (.bi .tup false (.cons (.var 3) .nil)))
      .nil))) .nil)
      (.cons (.ife (.cmp .eq (.var 2) (.int 3)) (.cons (.ret .non)
      .nil) .nil)
      (.cons (.ife (.cmp .eq (.var 2) (.int 4)) (.cons (.ret (.cmp .eq (.cal a0 (.cons (.var 0) (.cons (.int 2) .nil))) (.int 1)))
      .nil) .nil)
      (.cons (.ife (.cmp .eq (.var 2) (.int 5)) (.cons (.ret (.ix (.lst false (.cons (.str "planet") (.cons (.str "double") (.cons (.str "pair") (.cons (.str "band") (.cons (.str "3-0") (.cons (.str "1/1") (.cons (.str "box") .nil)))))))) (.cal a0 (.cons (.var 0) (.cons (.int 7) .nil)))))
      .nil) .nil)
      (.cons (.ife (.cmp .eq (.var 2) (.int 6)) (.cons (.ret (.cal a2 (.cons (.var 0) .nil)))
      .nil) .nil)
      (.cons (.ife (.cmp .eq (.var 2) (.int 7)) (.cons (.ret (.excv 3))
      .nil) .nil)
      (.cons (.ife (.cmp .eq (.var 2) (.int 8)) (.cons (.set 4 (.cal a3 (.cons (.var 0) .nil)))
      (.cons (.frc (.one 5) (.rg1 (.cal a0 (.cons (.var 0) (.cons (.int 6) .nil)))) (.cons (.set 4 (.lst false (.cons (.var 4) .nil)))
      .nil))
      (.cons (.ret (.var 4))
      .nil))) .nil)
      (.cons (.ret (.cal a3 (.cons (.var 0) .nil)))
      .nil)))))))))

/-- what a law puts in the place of something right -/
inductive Odd (E : Addr) : W → Prop
  | non : Odd E .non
  | bl (b : Bool) : Odd E (.bl b)
  | int {i : Int} : i.natAbs < 2 ^ 150 → Odd E (.int i)
  | str {x : Str} : x.length ≤ 20 → Odd E (.str x)
  | exc : Odd E (.exc E)
  | lst {l : List W} : l.length ≤ 5 → (∀ w ∈ l, Odd E w) → Odd E (.lst l)
  | tup {l : List W} : l.length ≤ 5 → (∀ w ∈ l, Odd E w) → Odd E (.tup l)
section
variable {G : Gx} {ds : List Df} {m i i1 i2 i3 a1 : Nat}
def NumSp (C : Calls) (i : Nat) : Prop := ∀ (j : Nat) (st : Sto) (X : XPo) (Q : Po), JarOk st j → (∀ (r : Int) st', Aft j st st' → JarOk st' j → r.natAbs < 2 ^ 150 → Q (.int r) st') → C i [.ref j] st X Q
theorem number_ok (h : Is ds i 3 1 (B_law_some_number i1)) (T : TakeSp (callW G ds m) i1) : NumSp (callW G ds (m + 1)) i := fun j st X Q hj k => by
  refine call_by h rfl ?_
  simp only [B_law_some_number, wpS, wpE]
  refine powI ⟨by omega, by omega, by decide⟩ ?_
  refine powI ⟨by omega, by omega, by decide⟩ ?_
  refine ⟨_, rfl, _, rfl, _, rfl, _, rfl, _, rfl, _, rfl, newF (by rw [sizeLine_eq]; simp) ?_⟩
  refine ⟨_, rfl, _, rfl, _, rfl, _, rfl, _, rfl, _, rfl, T j 5 _ _ _ hj (by omega) (by omega) fun r s1 x1 j1 z0 z1 => ?_⟩
  have tp : ∃ q : Int, atI [W.int 3, W.int 10, W.int 1000, W.int (10 ^ (12 : Int).toNat), W.int (10 ^ (40 : Int).toNat)] r = some (.int q) ∧ 0 < q ∧ q ≤ 10000000000000000000000000000000000000000 := by
    have : r = 0 ∨ r = 1 ∨ r = 2 ∨ r = 3 ∨ r = 4 := by omega
    rcases this with rfl | rfl | rfl | rfl | rfl
    · exact ⟨3, rfl, by decide, by decide⟩
    · exact ⟨10, rfl, by decide, by decide⟩
    · exact ⟨1000, rfl, by decide, by decide⟩
    · exact ⟨10 ^ (12 : Int).toNat, rfl, by decide, by decide⟩
    · exact ⟨10 ^ (40 : Int).toNat, rfl, by decide, by decide⟩
  obtain ⟨q, hq, q0, q1⟩ := tp
  refine ixL rfl hq ⟨_, rfl, _, rfl, _, rfl, T j q s1 _ _ j1 q0 (by omega) fun v s2 x2 j2 y0 y1 => ?_⟩
  refine ⟨_, rfl, _, rfl, _, rfl, _, rfl, T j 2 s2 _ _ j2 (by omega) (by omega) fun u s3 x3 j3 _ _ => ?_⟩
  have aft := (x1.trans x2).trans x3
  refine eqI ⟨_, rfl, fun _ => ?_, fun _ => ?_⟩
  · exact ⟨_, rfl, subI (k _ _ aft j3 (by omega))⟩
  · exact ⟨_, rfl, k _ _ aft j3 (by omega)⟩
def StrSp (C : Calls) (i : Nat) : Prop := ∀ (j : Nat) (st : Sto) (X : XPo) (Q : Po), JarOk st j → (∀ (x : Str) st', Aft j st st' → JarOk st' j → x.length ≤ 20 → Q (.str x) st') → C i [.ref j] st X Q
theorem sum_ones : ∀ l : List Str, (∀ x ∈ l, x.length = 1) → (l.map (·.length)).sum = l.length
  | [], _ => rfl
  | x :: l, h => by rw [List.map_cons, List.sum_cons, sum_ones l fun y hy => h y (List.mem_cons_of_mem _ hy), h x (List.mem_cons_self ..), List.length_cons]; omega
theorem joinE_len (l : List Str) (hl : ∀ x ∈ l, x.length = 1) : (Txt.join ("" : Str) l).length = l.length := by
  have h0 : ((("" : String) : Str)).length = 0 := rfl
  have := size_glued ("" : Str) l
  rw [sum_ones l hl, h0, Nat.mul_zero, Nat.add_zero] at this
  exact this
theorem string_ok (h : Is ds i 3 1 (B_law_string i1)) (T : TakeSp (callW G ds m) i1) : StrSp (callW G ds (m + 1)) i := fun j st X Q hj k => by
  refine call_by h rfl ?_
  simp only [B_law_string, wpS, wpE]
  refine ⟨⟨_, rfl⟩, ?_⟩
  refine ⟨_, rfl, _, rfl, _, rfl, _, rfl, T j 9 _ _ _ hj (by omega) (by omega) fun r s1 x1 j1 z0 z1 => ?_⟩
  refine ⟨_, rfl, by omega, by omega, .inl ⟨_, rfl, by rw [List.length_map, List.length_range, sizeLine_eq]; omega, ?_⟩⟩
  refine lc_by (fun rem acc s => Aft j st s ∧ JarOk s j ∧ acc.length + rem.length = r.toNat ∧ ∃ xs : List Str, acc = xs.map W.str ∧ ∀ x ∈ xs, x.length = 1) ?_ ?_ _ _ _ ⟨x1, j1, by rw [List.length_map, List.length_range]; simp, [], rfl, fun x hx => by cases hx⟩
  · rintro w rem acc s ⟨x2, j2, hl, xs, rfl, hx⟩ P hP
    try simp only [tgP]
    refine .inl ⟨trivial, _, rfl, _, rfl, _, rfl, _, rfl, _, rfl, lenT (by decide +kernel) ⟨_, rfl, _, rfl, _, rfl, T j _ s _ _ j2 (by decide +kernel) (by decide +kernel) fun q s3 x3 j3 y0 y1 => ?_⟩⟩
    obtain ⟨a, rfl⟩ := Int.eq_ofNat_of_zero_le y0
    have al : a < ((("abcdefghijklmnopqrstuvwxyz 0123456789-:.,;ABCDEFGHIJKLMNOPQRSTUVWXYZ(){}[]!?#$&'*+/<=>@^_~" : String) : Str)).cps.toList.length := by
      have e : (((("abcdefghijklmnopqrstuvwxyz 0123456789-:.,;ABCDEFGHIJKLMNOPQRSTUVWXYZ(){}[]!?#$&'*+/<=>@^_~" : String) : Str)).length : Int) = ((((("abcdefghijklmnopqrstuvwxyz 0123456789-:.,;ABCDEFGHIJKLMNOPQRSTUVWXYZ(){}[]!?#$&'*+/<=>@^_~" : String) : Str)).cps.toList.length : Nat) : Int) := by rw [Array.length_toList]; rfl
      rw [e] at y1
      omega
    refine .inr ⟨_, _, _, rfl, rfl, by decide +kernel, atI_nat _ al, ?_⟩
    refine hP _ _ ⟨x2.trans x3, j3, by simp at hl ⊢; omega, xs ++ [_], by rw [List.map_append]; rfl, fun y hy => ?_⟩
    rcases List.mem_append.mp hy with hy | hy
    · exact hx y hy
    · rw [List.mem_singleton.mp hy]; rfl
  · rintro acc s ⟨x2, j2, hl, xs, rfl, hx⟩
    rw [List.length_map] at hl
    have xl : xs.length ≤ 9 := by simp at hl; omega
    refine newF (by rw [List.length_map, sizeLine_eq]; omega) ⟨_, rfl, _, rfl, ⟨_, _, _, xs, rfl, rfl, rfl, ?_, ?_, ?_⟩⟩
    · have : ∀ l : List Str, strsOf (l.map W.str) = some l := by
        intro l
        induction l with
        | nil => rfl
        | cons x l ih => rw [List.map_cons, strsOf, ih]; rfl
      exact this xs
    · have : ∀ l : List Str, (∀ x ∈ l, x.length = 1) → (l.map (·.length)).sum = l.length := by
        intro l
        induction l with
        | nil => intro _; rfl
        | cons x l ih => intro h; rw [List.map_cons, List.sum_cons, ih fun y hy => h y (List.mem_cons_of_mem _ hy), h x (List.mem_cons_self ..), List.length_cons]; omega
      rw [this xs hx]
      have h0 : ((("" : String) : Str)).length = 0 := rfl
      rw [h0]; omega
    · exact k _ _ x2 j2 (by rw [joinE_len xs hx]; omega)
def OddSp (E : Addr) (d : Nat) (C : Calls) (i : Nat) : Prop := ∀ (j : Nat) (st : Sto) (X : XPo) (Q : Po), JarOk st j → (∀ v st', Aft j st st' → JarOk st' j → Odd E v → Q v st') → C i [.ref j, .int d] st X Q
theorem oddStep {e d : Nat} (h : Is ds i 6 2 (B_law_odd i1 a1 i2 i3)) (he : e = 3) (hne : 3 < G.ne) (T : TakeSp (callW G ds m) i1) (S : StrSp (callW G ds m) i2) (N : NumSp (callW G ds m) i3) (R : d = 0 ∨ OddSp (G.e 3) (d - 1) (callW G ds m) a1) : OddSp (G.e 3) d (callW G ds (m + 1)) i := fun j st X Q hj k => by
  refine call_by h rfl ?_
  simp only [B_law_odd, wpS, wpE]
  refine ⟨_, rfl, _, rfl, _, rfl, _, rfl, T j 11 _ _ _ hj (by omega) (by omega) fun r s1 x1 j1 z0 z1 => ?_⟩
  have rest : ∀ (D : En), D.rt = Q → D.nx = (fun _ s => Q .non s) → wpS G (callW G ds m) (.cons (.ife (.cmp .eq (.var 2) (.int 3)) (.cons (.ret .non)
      .nil) .nil)
      (.cons (.ife (.cmp .eq (.var 2) (.int 4)) (.cons (.ret (.cmp .eq (.cal i1 (.cons (.var 0) (.cons (.int 2) .nil))) (.int 1)))
      .nil) .nil)
      (.cons (.ife (.cmp .eq (.var 2) (.int 5)) (.cons (.ret (.ix (.lst false (.cons (.str "planet") (.cons (.str "double") (.cons (.str "pair") (.cons (.str "band") (.cons (.str "3-0") (.cons (.str "1/1") (.cons (.str "box") .nil)))))))) (.cal i1 (.cons (.var 0) (.cons (.int 7) .nil)))))
      .nil) .nil)
      (.cons (.ife (.cmp .eq (.var 2) (.int 6)) (.cons (.ret (.cal i2 (.cons (.var 0) .nil)))
      .nil) .nil)
      (.cons (.ife (.cmp .eq (.var 2) (.int 7)) (.cons (.ret (.excv 3))
      .nil) .nil)
      (.cons (.ife (.cmp .eq (.var 2) (.int 8)) (.cons (.set 4 (.cal i3 (.cons (.var 0) .nil)))
      (.cons (.frc (.one 5) (.rg1 (.cal i1 (.cons (.var 0) (.cons (.int 6) .nil)))) (.cons (.set 4 (.lst false (.cons (.var 4) .nil)))
      .nil))
      (.cons (.ret (.var 4))
      .nil))) .nil)
      (.cons (.ret (.cal i3 (.cons (.var 0) .nil)))
      .nil))))))) [some (.ref j), some (.int d), some (.int r), none, none, none] s1 D := by
    intro D hD hN
    simp only [wpS, wpE]
    refine ⟨_, rfl, eqI ⟨_, rfl, fun _ => by rw [hD]; exact k _ _ x1 j1 .non, fun _ => ?_⟩⟩
    refine ⟨_, rfl, eqI ⟨_, rfl, fun _ => ?_, fun _ => ?_⟩⟩
    · refine ⟨_, rfl, _, rfl, _, rfl, _, rfl, T j 2 s1 _ _ j1 (by omega) (by omega) fun u s2 x2 j2 _ _ => eqI ?_⟩
      rw [hD]; exact k _ _ (x1.trans x2) j2 (.bl _)
    refine ⟨_, rfl, eqI ⟨_, rfl, fun _ => ?_, fun _ => ?_⟩⟩
    · refine ⟨_, rfl, _, rfl, _, rfl, _, rfl, _, rfl, _, rfl, _, rfl, _, rfl, newF (by rw [sizeLine_eq]; simp) ?_⟩
      refine ⟨_, rfl, _, rfl, _, rfl, _, rfl, T j 7 s1 _ _ j1 (by omega) (by omega) fun u s2 x2 j2 y0 y1 => ?_⟩
      have tp : ∃ x : Str, atI [W.str "planet", W.str "double", W.str "pair", W.str "band", W.str "3-0", W.str "1/1", W.str "box"] u = some (.str x) ∧ x.length ≤ 20 := by
        have : u = 0 ∨ u = 1 ∨ u = 2 ∨ u = 3 ∨ u = 4 ∨ u = 5 ∨ u = 6 := by omega
        rcases this with rfl | rfl | rfl | rfl | rfl | rfl | rfl <;> exact ⟨_, rfl, by decide +kernel⟩
      obtain ⟨x, hx, xl⟩ := tp
      refine ixL rfl hx ?_
      rw [hD]; exact k _ _ (x1.trans x2) j2 (.str xl)
    refine ⟨_, rfl, eqI ⟨_, rfl, fun _ => ?_, fun _ => ?_⟩⟩
    · refine ⟨_, rfl, _, rfl, _, rfl, S j s1 _ _ j1 fun x s2 x2 j2 xl => ?_⟩
      rw [hD]; exact k _ _ (x1.trans x2) j2 (.str (by omega))
    refine ⟨_, rfl, eqI ⟨_, rfl, fun _ => ⟨hne, by rw [hD]; exact k _ _ x1 j1 .exc⟩, fun _ => ?_⟩⟩
    refine ⟨_, rfl, eqI ⟨_, rfl, fun _ => ?_, fun _ => ?_⟩⟩
    · refine ⟨_, rfl, _, rfl, _, rfl, N j s1 _ _ j1 fun q s2 x2 j2 ql => ?_⟩
      refine ⟨_, rfl, _, rfl, _, rfl, _, rfl, T j 6 s2 _ _ j2 (by omega) (by omega) fun u s3 x3 j3 y0 y1 => ?_⟩
      refine ⟨_, rfl, by omega, by omega, .inl ⟨_, rfl, by rw [List.length_map, List.length_range]; omega, ?_⟩⟩
      refine for_by (fun rem env s => s = s3 ∧ ∃ (v : W) (o5 : Option W), Odd (G.e 3) v ∧ env = [some (.ref j), some (.int d), some (.int r), none, some v, o5]) ?_ ?_ _ _ _ ⟨rfl, _, _, .int ql, rfl⟩
      · rintro w rem env s ⟨rfl, v, o5, hv, rfl⟩ P hP
        try simp only [tgP]
        refine ⟨_, rfl, _, rfl, _, rfl, newF (by rw [sizeLine_eq]; simp) (hP _ _ ⟨rfl, _, _, .lst (by simp) fun w hw => ?_, rfl⟩)⟩
        rw [List.mem_singleton.mp hw]; exact hv
      · rintro env s ⟨rfl, v, o5, hv, rfl⟩
        refine ⟨_, rfl, ?_⟩
        rw [hD]; exact k _ _ ((x1.trans x2).trans x3) j3 hv
    · refine ⟨_, rfl, _, rfl, _, rfl, N j s1 _ _ j1 fun q s2 x2 j2 ql => ?_⟩
      rw [hD]; exact k _ _ (x1.trans x2) j2 (.int ql)
  simp only [wpS, wpE] at rest
  refine ⟨_, rfl, gtI ⟨_, rfl, fun z => ?_, fun z => ⟨_, rfl, (fun y => by rw [z] at y; cases y), fun _ => rest ⟨fun _ s => Q .non s, Q, fun _ _ => False, fun _ _ => False, fun x _ s => X x s⟩ rfl rfl⟩⟩⟩
  have z := of_decide_eq_true z
  refine ⟨_, rfl, ltI ⟨_, rfl, fun z2 => ?_, fun z2 => rest ⟨fun _ s => Q .non s, Q, fun _ _ => False, fun _ _ => False, fun x _ s => X x s⟩ rfl rfl⟩⟩
  rcases R with rfl | R
  · omega
  refine ⟨_, rfl, _, rfl, _, rfl, _, rfl, T j 4 s1 _ _ j1 (by omega) (by omega) fun u s2 x2 j2 y0 y1 => ?_⟩
  refine ⟨_, rfl, by omega, by omega, .inl ⟨_, rfl, by rw [List.length_map, List.length_range, sizeLine_eq]; omega, ?_⟩⟩
  refine lc_by (fun rem acc s => Aft j st s ∧ JarOk s j ∧ acc.length + rem.length = u.toNat ∧ ∀ w ∈ acc, Odd (G.e 3) w) ?_ ?_ _ _ _ ⟨x1.trans x2, j2, by rw [List.length_map, List.length_range]; simp, fun w hw => by cases hw⟩
  · rintro w rem acc s ⟨x3, j3, hl, ho⟩ P hP
    try simp only [tgP]
    refine .inl ⟨trivial, _, rfl, _, rfl, subI ⟨_, rfl, _, rfl, _, rfl, ?_⟩⟩
    have e : (d : Int) - 1 = ((d - 1 : Nat) : Int) := by omega
    rw [e]
    refine R j s _ _ j3 fun v s4 x4 j4 hv => hP _ _ ⟨x3.trans x4, j4, by simp at hl ⊢; omega, fun w hw => ?_⟩
    rcases List.mem_append.mp hw with hw | hw
    · exact ho w hw
    · rw [List.mem_singleton.mp hw]; exact hv
  · rintro acc s ⟨x3, j3, hl, ho⟩
    have al : acc.length ≤ 5 := by simp at hl; omega
    refine newF (by rw [sizeLine_eq]; omega) ⟨_, rfl, eqI ⟨_, rfl, fun _ => ?_, fun _ => ?_⟩⟩
    · exact ⟨_, rfl, k _ _ x3 j3 (.lst al ho)⟩
    · exact ⟨_, rfl, _, rfl, _, rfl, ⟨_, acc, rfl, .inl rfl, k _ _ x3 j3 (.tup al ho)⟩⟩
/-- what no box is -/
def NoBox (G : Gx) (v : W) : Prop := v = .non ∨ (∃ b, v = .bl b) ∨ (∃ i, v = .int i) ∨ (∃ x, v = .str x) ∨ (∃ l, v = .lst l) ∨ (∃ l, v = .tup l) ∨ ∃ i, i < G.ne ∧ v = .exc (G.e i)
theorem Odd.no {v : W} (h : Odd (G.e 3) v) (hne : 3 < G.ne) : NoBox G v := by
  cases h with
  | non => exact .inl rfl
  | bl b => exact .inr (.inl ⟨_, rfl⟩)
  | int _ => exact .inr (.inr (.inl ⟨_, rfl⟩))
  | str _ => exact .inr (.inr (.inr (.inl ⟨_, rfl⟩)))
  | exc => exact .inr (.inr (.inr (.inr (.inr (.inr ⟨3, hne, rfl⟩)))))
  | lst _ _ => exact .inr (.inr (.inr (.inr (.inl ⟨_, rfl⟩))))
  | tup _ _ => exact .inr (.inr (.inr (.inr (.inr (.inl ⟨_, rfl⟩)))))
theorem NoBox.right {v : W} (h : NoBox G v) (st : Sto) : rightW G st v := by
  rcases h with rfl | ⟨b, rfl⟩ | ⟨i, rfl⟩ | ⟨x, rfl⟩ | ⟨l, rfl⟩ | ⟨l, rfl⟩ | ⟨i, hi, rfl⟩
  · exact .inl (.inl rfl)
  · exact .inl (.inr fun z => nomatch z)
  · exact .inl (.inr fun z => nomatch z)
  · exact .inl (.inr fun z => nomatch z)
  · exact .inl (.inr fun z => nomatch z)
  · exact .inl (.inr fun z => nomatch z)
  · exact .inr (.inr ⟨i, hi, rfl⟩)
theorem NoBox.isB {v : W} (h : NoBox G v) (st : Sto) : ∃ f, isOf G st v f ∧ [Cn.own 0].any f = false := by
  rcases h with rfl | ⟨b, rfl⟩ | ⟨i, rfl⟩ | ⟨x, rfl⟩ | ⟨l, rfl⟩ | ⟨l, rfl⟩ | ⟨i, hi, rfl⟩
  · exact ⟨_, .inl ⟨rfl, rfl⟩, rfl⟩
  · exact ⟨_, .inr (.inl ⟨_, rfl, rfl⟩), rfl⟩
  · exact ⟨_, .inr (.inl ⟨_, rfl, rfl⟩), rfl⟩
  · exact ⟨_, .inr (.inl ⟨_, rfl, rfl⟩), rfl⟩
  · exact ⟨_, .inr (.inl ⟨_, rfl, rfl⟩), rfl⟩
  · exact ⟨_, .inr (.inl ⟨_, rfl, rfl⟩), rfl⟩
  · exact ⟨_, .inr (.inr (.inr ⟨i, rfl, hi, rfl⟩)), rfl⟩
end
end Zk

namespace Zk
open PySem PySem.Spec PyProof.Rows L2
/-! ### trees with a difference, trees without it: two shafts made one -/
section
variable {α β : Type}
def PI (P : List α → Bool) : Prop := ∀ a b : List α, a.Perm b → P a = P b
theorem PI.cons {P : List α → Bool} (h : PI P) (x : α) : PI fun S => P (x :: S) := fun a b p => h _ _ (p.cons x)
end
section
variable {n : Nat} {ps qs : List (Int × Int)}
end
section
variable {n : Nat} {lo hi : Int} {Q : List (Int × Int)} {e : Int × Int}
end
end Zk

namespace Zk
open PySem PySem.Spec PyProof.Rows L2
section
variable {G : Gx} {ds : List Df} {m i i1 i2 i3 : Nat}
section
variable {C : Calls} {n : Nat} {ps : List (Int × Int)} {S L : List Int} {s : Sto} {D : En} {v : W} {o5 : Option W}
end
end
end Zk

namespace Zk
open PySem PySem.Spec PyProof.Rows L2
/-! ### boxes side by side, and what is no box behind a + -/
/-- law_raised_jobs:  -/
def B_law_raised_jobs  : Sm :=
      (.cons (.set 2 (.lst true .nil))
      (.cons (.frc (.one 3) (.var 0) (.cons (.ex (.mt .app (.var 2) (.cons (.bi .tup false (.cons (.bin .add false (.lst false (.cons (.ix (.var 3) (.int 0)) .nil)) (.lc false [("axle", 4)] (.one 4) (.sl false (.var 3) (.int 1) .no) .nil (.bin .add false (.var 4) (.bin .mul false (.var 1) (.bi .int false (.cons (.cmp .gt (.var 4) (.int 0)) .nil)))))) .nil)) .nil)))
      .nil))
      (.cons (.ret (.frz (.var 2)))
      .nil)))

/-- law_refused: cal 25, rse 2, nx 4, cs [2], rse 0, cs [0, 1, 2, 3] -/
def B_law_refused (a0 : Nat) (a1 : Nat) (a2 : Nat) (a3 : List Nat) (a4 : Nat) (a5 : List Nat) : Sm :=
      (.cons (.set 2 (.str ""))
      (.cons (.tri (.cons (.ex (.addN 0 a0 (.var 0) (.var 1)))
      .nil) (.hnd a1 a2 a3 (.cons (.set 2 (.str "box"))
      .nil) (.hnd a4 a2 a5 (.cons (.set 2 (.str "other"))
      .nil) .nil)))
      (.cons (.ret (.cmp .eq (.var 2) (.str "box")))
      .nil)))

/-- Box_add: rse 2, cal 6, cal 20 -/
def B_Box_add1 (a0 : Nat) (a1 : Nat) (a2 : Nat) : Sm :=
      (.cons (.ife (.nt (.isC (.var 1) [.own 0])) (.cons (.rse a0)
      .nil) .nil)
      (.cons (.set 2 (.lc false [("work", 3)] (.one 3) (.fld 0 (.var 1) "_works") .nil (.cal a1 (.cons (.var 3) (.cons (.fld 0 (.var 0) "_shafts") .nil)))))
      (.cons (.ret (.mk 0 a2 (.cons (.bin .add false (.fld 0 (.var 0) "_shafts") (.fld 0 (.var 1) "_shafts")) (.cons (.bin .add false (.bi .lst false (.cons (.fld 0 (.var 0) "_works") .nil)) (.var 2)) .nil))))
      .nil)))


section
variable {G : Gx} {ds : List Df} {m i i1 i2 i3 : Nat}
theorem addB1_ok (g : BoxG G) (h : Is ds i 4 2 (B_Box_add1 i1 i2 i3)) (R : RaisedSp (callW G ds m) i2) (I : InitSp (G.A 0) (callW G ds m) i3) : AddBSp (G.A 0) (callW G ds (m + 1)) i := fun n k js ks st X Q hj hk hl1 hl2 n1 n50 k50 q => by
  refine call_by h rfl ?_
  simp only [B_Box_add1, wpS, wpE]
  refine ⟨_, rfl, _, .inr (.inr (.inl ⟨0, boxF k ks, rfl, g.n1, rfl⟩)), _, rfl, _, rfl, fun z => ?_, fun _ => ?_⟩
  · have s0 := g.s0
    simp [s0] at z
  refine ⟨_, rfl, boxF k ks, _, .inl rfl, bs_look2 k ks, .inr (.inl ⟨_, rfl, by rw [List.length_map, sizeLine_eq]; omega, ?_⟩)⟩
  refine lc_by (fun rem acc s => s = st ∧ ∃ (dn rm : List Job), rem = rm.map Job.w ∧ acc = (dn.map (Job.up n)).map Job.w ∧ ks = dn ++ rm) ?_ ?_ _ _ _ ⟨rfl, [], ks, rfl, rfl, rfl⟩
  · rintro w rem acc s ⟨rfl, dn, rm, hr, rfl, hjs⟩ P hP
    cases rm with
    | nil => cases hr
    | cons o rm =>
      cases hr
      try simp only [tgP]
      have hok := hk o (by rw [hjs]; simp)
      refine .inl ⟨trivial, _, rfl, _, rfl, boxF n js, _, .inl rfl, bs_look1 n js, _, rfl, _, rfl, _, rfl, R k n o s _ _ hok (by omega) (by omega) (hP _ _ ⟨rfl, dn ++ [o], rm, rfl, ?_, by rw [hjs]; simp⟩)⟩
      rw [List.map_append, List.map_append]; rfl
  · rintro acc s ⟨rfl, dn, rm, hr, rfl, hjs⟩
    have : rm = [] := by cases rm with | nil => rfl | cons => cases hr
    subst this
    rw [List.append_nil] at hjs
    subst hjs
    refine newF (by rw [List.length_map, List.length_map, sizeLine_eq]; omega) ?_
    refine ⟨_, rfl, boxF n js, _, .inl rfl, bs_look1 n js, _, rfl, boxF k ks, _, .inl rfl, bs_look1 k ks, addI ?_⟩
    refine ⟨_, rfl, boxF n js, _, .inl rfl, bs_look2 n js, _, rfl, _, rfl, ⟨_, _, rfl, rfl, newF (by rw [List.length_map, sizeLine_eq]; omega) ?_⟩⟩
    refine ⟨_, rfl, addL rfl rfl (newF (by rw [List.length_append, List.length_map, List.length_map, List.length_map, sizeLine_eq]; omega) ?_)⟩
    rw [← List.map_append]
    rw [show (n : Int) + (k : Int) = ((n + k : Nat) : Int) by omega]
    refine ⟨_, rfl, _, rfl, _, rfl, I (n + k) (js ++ ks.map (Job.up n)) _ s.length _ _ _ (by simp) (.inl rfl) (fun p hp => ?_) (by rw [List.length_append, List.length_map]; omega) (by omega) ⟨rfl, mk_end Ext.refl q⟩⟩
    rcases List.mem_append.mp hp with hp | hp
    · exact (hj p hp).more
    · obtain ⟨o, ho', rfl⟩ := List.mem_map.mp hp
      exact (hk o ho').up
def AddNoSp (G : Gx) (e : Nat) (C : Calls) (i : Nat) : Prop := ∀ (n : Nat) (js : List Job) (v : W) (st : Sto) (X : XPo) (Q : Po), NoBox G v → X (e, none) st → C i [boxV (G.A 0) n js, v] st X Q
theorem addNo_ok (h : Is ds i 4 2 (B_Box_add1 i1 i2 i3)) : AddNoSp G i1 (callW G ds (m + 1)) i := fun n js v st X Q hv q => by
  refine call_by h rfl ?_
  simp only [B_Box_add1, wpS, wpE]
  obtain ⟨f, h1, h2⟩ := hv.isB st
  refine ⟨_, rfl, f, h1, ?_⟩
  rw [h2]
  exact ⟨_, rfl, _, rfl, fun _ => q, fun z => nomatch z⟩
theorem NoBox.rightN {v : W} (h : NoBox G v) (st : Sto) : Zk.rightN G st v := by
  rcases h.right st with h | ⟨i, fs, hi, rfl⟩ | h
  · exact .inl h
  · rcases h with h | ⟨_, h⟩ | ⟨_, h⟩ | ⟨_, h⟩ | ⟨_, h⟩ | ⟨_, h⟩ | ⟨_, _, h⟩ <;> cases h
  · exact .inr h
def RefBSp (G : Gx) (C : Calls) (i : Nat) : Prop := ∀ (n : Nat) (js : List Job) (v : W) (st : Sto) (X : XPo) (Q : Po), NoBox G v → Q (.bl true) st → C i [boxV (G.A 0) n js, v] st X Q
theorem refusedB_ok (h : Is ds i 3 2 (B_law_refused i1 2 4 [2] 0 [0, 1, 2, 3])) (A : AddNoSp G 2 (callW G ds m) i1) : RefBSp G (callW G ds (m + 1)) i := fun n js v st X Q hv q => by
  refine call_by h rfl ?_
  simp only [B_law_refused, wpS, wpE, wpH]
  refine ⟨_, rfl, _, rfl, ⟨_, rfl⟩, hv.rightN st, A n js v st _ _ hv ⟨by decide, fun _ => ?_, fun z => absurd (by decide) z⟩⟩
  refine ⟨_, rfl, .inr (.inl ⟨_, _, rfl, rfl, ?_⟩)⟩
  rw [decide_eq_true rfl]
  exact q
def RaJobsSp (C : Calls) (i : Nat) : Prop := ∀ (n b : Nat) (js : List Job) (st : Sto) (X : XPo) (Q : Po), (∀ o ∈ js, JobOk n o) → js.length ≤ 60 → b ≤ 100 → (∀ st', Ext st st' → Q (.lst ((js.map (Job.up b)).map Job.w)) st') → C i [.lst (js.map Job.w), .int b] st X Q
theorem raised_jobs_ok (h : Is ds i 5 2 B_law_raised_jobs) : RaJobsSp (callW G ds (m + 1)) i := fun n b js st X Q hj hl hb q => by
  refine call_by h rfl ?_
  simp only [B_law_raised_jobs, wpS, wpE]
  refine ⟨_, rfl, newT (by rw [sizeLine_eq]; simp) ?_⟩
  obtain ⟨r, hr⟩ : ∃ r, r = st.length := ⟨_, rfl⟩
  have c0 : (st ++ [(true, Cell.lst [])])[r]? = some (true, .lst []) := by rw [hr]; simp
  have x0 : Ext st (st ++ [(true, Cell.lst [])]) := Ext.app
  rw [← hr]
  revert c0 x0
  generalize st ++ [(true, Cell.lst [])] = s0
  intro c0 x0
  refine ⟨_, rfl, .inl ⟨_, rfl, by rw [List.length_map]; omega, ?_⟩⟩
  refine for_by (fun rem env s => Ext st s ∧ ∃ (dn rm : List Job) (o3 o4 : Option W), dn ++ rm = js ∧ rem = rm.map Job.w ∧ s[r]? = some (true, .lst ((dn.map (Job.up b)).map Job.w)) ∧ env = [some (.lst (js.map Job.w)), some (.int b), some (.ref r), o3, o4]) ?_ ?_ _ _ _ ⟨x0, [], js, _, _, rfl, rfl, c0, rfl⟩
  · rintro w rem env s ⟨x1, dn, rm, o3, o4, hs, hrem, c1, rfl⟩ P hP
    cases rm with
    | nil => cases hrem
    | cons o rm =>
      cases hrem
      have ho := hj o (by rw [← hs]; simp)
      have dl : dn.length ≤ 60 := by have := congrArg List.length hs; simp at this; omega
      have al : o.ax.length ≤ 3 := by rcases ho.cases with ⟨_, a, b, c, ea⟩ | ⟨_, a, b, ea⟩ <;> rw [ea] <;> simp
      try simp only [tgP]
      refine ⟨_, rfl, ⟨_, _, _, rfl, c1⟩, ?_⟩
      refine ⟨_, rfl, ixL (l := .str (wordOf o.k) :: o.ax.map W.int) rfl (at0 _ _) ⟨_, rfl, _, rfl, newF (by rw [sizeLine_eq]; simp) ?_⟩⟩
      refine ⟨_, rfl, some 1, ⟨_, rfl, rfl⟩, none, rfl, .inr (.inr (.inl ⟨_, rfl, ?_⟩))⟩
      rw [cut1]
      refine .inr (.inl ⟨_, rfl, by rw [List.length_map, sizeLine_eq]; omega, ?_⟩)
      refine lc_by (fun rem acc s' => s' = s ∧ ∃ d2 r2 : List Int, d2 ++ r2 = o.ax ∧ rem = r2.map W.int ∧ acc = (d2.map (upx b)).map W.int) ?_ ?_ _ _ _ ⟨rfl, [], _, rfl, rfl, rfl⟩
      · rintro w rem acc s' ⟨rfl, d2, r2, hs2, hr2, rfl⟩ P2 hP2
        cases r2 with
        | nil => cases hr2
        | cons x r2 =>
          cases hr2
          have xr := ho.ax (x := x) (by rw [← hs2]; simp)
          try simp only [tgP]
          refine .inl ⟨trivial, _, rfl, _, rfl, _, rfl, gtI ?_⟩
          by_cases z : 0 < x
          · rw [decide_eq_true z]
            refine ⟨_, rfl, _, rfl, .inr ⟨_, rfl, mulI (.inl ⟨by omega, by omega⟩) (addI ?_)⟩⟩
            refine hP2 _ _ ⟨rfl, d2 ++ [x], r2, by rw [← hs2, List.append_assoc]; rfl, rfl, ?_⟩
            rw [List.map_append, List.map_append]
            show _ ++ [W.int (x + (b : Int) * 1)] = _ ++ [W.int (upx b x)]
            unfold upx
            rw [if_pos z, Int.mul_one]
          · rw [decide_eq_false z]
            refine ⟨_, rfl, _, rfl, .inr ⟨_, rfl, mulI (.inl ⟨by omega, by omega⟩) (addI ?_)⟩⟩
            refine hP2 _ _ ⟨rfl, d2 ++ [x], r2, by rw [← hs2, List.append_assoc]; rfl, rfl, ?_⟩
            rw [List.map_append, List.map_append]
            show _ ++ [W.int (x + (b : Int) * 0)] = _ ++ [W.int (upx b x)]
            unfold upx
            rw [if_neg z, Int.mul_zero, Int.add_zero, show x = 0 by omega]
      · rintro acc s' ⟨rfl, d2, r2, hs2, hr2, rfl⟩
        have : r2 = [] := by cases r2 with
          | nil => rfl
          | cons => cases hr2
        subst this
        rw [List.append_nil] at hs2
        rw [hs2]
        refine newF (by rw [List.length_map, List.length_map, sizeLine_eq]; omega) (addL rfl rfl (newF (by rw [List.length_append, List.length_map, List.length_map, sizeLine_eq]; simp; omega) ?_))
        refine ⟨_, rfl, _, rfl, ⟨_, _, rfl, .inl rfl, ?_⟩⟩
        refine ⟨_, rfl, _, rfl, _, _, _, rfl, rfl, c1, by rw [List.length_map, List.length_map, sizeLine_eq]; omega, ?_⟩
        refine hP _ _ ⟨set_ext x1 (by omega), dn ++ [o], rm, _, _, by rw [← hs, List.append_assoc]; rfl, rfl, ?_, rfl⟩
        rw [setSelf c1, List.map_append, List.map_append]; rfl
  · rintro env s ⟨x1, dn, rm, o3, o4, hs, hrem, c1, rfl⟩
    have : rm = [] := by cases rm with
      | nil => rfl
      | cons => cases hrem
    subst this
    rw [List.append_nil] at hs
    subst hs
    exact ⟨_, rfl, .inl ⟨_, _, _, rfl, c1, q _ (set_ext x1 (by omega))⟩⟩
end
end Zk

namespace K13
open PySem PySem.Spec PyProof.Rows L2 Zk
theorem bn_is_integer : BindN d_is_integer := fun _ _ _ _ _ _ us hl => match us, hl with | [_], _ => rfl
theorem bn_is_between : BindN d_is_between := fun _ _ _ _ _ _ us hl => match us, hl with | [_, _, _], _ => rfl
theorem bn_is_one_work : BindN d_is_one_work := fun _ _ _ _ _ _ us hl => match us, hl with | [_, _], _ => rfl
theorem bn_are_unlike : BindN d_are_unlike := fun _ _ _ _ _ _ us hl => match us, hl with | [_, _, _], _ => rfl
theorem bn_are_works : BindN d_are_works := fun _ _ _ _ _ _ us hl => match us, hl with | [_, _], _ => rfl
theorem bn_need_shafts : BindN d_need_shafts := fun _ _ _ _ _ _ us hl => match us, hl with | [_], _ => rfl
theorem bn_raised : BindN d_raised := fun _ _ _ _ _ _ us hl => match us, hl with | [_, _], _ => rfl
theorem bn_law_fill : BindN d_law_fill := fun _ _ _ _ _ _ us hl => match us, hl with | [_], _ => rfl
theorem bn_law_take : BindN d_law_take := fun _ _ _ _ _ _ us hl => match us, hl with | [_, _], _ => rfl
theorem bn_law_mixed : BindN d_law_mixed := fun _ _ _ _ _ _ us hl => match us, hl with | [_, _], _ => rfl
theorem bn_law_some_number : BindN d_law_some_number := fun _ _ _ _ _ _ us hl => match us, hl with | [_], _ => rfl
theorem bn_law_string : BindN d_law_string := fun _ _ _ _ _ _ us hl => match us, hl with | [_], _ => rfl
theorem bn_law_odd : BindN d_law_odd := fun _ _ _ _ _ _ us hl => match us, hl with | [_, _], _ => rfl
theorem bn_law_same : BindN d_law_same := fun _ _ _ _ _ _ us hl => match us, hl with | [_, _], _ => rfl
theorem bn_law_some_job : BindN d_law_some_job := fun _ _ _ _ _ _ us hl => match us, hl with | [_, _], _ => rfl
theorem bn_law_some_jobs : BindN d_law_some_jobs := fun _ _ _ _ _ _ us hl => match us, hl with | [_, _, _], _ => rfl
theorem bn_law_crate_is : BindN d_law_crate_is := fun _ _ _ _ _ _ us hl => match us, hl with | [_, _, _], _ => rfl
theorem bn_law_raised_jobs : BindN d_law_raised_jobs := fun _ _ _ _ _ _ us hl => match us, hl with | [_, _], _ => rfl
theorem bn_law_refused : BindN d_law_refused := fun _ _ _ _ _ _ us hl => match us, hl with | [_, _], _ => rfl
theorem bn_law : BindN d_law := fun _ _ _ _ _ _ us hl => match us, hl with | [_], _ => rfl
theorem bn_Box_init : BindN d_Box_init := fun _ _ _ _ _ _ us hl => match us, hl with | [_, _, _], _ => rfl
theorem bn_Box_shafts : BindN d_Box_shafts := fun _ _ _ _ _ _ us hl => match us, hl with | [_], _ => rfl
theorem bn_Box_works : BindN d_Box_works := fun _ _ _ _ _ _ us hl => match us, hl with | [_], _ => rfl
theorem bn_Box_len : BindN d_Box_len := fun _ _ _ _ _ _ us hl => match us, hl with | [_], _ => rfl
theorem bn_Box_eq : BindN d_Box_eq := fun _ _ _ _ _ _ us hl => match us, hl with | [_, _], _ => rfl
theorem bn_Box_add : BindN d_Box_add := fun _ _ _ _ _ _ us hl => match us, hl with | [_, _], _ => rfl
theorem bn : ∀ d ∈ ds, BindN d := by
  intro d hd
  simp only [ds, List.mem_cons, List.not_mem_nil, or_false] at hd
  rcases hd with rfl | rfl | rfl | rfl | rfl | rfl | rfl | rfl | rfl | rfl | rfl | rfl | rfl | rfl | rfl | rfl | rfl | rfl | rfl | rfl | rfl | rfl | rfl | rfl | rfl | rfl
  · exact bn_is_integer
  · exact bn_is_between
  · exact bn_is_one_work
  · exact bn_are_unlike
  · exact bn_are_works
  · exact bn_need_shafts
  · exact bn_raised
  · exact bn_law_fill
  · exact bn_law_take
  · exact bn_law_mixed
  · exact bn_law_some_number
  · exact bn_law_string
  · exact bn_law_odd
  · exact bn_law_same
  · exact bn_law_some_job
  · exact bn_law_some_jobs
  · exact bn_law_crate_is
  · exact bn_law_raised_jobs
  · exact bn_law_refused
  · exact bn_law
  · exact bn_Box_init
  · exact bn_Box_shafts
  · exact bn_Box_works
  · exact bn_Box_len
  · exact bn_Box_eq
  · exact bn_Box_add
theorem kn : ∀ q ∈ kws, KwN ds q := fun q hq => nomatch hq
def fns : List (Str × Nat) := ds.map fun d => (d.gnm, d.ps.length)
def gbn : List Str := gts.map (·.1)
def tan : List Str := tas.map (·.1)
def tsn : List Str := tss.map (·.1)
theorem ck_is_integer : okD fns gbn kws exs em cis tan tsn cfg.gcd cfg.kit d_is_integer = true := by decide +kernel
theorem ck_is_between : okD fns gbn kws exs em cis tan tsn cfg.gcd cfg.kit d_is_between = true := by decide +kernel
theorem ck_is_one_work : okD fns gbn kws exs em cis tan tsn cfg.gcd cfg.kit d_is_one_work = true := by decide +kernel
theorem ck_are_unlike : okD fns gbn kws exs em cis tan tsn cfg.gcd cfg.kit d_are_unlike = true := by decide +kernel
theorem ck_are_works : okD fns gbn kws exs em cis tan tsn cfg.gcd cfg.kit d_are_works = true := by decide +kernel
theorem ck_need_shafts : okD fns gbn kws exs em cis tan tsn cfg.gcd cfg.kit d_need_shafts = true := by decide +kernel
theorem ck_raised : okD fns gbn kws exs em cis tan tsn cfg.gcd cfg.kit d_raised = true := by decide +kernel
theorem ck_law_fill : okD fns gbn kws exs em cis tan tsn cfg.gcd cfg.kit d_law_fill = true := by decide +kernel
theorem ck_law_take : okD fns gbn kws exs em cis tan tsn cfg.gcd cfg.kit d_law_take = true := by decide +kernel
theorem ck_law_mixed : okD fns gbn kws exs em cis tan tsn cfg.gcd cfg.kit d_law_mixed = true := by decide +kernel
theorem ck_law_some_number : okD fns gbn kws exs em cis tan tsn cfg.gcd cfg.kit d_law_some_number = true := by decide +kernel
theorem ck_law_string : okD fns gbn kws exs em cis tan tsn cfg.gcd cfg.kit d_law_string = true := by decide +kernel
theorem ck_law_odd : okD fns gbn kws exs em cis tan tsn cfg.gcd cfg.kit d_law_odd = true := by decide +kernel
theorem ck_law_same : okD fns gbn kws exs em cis tan tsn cfg.gcd cfg.kit d_law_same = true := by decide +kernel
theorem ck_law_some_job : okD fns gbn kws exs em cis tan tsn cfg.gcd cfg.kit d_law_some_job = true := by decide +kernel
theorem ck_law_some_jobs : okD fns gbn kws exs em cis tan tsn cfg.gcd cfg.kit d_law_some_jobs = true := by decide +kernel
theorem ck_law_crate_is : okD fns gbn kws exs em cis tan tsn cfg.gcd cfg.kit d_law_crate_is = true := by decide +kernel
theorem ck_law_raised_jobs : okD fns gbn kws exs em cis tan tsn cfg.gcd cfg.kit d_law_raised_jobs = true := by decide +kernel
theorem ck_law_refused : okD fns gbn kws exs em cis tan tsn cfg.gcd cfg.kit d_law_refused = true := by decide +kernel
theorem ck_law : okD fns gbn kws exs em cis tan tsn cfg.gcd cfg.kit d_law = true := by decide +kernel
theorem ck_Box_init : okD fns gbn kws exs em cis tan tsn cfg.gcd cfg.kit d_Box_init = true := by decide +kernel
theorem ck_Box_shafts : okD fns gbn kws exs em cis tan tsn cfg.gcd cfg.kit d_Box_shafts = true := by decide +kernel
theorem ck_Box_works : okD fns gbn kws exs em cis tan tsn cfg.gcd cfg.kit d_Box_works = true := by decide +kernel
theorem ck_Box_len : okD fns gbn kws exs em cis tan tsn cfg.gcd cfg.kit d_Box_len = true := by decide +kernel
theorem ck_Box_eq : okD fns gbn kws exs em cis tan tsn cfg.gcd cfg.kit d_Box_eq = true := by decide +kernel
theorem ck_Box_add : okD fns gbn kws exs em cis tan tsn cfg.gcd cfg.kit d_Box_add = true := by decide +kernel
theorem ck : ds.all (okD fns gbn kws exs em cis tan tsn cfg.gcd cfg.kit) = true := by
  simp only [ds, List.all_cons, List.all_nil, Bool.and_true, Bool.and_eq_true]
  exact ⟨ck_is_integer, ck_is_between, ck_is_one_work, ck_are_unlike, ck_are_works, ck_need_shafts, ck_raised, ck_law_fill, ck_law_take, ck_law_mixed, ck_law_some_number, ck_law_string, ck_law_odd, ck_law_same, ck_law_some_job, ck_law_some_jobs, ck_law_crate_is, ck_law_raised_jobs, ck_law_refused, ck_law, ck_Box_init, ck_Box_shafts, ck_Box_works, ck_Box_len, ck_Box_eq, ck_Box_add⟩
theorem ne : ∀ d ∈ ds, d.cl = none → d.nm ≠ Str.empty := by decide +kernel
set_option maxHeartbeats 0
-- places
abbrev i_is_integer : Nat := 0
abbrev i_is_between : Nat := 1
abbrev i_is_one_work : Nat := 2
abbrev i_are_unlike : Nat := 3
abbrev i_are_works : Nat := 4
abbrev i_need_shafts : Nat := 5
abbrev i_raised : Nat := 6
abbrev i_law_fill : Nat := 7
abbrev i_law_take : Nat := 8
abbrev i_law_mixed : Nat := 9
abbrev i_law_some_number : Nat := 10
abbrev i_law_string : Nat := 11
abbrev i_law_odd : Nat := 12
abbrev i_law_same : Nat := 13
abbrev i_law_some_job : Nat := 14
abbrev i_law_some_jobs : Nat := 15
abbrev i_law_crate_is : Nat := 16
abbrev i_law_raised_jobs : Nat := 17
abbrev i_law_refused : Nat := 18
abbrev i_law : Nat := 19
abbrev i_Box_init : Nat := 20
abbrev i_Box_shafts : Nat := 21
abbrev i_Box_works : Nat := 22
abbrev i_Box_len : Nat := 23
abbrev i_Box_eq : Nat := 24
abbrev i_Box_add : Nat := 25
theorem h_is_integer : Is ds 0 1 1 (B_isInt) := ⟨_, rfl, rfl, rfl, rfl⟩
theorem h_is_between : Is ds 1 3 3 (B_betw 0) := ⟨_, rfl, rfl, rfl, rfl⟩
theorem h_is_one_work : Is ds 2 2 2 (B_is_one_work 0 3 1) := ⟨_, rfl, rfl, rfl, rfl⟩
theorem h_are_unlike : Is ds 3 4 3 (B_are_unlike 1) := ⟨_, rfl, rfl, rfl, rfl⟩
theorem h_are_works : Is ds 4 3 2 (B_areDiff 2) := ⟨_, rfl, rfl, rfl, rfl⟩
theorem h_need_shafts : Is ds 5 1 1 (B_needS 0 1) := ⟨_, rfl, rfl, rfl, rfl⟩
theorem h_raised : Is ds 6 3 2 (B_raised) := ⟨_, rfl, rfl, rfl, rfl⟩
theorem h_law_fill : Is ds 7 1 1 (B_fill) := ⟨_, rfl, rfl, rfl, rfl⟩
theorem h_law_take : Is ds 8 6 2 (B_take) := ⟨_, rfl, rfl, rfl, rfl⟩
theorem h_law_mixed : Is ds 9 5 2 (B_mixed 8) := ⟨_, rfl, rfl, rfl, rfl⟩
theorem h_law_some_number : Is ds 10 3 1 (B_law_some_number 8) := ⟨_, rfl, rfl, rfl, rfl⟩
theorem h_law_string : Is ds 11 3 1 (B_law_string 8) := ⟨_, rfl, rfl, rfl, rfl⟩
theorem h_law_odd : Is ds 12 6 2 (B_law_odd 8 12 11 10) := ⟨_, rfl, rfl, rfl, rfl⟩
theorem h_law_same : Is ds 13 2 2 (B_same) := ⟨_, rfl, rfl, rfl, rfl⟩
theorem h_law_some_job : Is ds 14 5 2 (B_law_some_job 8 9) := ⟨_, rfl, rfl, rfl, rfl⟩
theorem h_law_some_jobs : Is ds 15 5 3 (B_law_some_jobs 14 8) := ⟨_, rfl, rfl, rfl, rfl⟩
theorem h_law_crate_is : Is ds 16 3 3 (B_law_crate_is 13 21 22 23) := ⟨_, rfl, rfl, rfl, rfl⟩
theorem h_law_raised_jobs : Is ds 17 5 2 (B_law_raised_jobs) := ⟨_, rfl, rfl, rfl, rfl⟩
theorem h_law_refused : Is ds 18 3 2 (B_law_refused 25 2 4 [2] 0 [0, 1, 2, 3]) := ⟨_, rfl, rfl, rfl, rfl⟩
theorem h_law : Is ds 19 15 1 (b_law) := ⟨_, rfl, rfl, rfl, rfl⟩
theorem h_Box_init : Is ds 20 3 3 (B_Box_init 5 4 3) := ⟨_, rfl, rfl, rfl, rfl⟩
theorem h_Box_shafts : Is ds 21 1 1 (B_Box_shafts) := ⟨_, rfl, rfl, rfl, rfl⟩
theorem h_Box_works : Is ds 22 1 1 (B_Box_works) := ⟨_, rfl, rfl, rfl, rfl⟩
theorem h_Box_len : Is ds 23 1 1 (B_Box_len) := ⟨_, rfl, rfl, rfl, rfl⟩
theorem h_Box_eq : Is ds 24 2 2 (B_Box_eq) := ⟨_, rfl, rfl, rfl, rfl⟩
theorem h_Box_add : Is ds 25 4 2 (B_Box_add1 2 6 20) := ⟨_, rfl, rfl, rfl, rfl⟩
def t_19 : Sm :=
      (.cons (.frc (.one 14) (.lst false (.cons (.cal 12 (.cons (.var 3) (.cons (.int 3) .nil))) (.cons (.ix (.var 6) (.int 0)) (.cons (.tup (.cons (.ix (.var 4) (.int 0)) (.cons (.ix (.var 6) (.int 0)) .nil))) (.cons (.int 0) .nil))))) (.cons (.ife (.nt (.cal 18 (.cons (.ix (.var 7) (.int 0)) (.cons (.var 14) .nil)))) (.cons (.ret (.bl false))
      .nil) .nil)
      .nil))
      .nil)
def t_18 : Sm :=
      (.cons (.frc (.one 13) (.rg1 (.int 3)) (.cons (.ife (.nt (.cal 16 (.cons (.ix (.var 7) (.var 13)) (.cons (.ix (.var 4) (.var 13)) (.cons (.ix (.var 6) (.var 13)) .nil))))) (.cons (.ret (.bl false))
      .nil) .nil)
      .nil))
      t_19)
def t_17 : Sm :=
      (.cons (.ife (.an (.cmp .lt (.bin .add false (.ix (.var 4) (.int 2)) (.ix (.var 4) (.int 2))) (.int 9)) (.cmp .lt (.bi .len false (.cons (.ix (.var 6) (.int 2)) .nil)) (.int 4))) (.cons (.ife (.nt (.cal 16 (.cons (.addO 0 25 (.ix (.var 7) (.int 2)) (.ix (.var 7) (.int 2))) (.cons (.bin .mul false (.int 2) (.ix (.var 4) (.int 2))) (.cons (.bin .add false (.ix (.var 6) (.int 2)) (.cal 17 (.cons (.ix (.var 6) (.int 2)) (.cons (.ix (.var 4) (.int 2)) .nil)))) .nil))))) (.cons (.ret (.bl false))
      .nil) .nil)
      .nil) .nil)
      t_18)
def t_16 : Sm :=
      (.cons (.ife (.nt (.cal 16 (.cons (.var 11) (.cons (.bin .add false (.ix (.var 4) (.int 0)) (.ix (.var 4) (.int 1))) (.cons (.var 12) .nil))))) (.cons (.ret (.bl false))
      .nil) .nil)
      t_17)
def t_15 : Sm :=
      (.cons (.ife (.nt (.cal 16 (.cons (.var 8) (.cons (.bi .sum false (.cons (.var 4) .nil)) (.cons (.var 9) .nil))))) (.cons (.ret (.bl false))
      .nil) .nil)
      t_16)
def t_12 : Sm :=
      (.cons (.set 11 (.var 8))
      (.cons (.set 12 (.bin .add false (.ix (.var 6) (.int 0)) (.cal 17 (.cons (.ix (.var 6) (.int 1)) (.cons (.ix (.var 4) (.int 0)) .nil)))))
      (.cons (.augO 8 0 25 (.ix (.var 7) (.int 2)))
      t_15)))
def t_11 : Sm :=
      (.cons (.frc (.one 10) (.lst false (.cons (.addO 0 25 (.var 8) (.ix (.var 7) (.int 2))) (.cons (.addO 0 25 (.ix (.var 7) (.int 0)) (.addO 0 25 (.ix (.var 7) (.int 1)) (.ix (.var 7) (.int 2)))) .nil))) (.cons (.ife (.nt (.cal 16 (.cons (.var 10) (.cons (.bi .sum false (.cons (.var 4) .nil)) (.cons (.var 9) .nil))))) (.cons (.ret (.bl false))
      .nil) .nil)
      .nil))
      t_12)
def t_10 : Sm :=
      (.cons (.set 9 (.bin .add false (.var 9) (.cal 17 (.cons (.ix (.var 6) (.int 2)) (.cons (.bin .add false (.ix (.var 4) (.int 0)) (.ix (.var 4) (.int 1))) .nil)))))
      t_11)
def t_9 : Sm :=
      (.cons (.ife (.nt (.cal 16 (.cons (.var 8) (.cons (.bin .add false (.ix (.var 4) (.int 0)) (.ix (.var 4) (.int 1))) (.cons (.var 9) .nil))))) (.cons (.ret (.bl false))
      .nil) .nil)
      t_10)
def t_4 : Sm :=
      (.cons (.set 5 (.ix (.lst false (.cons (.lst false (.cons (.int 2) (.cons (.int 2) (.cons (.int 2) .nil)))) (.cons (.lst false (.cons (.int 0) (.cons (.int 6) (.cons (.int 0) .nil)))) (.cons (.lst false (.cons (.int 6) (.cons (.int 0) (.cons (.int 0) .nil)))) (.cons (.lst false (.cons (.int 1) (.cons (.int 4) (.cons (.int 1) .nil)))) .nil))))) (.cal 8 (.cons (.var 3) (.cons (.int 4) .nil)))))
      (.cons (.set 6 (.lc false [("k", 13)] (.one 13) (.rg1 (.int 3)) .nil (.cal 15 (.cons (.var 3) (.cons (.ix (.var 4) (.var 13)) (.cons (.cal 8 (.cons (.var 3) (.cons (.bin .add false (.ix (.var 5) (.var 13)) (.int 1)) .nil))) .nil))))))
      (.cons (.set 7 (.lc false [("k", 13)] (.one 13) (.rg1 (.int 3)) .nil (.mk 0 20 (.cons (.ix (.var 4) (.var 13)) (.cons (.ix (.var 6) (.var 13)) .nil)))))
      (.cons (.set 8 (.addO 0 25 (.ix (.var 7) (.int 0)) (.ix (.var 7) (.int 1))))
      (.cons (.set 9 (.bin .add false (.ix (.var 6) (.int 0)) (.cal 17 (.cons (.ix (.var 6) (.int 1)) (.cons (.ix (.var 4) (.int 0)) .nil)))))
      t_9)))))
def t_3 : Sm :=
      (.cons (.ife (.cmp .eq (.cal 8 (.cons (.var 3) (.cons (.int 4) .nil))) (.int 1)) (.cons (.put (.var 4) (.int 0) (.int 5))
      (.cons (.put (.var 4) (.int 2) (.int 1))
      (.cons (.put (.var 4) (.int 1) (.bin .add false (.int 1) (.cal 8 (.cons (.var 3) (.cons (.int 2) .nil)))))
      .nil))) .nil)
      t_4)
def t_1 : Sm :=
      (.cons (.set 3 (.cal 7 (.cons (.var 2) .nil)))
      (.cons (.set 4 (.lst true (.cons (.bin .add false (.int 1) (.cal 8 (.cons (.var 3) (.cons (.int 3) .nil)))) (.cons (.bin .add false (.int 1) (.cal 8 (.cons (.var 3) (.cons (.int 3) .nil)))) (.cons (.bin .add false (.int 1) (.cal 8 (.cons (.var 3) (.cons (.int 2) .nil)))) .nil)))))
      t_3))
theorem b_law_eq : b_law = (.cons (.set 1 (.int 79760497732259528792547025166608476952976256369646537778617347516426919208232518724696453601))
      (.cons (.frc (.one 2) (.bin .add false (.lst false (.cons (.var 1) .nil)) (.sl false (.var 0) .no (.int 8))) t_1)
      (.cons (.ret (.bl true))
      .nil))) := rfl
section
variable {G : Gx} {m : Nat}
theorem lawodd_ok (hne : 3 < G.ne) : OddSp (G.e 3) 3 (callW G ds (m + 6)) i_law_odd := by
  have T : ∀ k, TakeSp (callW G ds (k + 1)) i_law_take := fun k => take_ok h_law_take
  have S : ∀ k, StrSp (callW G ds (k + 2)) i_law_string := fun k => string_ok h_law_string (T k)
  have N : ∀ k, NumSp (callW G ds (k + 2)) i_law_some_number := fun k => number_ok h_law_some_number (T k)
  have o0 : OddSp (G.e 3) 0 (callW G ds (m + 3)) i_law_odd := oddStep (m := m + 2) h_law_odd rfl hne (T (m + 1)) (S m) (N m) (.inl rfl)
  have o1 : OddSp (G.e 3) 1 (callW G ds (m + 4)) i_law_odd := oddStep (m := m + 3) h_law_odd rfl hne (T (m + 2)) (S (m + 1)) (N (m + 1)) (.inr o0)
  have o2 : OddSp (G.e 3) 2 (callW G ds (m + 5)) i_law_odd := oddStep (m := m + 4) h_law_odd rfl hne (T (m + 3)) (S (m + 2)) (N (m + 2)) (.inr o1)
  exact oddStep (m := m + 5) h_law_odd rfl hne (T (m + 4)) (S (m + 3)) (N (m + 3)) (.inr o2)
end
section
variable {G : Gx}
abbrev jw (js : List Job) : W := .lst (js.map Job.w)
theorem up_up (a b : Nat) (o : Job) : (o.up b).up a = o.up (a + b) := by
  unfold Job.up
  simp only [List.map_map]
  congr 1
  refine List.map_congr_left fun x _ => ?_
  show upx a (upx b x) = upx (a + b) x
  unfold upx
  by_cases z : x > 0
  · rw [if_pos z, if_pos z, if_pos (by omega)]; omega
  · rw [if_neg z, if_neg z, if_neg (by omega)]
theorem ok_add {n k : Nat} {js ks : List Job} (h1 : ∀ o ∈ js, JobOk n o) (h2 : ∀ o ∈ ks, JobOk k o) : ∀ o ∈ js ++ ks.map (Job.up n), JobOk (n + k) o := fun o ho => by
  rcases List.mem_append.mp ho with ho | ho
  · exact (h1 o ho).more
  · obtain ⟨p, hp, rfl⟩ := List.mem_map.mp ho
    exact (h2 p hp).up
structure T3 (j c a b d : Nat) (x y z : List Job) (s : Sto) : Prop where
  jar : JarOk s j
  cj : c ≠ j
  cell : s[c]? = some (true, .lst [.int a, .int b, .int d])
  a1 : 1 ≤ a
  b1 : 1 ≤ b
  d1 : 1 ≤ d
  sum : a + b + d ≤ 8
  okx : ∀ o ∈ x, JobOk a o
  oky : ∀ o ∈ y, JobOk b o
  okz : ∀ o ∈ z, JobOk d o
  lx : x.length ≤ 6
  ly : y.length ≤ 6
  lz : z.length ≤ 6
theorem T3.ext {j c a b d : Nat} {x y z : List Job} {s s' : Sto} (h : T3 j c a b d x y z s) (e : Ext s s') : T3 j c a b d x y z s' :=
  ⟨e.jar h.jar, h.cj, (e.2 c (List.getElem?_eq_some_iff.mp h.cell).1).trans h.cell, h.a1, h.b1, h.d1, h.sum, h.okx, h.oky, h.okz, h.lx, h.ly, h.lz⟩
abbrev xy (a : Nat) (x y : List Job) : List Job := x ++ y.map (Job.up a)
abbrev xyz (a b : Nat) (x y z : List Job) : List Job := xy a x y ++ z.map (Job.up (a + b))
theorem xyz_eq (a b : Nat) (x y z : List Job) : x ++ (y ++ z.map (Job.up b)).map (Job.up a) = xyz a b x y z := by
  show _ = (x ++ y.map (Job.up a)) ++ z.map (Job.up (a + b))
  rw [List.map_append, List.map_map, List.append_assoc]
  congr 2
  exact List.map_congr_left fun o _ => up_up a b o
theorem T3.ok2 {j c a b d : Nat} {x y z : List Job} {s : Sto} (h : T3 j c a b d x y z s) : ∀ o ∈ xy a x y, JobOk (a + b) o := ok_add h.okx h.oky
theorem T3.ok3 {j c a b d : Nat} {x y z : List Job} {s : Sto} (h : T3 j c a b d x y z s) : ∀ o ∈ xyz a b x y z, JobOk (a + b + d) o := ok_add h.ok2 h.okz
theorem xy_len {a : Nat} {x y : List Job} : (xy a x y).length = x.length + y.length := by rw [List.length_append, List.length_map]
theorem xyz_len {a b : Nat} {x y z : List Job} : (xyz a b x y z).length = x.length + y.length + z.length := by rw [List.length_append, List.length_map, xy_len]
abbrev ev (ns : List Int) (o1 o2 : Option W) (j c : Nat) (o5 : Option W) (A : Addr) (a b d : Nat) (x y z : List Job) (o8 o9 o10 o11 o12 o13 o14 : Option W) : Env' :=
  [some (.scr ns), o1, o2, some (.ref j), some (.ref c), o5, some (.lst [jw x, jw y, jw z]), some (.lst [boxV A a x, boxV A b y, boxV A d z]), o8, o9, o10, o11, o12, o13, o14]
def Go (ns : List Int) (D : En) : Prop := ∀ (o1 o2 o3 o4 o5 o6 o7 o8 o9 o10 o11 o12 o13 o14 : Option W) (s : Sto), D.nx [some (.scr ns), o1, o2, o3, o4, o5, o6, o7, o8, o9, o10, o11, o12, o13, o14] s
variable {C : Calls} {ns : List Int} {o1 o2 o5 o8 o9 o10 o11 o12 o13 o14 : Option W} {j c a b d : Nat} {x y z : List Job} {s : Sto} {D : En}
theorem t19_at (hne : 3 < G.ne) (Od : OddSp (G.e 3) 3 C i_law_odd) (Re : RefBSp G C i_law_refused) (t : T3 j c a b d x y z s) (hN : Go ns D) : Zk.wpS G C t_19 (ev ns o1 o2 j c o5 (G.A 0) a b d x y z o8 o9 o10 o11 o12 o13 o14) s D := by
  have cj := t.cj
  simp only [t_19, Zk.wpS, Zk.wpE]
  refine ⟨_, rfl, _, rfl, _, rfl, _, rfl, Od j s _ _ t.jar fun v s1 x1 j1 hv => ?_⟩
  refine ⟨_, rfl, ixL rfl (at0 _ _) ⟨_, rfl, ixL (sqR (x1.at t.cell cj)) (at0 _ _) ⟨_, rfl, ixL rfl (at0 _ _) ?_⟩⟩⟩
  refine ⟨_, rfl, _, rfl, _, rfl, by rw [sizeLine_eq]; simp, ?_⟩
  refine ⟨_, rfl, _, rfl, _, rfl, _, rfl, _, rfl, newF (by rw [sizeLine_eq]; simp) (.inl ⟨_, rfl, by simp, ?_⟩)⟩
  refine for_by (fun rem env s => (∀ w ∈ rem, NoBox G w) ∧ ∃ o, env = ev ns o1 o2 j c o5 (G.A 0) a b d x y z o8 o9 o10 o11 o12 o13 o) ?_ ?_ _ _ _ ⟨fun w hw => ?_, _, rfl⟩
  · rintro w rem env s ⟨hw, o, rfl⟩ P hP
    simp only [tgP]
    refine ⟨_, rfl, ixL rfl (at0 _ _) ⟨_, rfl, _, rfl, _, rfl, _, rfl, Re a x w s _ _ (hw w (List.mem_cons_self ..)) ?_⟩⟩
    exact ⟨_, rfl, _, rfl, (fun z => absurd z (by decide)), fun _ => hP _ _ ⟨fun x hx => hw x (List.mem_cons_of_mem _ hx), _, rfl⟩⟩
  · rintro env s ⟨_, o, rfl⟩
    exact hN _ _ _ _ _ _ _ _ _ _ _ _ _ _ _
  · simp only [List.mem_cons, List.not_mem_nil, or_false] at hw
    rcases hw with rfl | rfl | rfl | rfl
    · exact hv.no hne
    · exact .inr (.inr (.inr (.inr (.inl ⟨_, rfl⟩))))
    · exact .inr (.inr (.inr (.inr (.inr (.inl ⟨_, rfl⟩)))))
    · exact .inr (.inr (.inl ⟨_, rfl⟩))
theorem t18_at (hne : 3 < G.ne) (Od : OddSp (G.e 3) 3 C i_law_odd) (Re : RefBSp G C i_law_refused) (Ci : CrateIsSp (G.A 0) C i_law_crate_is) (t : T3 j c a b d x y z s) (hN : Go ns D) : Zk.wpS G C t_18 (ev ns o1 o2 j c o5 (G.A 0) a b d x y z o8 o9 o10 o11 o12 o13 o14) s D := by
  have sm := t.sum
  have lx := t.lx
  have ly := t.ly
  have lz := t.lz
  simp only [t_18, Zk.wpS, Zk.wpE]
  refine ⟨_, rfl, by omega, by omega, .inl ⟨_, rfl, by simp, ?_⟩⟩
  have r3 : ((List.range (3 : Int).toNat).map fun k : Nat => W.int (k : Nat)) = [.int 0, .int 1, .int 2] := rfl
  rw [r3]
  refine for_by (fun rem env s' => s' = s ∧ (∀ w ∈ rem, w = .int 0 ∨ w = .int 1 ∨ w = .int 2) ∧ ∃ o, env = ev ns o1 o2 j c o5 (G.A 0) a b d x y z o8 o9 o10 o11 o12 o o14) ?_ ?_ _ _ _ ⟨rfl, fun w hw => by simpa using hw, _, rfl⟩
  · rintro w rem env s' ⟨rfl, hw, o, rfl⟩ P hP
    have fin : ∀ o, P (ev ns o1 o2 j c o5 (G.A 0) a b d x y z o8 o9 o10 o11 o12 o o14) s' := fun o => hP _ _ ⟨rfl, fun w' h' => hw w' (List.mem_cons_of_mem _ h'), _, rfl⟩
    simp only [tgP]
    rcases hw w (List.mem_cons_self ..) with rfl | rfl | rfl
    · refine ⟨_, rfl, _, rfl, ixL rfl (at0 _ _) ⟨_, rfl, _, rfl, ixL (sqR t.cell) (at0 _ _) ⟨_, rfl, _, rfl, ixL rfl (at0 _ _) ⟨_, rfl, _, rfl, _, rfl, _, rfl, Ci a x _ s' _ _ t.okx (by omega) (by omega) rfl ?_⟩⟩⟩⟩
      exact ⟨_, rfl, _, rfl, (fun z => absurd z (by decide)), fun _ => fin _⟩
    · refine ⟨_, rfl, _, rfl, ixL rfl (at1 _ _ _) ⟨_, rfl, _, rfl, ixL (sqR t.cell) (at1 _ _ _) ⟨_, rfl, _, rfl, ixL rfl (at1 _ _ _) ⟨_, rfl, _, rfl, _, rfl, _, rfl, Ci b y _ s' _ _ t.oky (by omega) (by omega) rfl ?_⟩⟩⟩⟩
      exact ⟨_, rfl, _, rfl, (fun z => absurd z (by decide)), fun _ => fin _⟩
    · refine ⟨_, rfl, _, rfl, ixL rfl (at2 _ _ _ _) ⟨_, rfl, _, rfl, ixL (sqR t.cell) (at2 _ _ _ _) ⟨_, rfl, _, rfl, ixL rfl (at2 _ _ _ _) ⟨_, rfl, _, rfl, _, rfl, _, rfl, Ci d z _ s' _ _ t.okz (by omega) (by omega) rfl ?_⟩⟩⟩⟩
      exact ⟨_, rfl, _, rfl, (fun z => absurd z (by decide)), fun _ => fin _⟩
  · rintro env s' ⟨rfl, _, o, rfl⟩
    exact t19_at hne Od Re t hN
theorem t17_at (hne : 3 < G.ne) (Od : OddSp (G.e 3) 3 C i_law_odd) (Re : RefBSp G C i_law_refused) (Ci : CrateIsSp (G.A 0) C i_law_crate_is) (Ra : RaJobsSp C i_law_raised_jobs) (Ad : AddBSp (G.A 0) C i_Box_add) (t : T3 j c a b d x y z s) (hN : Go ns D) : Zk.wpS G C t_17 (ev ns o1 o2 j c o5 (G.A 0) a b d x y z o8 o9 o10 o11 o12 o13 o14) s D := by
  have sm := t.sum
  have lz := t.lz
  simp only [t_17, Zk.wpS, Zk.wpE]
  refine ⟨_, rfl, ixL (sqR t.cell) (at2 _ _ _ _) ⟨_, rfl, ixL (sqR t.cell) (at2 _ _ _ _) (addI (ltI ⟨_, rfl, fun q => ?_, fun q => ⟨_, rfl, (fun w => absurd (q.symm.trans w) (by decide)), fun _ => t18_at hne Od Re Ci t hN⟩⟩))⟩⟩
  refine ⟨_, rfl, ixL rfl (at2 _ _ _ _) ⟨_, rfl, _, rfl, lenS rfl (ltI ⟨_, rfl, fun q2 => ?_, fun _ => t18_at hne Od Re Ci t hN⟩)⟩⟩
  refine ⟨_, rfl, ixL rfl (at2 _ _ _ _) ⟨_, rfl, ixL rfl (at2 _ _ _ _) ⟨⟨_, rfl⟩, ⟨_, rfl⟩, Ad d d z z s _ _ t.okz t.okz (by omega) (by omega) t.d1 (by omega) (by omega) fun s1 x1 => ?_⟩⟩⟩
  have t1 := t.ext x1
  refine ⟨_, rfl, ixL (sqR t1.cell) (at2 _ _ _ _) (mulI (.inl ⟨by omega, by omega⟩) ?_)⟩
  refine ⟨_, rfl, ixL rfl (at2 _ _ _ _) ⟨_, rfl, ixL rfl (at2 _ _ _ _) ⟨_, rfl, ixL (sqR t1.cell) (at2 _ _ _ _) ⟨_, rfl, _, rfl, _, rfl, Ra d d z s1 _ _ t.okz (by omega) (by omega) fun s2 x2 => addL rfl rfl (newF (by rw [List.length_append, List.length_map, List.length_map, List.length_map, sizeLine_eq]; omega) ?_)⟩⟩⟩⟩
  rw [← List.map_append, show (2 : Int) * (d : Int) = ((d + d : Nat) : Int) by omega]
  refine ⟨_, rfl, _, rfl, _, rfl, _, rfl, Ci (d + d) _ _ s2 _ _ (ok_add t.okz t.okz) (by rw [List.length_append, List.length_map]; omega) (by omega) rfl ?_⟩
  exact ⟨_, rfl, _, rfl, (fun z => absurd z (by decide)), fun _ => t18_at hne Od Re Ci (t1.ext x2) hN⟩
theorem t16_at (hne : 3 < G.ne) (Od : OddSp (G.e 3) 3 C i_law_odd) (Re : RefBSp G C i_law_refused) (Ci : CrateIsSp (G.A 0) C i_law_crate_is) (Ra : RaJobsSp C i_law_raised_jobs) (Ad : AddBSp (G.A 0) C i_Box_add) (t : T3 j c a b d x y z s) (hN : Go ns D) : Zk.wpS G C t_16 (ev ns o1 o2 j c o5 (G.A 0) a b d x y z o8 o9 o10 (some (boxV (G.A 0) (a + b) (xy a x y))) (some (jw (xy a x y))) o13 o14) s D := by
  have sm := t.sum
  have lx := t.lx
  have ly := t.ly
  simp only [t_16, Zk.wpS, Zk.wpE]
  refine ⟨_, rfl, _, rfl, ixL (sqR t.cell) (at0 _ _) ⟨_, rfl, ixL (sqR t.cell) (at1 _ _ _) (addI ?_)⟩⟩
  rw [show (a : Int) + (b : Int) = ((a + b : Nat) : Int) by omega]
  refine ⟨_, rfl, _, rfl, _, rfl, _, rfl, _, rfl, Ci (a + b) _ _ s _ _ t.ok2 (by rw [xy_len]; omega) (by omega) rfl ?_⟩
  exact ⟨_, rfl, _, rfl, (fun z => absurd z (by decide)), fun _ => t17_at hne Od Re Ci Ra Ad t hN⟩
theorem sum3 : ([(a : Int), (b : Int), (d : Int)]).sum = ((a + b + d : Nat) : Int) := by simp; omega
theorem t15_at (hne : 3 < G.ne) (Od : OddSp (G.e 3) 3 C i_law_odd) (Re : RefBSp G C i_law_refused) (Ci : CrateIsSp (G.A 0) C i_law_crate_is) (Ra : RaJobsSp C i_law_raised_jobs) (Ad : AddBSp (G.A 0) C i_Box_add) (t : T3 j c a b d x y z s) (hN : Go ns D) : Zk.wpS G C t_15 (ev ns o1 o2 j c o5 (G.A 0) a b d x y z (some (boxV (G.A 0) (a + b + d) (xyz a b x y z))) (some (jw (xyz a b x y z))) o10 (some (boxV (G.A 0) (a + b) (xy a x y))) (some (jw (xy a x y))) o13 o14) s D := by
  have sm := t.sum
  have lx := t.lx
  have ly := t.ly
  have lz := t.lz
  simp only [t_15, Zk.wpS, Zk.wpE]
  refine ⟨_, rfl, _, rfl, _, rfl, _, rfl, ⟨_, _, [(a : Int), (b : Int), (d : Int)], rfl, lsR t.cell, rfl, ?_⟩⟩
  rw [sum3]
  refine ⟨_, rfl, _, rfl, _, rfl, _, rfl, _, rfl, Ci (a + b + d) _ _ s _ _ t.ok3 (by rw [xyz_len]; omega) (by omega) rfl ?_⟩
  exact ⟨_, rfl, _, rfl, (fun z => absurd z (by decide)), fun _ => t16_at hne Od Re Ci Ra Ad t hN⟩
theorem t12_at (hne : 3 < G.ne) (Od : OddSp (G.e 3) 3 C i_law_odd) (Re : RefBSp G C i_law_refused) (Ci : CrateIsSp (G.A 0) C i_law_crate_is) (Ra : RaJobsSp C i_law_raised_jobs) (Ad : AddBSp (G.A 0) C i_Box_add) (t : T3 j c a b d x y z s) (hN : Go ns D) : Zk.wpS G C t_12 (ev ns o1 o2 j c o5 (G.A 0) a b d x y z (some (boxV (G.A 0) (a + b) (xy a x y))) (some (jw (xyz a b x y z))) o10 o11 o12 o13 o14) s D := by
  have sm := t.sum
  have lx := t.lx
  have ly := t.ly
  have lz := t.lz
  simp only [t_12, Zk.wpS, Zk.wpE]
  refine ⟨_, rfl, _, rfl, ixL rfl (at0 _ _) ⟨_, rfl, ixL rfl (at1 _ _ _) ⟨_, rfl, ixL (sqR t.cell) (at0 _ _) ⟨_, rfl, _, rfl, _, rfl, Ra b a y s _ _ t.oky (by omega) (by omega) fun s1 x1 => addL rfl rfl (newF (by rw [List.length_append, List.length_map, List.length_map, List.length_map, sizeLine_eq]; omega) ?_)⟩⟩⟩⟩
  rw [← List.map_append]
  refine ⟨_, rfl, ⟨_, rfl⟩, _, rfl, ixL rfl (at2 _ _ _ _) ⟨⟨_, rfl⟩, Ad (a + b) d (xy a x y) z s1 _ _ t.ok2 t.okz (by rw [xy_len]; omega) (by omega) (by have := t.a1; omega) (by omega) (by omega) fun s2 x2 => ?_⟩⟩
  exact t15_at hne Od Re Ci Ra Ad (t.ext (x1.trans x2)) hN
theorem t11_at (hne : 3 < G.ne) (Od : OddSp (G.e 3) 3 C i_law_odd) (Re : RefBSp G C i_law_refused) (Ci : CrateIsSp (G.A 0) C i_law_crate_is) (Ra : RaJobsSp C i_law_raised_jobs) (Ad : AddBSp (G.A 0) C i_Box_add) (t : T3 j c a b d x y z s) (hN : Go ns D) : Zk.wpS G C t_11 (ev ns o1 o2 j c o5 (G.A 0) a b d x y z (some (boxV (G.A 0) (a + b) (xy a x y))) (some (jw (xyz a b x y z))) o10 o11 o12 o13 o14) s D := by
  have sm := t.sum
  have lx := t.lx
  have ly := t.ly
  have lz := t.lz
  simp only [t_11, Zk.wpS, Zk.wpE]
  refine ⟨_, rfl, _, rfl, ixL rfl (at2 _ _ _ _) ⟨⟨_, rfl⟩, ⟨_, rfl⟩, Ad (a + b) d (xy a x y) z s _ _ t.ok2 t.okz (by rw [xy_len]; omega) (by omega) (by have := t.a1; omega) (by omega) (by omega) fun s1 x1 => ?_⟩⟩
  refine ⟨_, rfl, ixL rfl (at0 _ _) ⟨_, rfl, ixL rfl (at1 _ _ _) ⟨_, rfl, ixL rfl (at2 _ _ _ _) ⟨⟨_, rfl⟩, ⟨_, rfl⟩, Ad b d y z s1 _ _ t.oky t.okz (by omega) (by omega) t.b1 (by omega) (by omega) fun s2 x2 => ?_⟩⟩⟩⟩
  refine ⟨⟨_, rfl⟩, ⟨_, rfl⟩, Ad a (b + d) x _ s2 _ _ t.okx (ok_add t.oky t.okz) (by omega) (by rw [List.length_append, List.length_map]; omega) t.a1 (by omega) (by omega) fun s3 x3 => ?_⟩
  rw [xyz_eq, show a + (b + d) = a + b + d by omega]
  refine ⟨_, rfl, _, rfl, _, rfl, newF (by rw [sizeLine_eq]; simp) (.inl ⟨_, rfl, by simp, ?_⟩)⟩
  refine for_by (fun rem env s' => s' = s3 ∧ (∀ w ∈ rem, w = boxV (G.A 0) (a + b + d) (xyz a b x y z)) ∧ ∃ o, env = ev ns o1 o2 j c o5 (G.A 0) a b d x y z (some (boxV (G.A 0) (a + b) (xy a x y))) (some (jw (xyz a b x y z))) o o11 o12 o13 o14) ?_ ?_ _ _ _ ⟨rfl, fun w hw => by simpa using hw, _, rfl⟩
  · rintro w rem env s' ⟨rfl, hw, o, rfl⟩ P hP
    obtain rfl := hw w (List.mem_cons_self ..)
    have t3 := t.ext (x1.trans (x2.trans x3))
    simp only [tgP]
    refine ⟨_, rfl, _, rfl, _, rfl, _, rfl, ⟨_, _, [(a : Int), (b : Int), (d : Int)], rfl, lsR t3.cell, rfl, ?_⟩⟩
    rw [sum3]
    refine ⟨_, rfl, _, rfl, _, rfl, _, rfl, _, rfl, Ci (a + b + d) _ _ s' _ _ t.ok3 (by rw [xyz_len]; omega) (by omega) rfl ?_⟩
    exact ⟨_, rfl, _, rfl, (fun z => absurd z (by decide)), fun _ => hP _ _ ⟨rfl, fun w' h' => hw w' (List.mem_cons_of_mem _ h'), _, rfl⟩⟩
  · rintro env s' ⟨rfl, _, o, rfl⟩
    exact t12_at hne Od Re Ci Ra Ad (t.ext (x1.trans (x2.trans x3))) hN
theorem t10_at (hne : 3 < G.ne) (Od : OddSp (G.e 3) 3 C i_law_odd) (Re : RefBSp G C i_law_refused) (Ci : CrateIsSp (G.A 0) C i_law_crate_is) (Ra : RaJobsSp C i_law_raised_jobs) (Ad : AddBSp (G.A 0) C i_Box_add) (t : T3 j c a b d x y z s) (hN : Go ns D) : Zk.wpS G C t_10 (ev ns o1 o2 j c o5 (G.A 0) a b d x y z (some (boxV (G.A 0) (a + b) (xy a x y))) (some (jw (xy a x y))) o10 o11 o12 o13 o14) s D := by
  have sm := t.sum
  have lx := t.lx
  have ly := t.ly
  have lz := t.lz
  simp only [t_10, Zk.wpS, Zk.wpE]
  refine ⟨_, rfl, _, rfl, ixL rfl (at2 _ _ _ _) ⟨_, rfl, ixL (sqR t.cell) (at0 _ _) ⟨_, rfl, ixL (sqR t.cell) (at1 _ _ _) (addI ?_)⟩⟩⟩
  rw [show (a : Int) + (b : Int) = ((a + b : Nat) : Int) by omega]
  refine ⟨_, rfl, _, rfl, _, rfl, Ra d (a + b) z s _ _ t.okz (by omega) (by omega) fun s1 x1 => addL rfl rfl (newF (by rw [List.length_append, List.length_map, List.length_map, List.length_map, xy_len, sizeLine_eq]; omega) ?_)⟩
  rw [← List.map_append]
  exact t11_at hne Od Re Ci Ra Ad (t.ext x1) hN
theorem t9_at (hne : 3 < G.ne) (Od : OddSp (G.e 3) 3 C i_law_odd) (Re : RefBSp G C i_law_refused) (Ci : CrateIsSp (G.A 0) C i_law_crate_is) (Ra : RaJobsSp C i_law_raised_jobs) (Ad : AddBSp (G.A 0) C i_Box_add) (t : T3 j c a b d x y z s) (hN : Go ns D) : Zk.wpS G C t_9 (ev ns o1 o2 j c o5 (G.A 0) a b d x y z (some (boxV (G.A 0) (a + b) (xy a x y))) (some (jw (xy a x y))) o10 o11 o12 o13 o14) s D := by
  have sm := t.sum
  have lx := t.lx
  have ly := t.ly
  simp only [t_9, Zk.wpS, Zk.wpE]
  refine ⟨_, rfl, _, rfl, ixL (sqR t.cell) (at0 _ _) ⟨_, rfl, ixL (sqR t.cell) (at1 _ _ _) (addI ?_)⟩⟩
  rw [show (a : Int) + (b : Int) = ((a + b : Nat) : Int) by omega]
  refine ⟨_, rfl, _, rfl, _, rfl, _, rfl, _, rfl, Ci (a + b) _ _ s _ _ t.ok2 (by rw [xy_len]; omega) (by omega) rfl ?_⟩
  exact ⟨_, rfl, _, rfl, (fun z => absurd z (by decide)), fun _ => t10_at hne Od Re Ci Ra Ad t hN⟩
theorem t4_at (hne : 3 < G.ne) (Od : OddSp (G.e 3) 3 C i_law_odd) (Re : RefBSp G C i_law_refused) (Ci : CrateIsSp (G.A 0) C i_law_crate_is) (Ra : RaJobsSp C i_law_raised_jobs) (Ad : AddBSp (G.A 0) C i_Box_add) (T : TakeSp C i_law_take) (Js : JobsDrawSp C i_law_some_jobs) (I : InitSp (G.A 0) C i_Box_init) {o6 o7 : Option W} (hj : JarOk s j) (cj : c ≠ j) (hc : s[c]? = some (true, .lst [.int a, .int b, .int d])) (a1 : 1 ≤ a) (b1 : 1 ≤ b) (d1 : 1 ≤ d) (sm : a + b + d ≤ 8) (hN : Go ns D) : Zk.wpS G C t_4 [some (.scr ns), o1, o2, some (.ref j), some (.ref c), o5, o6, o7, o8, o9, o10, o11, o12, o13, o14] s D := by
  simp only [t_4, Zk.wpS, Zk.wpE]
  refine ⟨_, rfl, _, rfl, _, rfl, _, rfl, newF (by rw [sizeLine_eq]; simp) ?_⟩
  refine ⟨_, rfl, _, rfl, _, rfl, _, rfl, newF (by rw [sizeLine_eq]; simp) ?_⟩
  refine ⟨_, rfl, _, rfl, _, rfl, _, rfl, newF (by rw [sizeLine_eq]; simp) ?_⟩
  refine ⟨_, rfl, _, rfl, _, rfl, _, rfl, newF (by rw [sizeLine_eq]; simp) ?_⟩
  refine ⟨_, rfl, _, rfl, _, rfl, _, rfl, _, rfl, newF (by rw [sizeLine_eq]; simp) ?_⟩
  refine ⟨_, rfl, _, rfl, _, rfl, _, rfl, T j 4 s _ _ hj (by omega) (by omega) fun r s1 x1 j1 r0 r1 => ?_⟩
  have pk : ∃ p q u : Nat, p ≤ 6 ∧ q ≤ 6 ∧ u ≤ 6 ∧ atI [W.lst [.int 2, .int 2, .int 2], W.lst [.int 0, .int 6, .int 0], W.lst [.int 6, .int 0, .int 0], W.lst [.int 1, .int 4, .int 1]] r = some (.lst [.int p, .int q, .int u]) := by
    have : r = 0 ∨ r = 1 ∨ r = 2 ∨ r = 3 := by omega
    rcases this with rfl | rfl | rfl | rfl
    · exact ⟨2, 2, 2, by omega, by omega, by omega, rfl⟩
    · exact ⟨0, 6, 0, by omega, by omega, by omega, rfl⟩
    · exact ⟨6, 0, 0, by omega, by omega, by omega, rfl⟩
    · exact ⟨1, 4, 1, by omega, by omega, by omega, rfl⟩
  obtain ⟨p, q, u, p6, q6, u6, hr⟩ := pk
  refine ixL rfl hr ?_
  refine ⟨_, rfl, by omega, by omega, .inl ⟨_, rfl, by rw [List.length_map, List.length_range, sizeLine_eq]; simp, ?_⟩⟩
  have r3 : ((List.range (3 : Int).toNat).map fun k : Nat => W.int (k : Nat)) = [.int 0, .int 1, .int 2] := rfl
  rw [r3]
  have c1 := x1.at hc cj
  simp only [lcP, tgP]
  refine ⟨trivial, .inl ⟨trivial, _, rfl, _, rfl, _, rfl, ixL (sqR c1) (at0 _ _) ⟨_, rfl, _, rfl, _, rfl, ixL rfl (at0 _ _) (addI ⟨_, rfl, _, rfl, _, rfl, T j _ s1 _ _ j1 (by omega) (by omega) fun w1 s2 x2 j2 y0 y1 => ?_⟩)⟩⟩⟩
  obtain ⟨m1, rfl⟩ := Int.eq_ofNat_of_zero_le y0
  refine ⟨_, rfl, _, rfl, _, rfl, _, rfl, Js j a m1 s2 _ _ j2 a1 (by omega) (by omega) fun x s3 x3 j3 okx lx _ => ?_⟩
  have c3 := x3.at (x2.at c1 cj) cj
  refine ⟨trivial, .inl ⟨trivial, _, rfl, _, rfl, _, rfl, ixL (sqR c3) (at1 _ _ _) ⟨_, rfl, _, rfl, _, rfl, ixL rfl (at1 _ _ _) (addI ⟨_, rfl, _, rfl, _, rfl, T j _ s3 _ _ j3 (by omega) (by omega) fun w2 s4 x4 j4 z0 z1 => ?_⟩)⟩⟩⟩
  obtain ⟨m2, rfl⟩ := Int.eq_ofNat_of_zero_le z0
  refine ⟨_, rfl, _, rfl, _, rfl, _, rfl, Js j b m2 s4 _ _ j4 b1 (by omega) (by omega) fun y s5 x5 j5 oky ly _ => ?_⟩
  have c5 := x5.at (x4.at c3 cj) cj
  refine ⟨trivial, .inl ⟨trivial, _, rfl, _, rfl, _, rfl, ixL (sqR c5) (at2 _ _ _ _) ⟨_, rfl, _, rfl, _, rfl, ixL rfl (at2 _ _ _ _) (addI ⟨_, rfl, _, rfl, _, rfl, T j _ s5 _ _ j5 (by omega) (by omega) fun w3 s6 x6 j6 v0 v1 => ?_⟩)⟩⟩⟩
  obtain ⟨m3, rfl⟩ := Int.eq_ofNat_of_zero_le v0
  refine ⟨_, rfl, _, rfl, _, rfl, _, rfl, Js j d m3 s6 _ _ j6 d1 (by omega) (by omega) fun z s7 x7 j7 okz lz _ => ?_⟩
  have c7 := x7.at (x6.at c5 cj) cj
  refine ⟨trivial, newF (by rw [sizeLine_eq]; simp) ?_⟩
  have t : T3 j c a b d x y z s7 := ⟨j7, cj, c7, a1, b1, d1, sm, okx, oky, okz, by omega, by omega, by omega⟩
  have lx6 := t.lx
  have ly6 := t.ly
  have lz6 := t.lz
  have t7 := t
  refine ⟨_, rfl, by omega, by omega, .inl ⟨_, rfl, by rw [List.length_map, List.length_range, sizeLine_eq]; simp, ?_⟩⟩
  rw [r3]
  simp only [lcP]
  refine ⟨trivial, .inl ⟨trivial, _, rfl, _, rfl, ixL (sqR t7.cell) (at0 _ _) ⟨_, rfl, _, rfl, ixL rfl (at0 _ _) ⟨_, rfl, _, rfl, _, rfl, I a x _ s7.length _ _ _ (by simp) (.inl rfl) t.okx (by omega) t.a1 ⟨rfl, boxF a x, true, by simp, ?_⟩⟩⟩⟩⟩
  have e7 : Ext s7 (((s7 ++ [(true, Cell.ins (G.A 0) [])]).set s7.length (true, Cell.ins (G.A 0) (boxF a x))).set s7.length (false, .ins (G.A 0) (boxF a x))) := set_ext (set_ext Ext.app (Nat.le_refl _)) (Nat.le_refl _)
  revert e7
  generalize (((s7 ++ [(true, Cell.ins (G.A 0) [])]).set s7.length (true, Cell.ins (G.A 0) (boxF a x))).set s7.length (false, .ins (G.A 0) (boxF a x))) = s8
  intro e7
  have t8 := t7.ext e7
  refine ⟨trivial, .inl ⟨trivial, _, rfl, _, rfl, ixL (sqR t8.cell) (at1 _ _ _) ⟨_, rfl, _, rfl, ixL rfl (at1 _ _ _) ⟨_, rfl, _, rfl, _, rfl, I b y _ s8.length _ _ _ (by simp) (.inl rfl) t.oky (by omega) t.b1 ⟨rfl, boxF b y, true, by simp, ?_⟩⟩⟩⟩⟩
  have e8 : Ext s8 (((s8 ++ [(true, Cell.ins (G.A 0) [])]).set s8.length (true, Cell.ins (G.A 0) (boxF b y))).set s8.length (false, .ins (G.A 0) (boxF b y))) := set_ext (set_ext Ext.app (Nat.le_refl _)) (Nat.le_refl _)
  revert e8
  generalize (((s8 ++ [(true, Cell.ins (G.A 0) [])]).set s8.length (true, Cell.ins (G.A 0) (boxF b y))).set s8.length (false, .ins (G.A 0) (boxF b y))) = s9
  intro e8
  have t9 := t8.ext e8
  refine ⟨trivial, .inl ⟨trivial, _, rfl, _, rfl, ixL (sqR t9.cell) (at2 _ _ _ _) ⟨_, rfl, _, rfl, ixL rfl (at2 _ _ _ _) ⟨_, rfl, _, rfl, _, rfl, I d z _ s9.length _ _ _ (by simp) (.inl rfl) t.okz (by omega) t.d1 ⟨rfl, boxF d z, true, by simp, ?_⟩⟩⟩⟩⟩
  have e9 : Ext s9 (((s9 ++ [(true, Cell.ins (G.A 0) [])]).set s9.length (true, Cell.ins (G.A 0) (boxF d z))).set s9.length (false, .ins (G.A 0) (boxF d z))) := set_ext (set_ext Ext.app (Nat.le_refl _)) (Nat.le_refl _)
  revert e9
  generalize (((s9 ++ [(true, Cell.ins (G.A 0) [])]).set s9.length (true, Cell.ins (G.A 0) (boxF d z))).set s9.length (false, .ins (G.A 0) (boxF d z))) = s10
  intro e9
  have t10 := t9.ext e9
  refine ⟨trivial, newF (by rw [sizeLine_eq]; simp) ?_⟩
  refine ⟨_, rfl, ixL rfl (at0 _ _) ⟨_, rfl, ixL rfl (at1 _ _ _) ⟨⟨_, rfl⟩, ⟨_, rfl⟩, Ad a b x y s10 _ _ okx oky (by omega) (by omega) a1 (by omega) (by omega) fun s11 x11 => ?_⟩⟩⟩
  have t11 := t10.ext x11
  refine ⟨_, rfl, ixL rfl (at0 _ _) ⟨_, rfl, ixL rfl (at1 _ _ _) ⟨_, rfl, ixL (sqR t11.cell) (at0 _ _) ⟨_, rfl, _, rfl, _, rfl, Ra b a y s11 _ _ oky (by omega) (by omega) fun s12 x12 => addL rfl rfl (newF (by rw [List.length_append, List.length_map, List.length_map, List.length_map, sizeLine_eq]; omega) ?_)⟩⟩⟩⟩
  rw [← List.map_append]
  exact t9_at hne Od Re Ci Ra Ad (t11.ext x12) hN
theorem law_ok {C : Calls} (g : BoxG G) (hne : 3 < G.ne) (F : FillSp C i_law_fill) (T : TakeSp C i_law_take) (Js : JobsDrawSp C i_law_some_jobs) (I : InitSp (G.A 0) C i_Box_init) (Ad : AddBSp (G.A 0) C i_Box_add) (Ra : RaJobsSp C i_law_raised_jobs) (Ci : CrateIsSp (G.A 0) C i_law_crate_is) (Od : OddSp (G.e 3) 3 C i_law_odd) (Re : RefBSp G C i_law_refused) {ns : List Int} (hns : ns.length ≤ 63) {st : Sto} {X : XPo} {Q : Po} (k : ∀ s, Q (.bl true) s) {D : En} (hD : D.rt = Q) :
    Zk.wpS G C b_law (startW 15 [.scr ns]) st D := by
  rw [b_law_eq]
  simp only [Zk.wpS, Zk.wpE]
  have cl := cut_len (ns.map W.int) none (some 8)
  rw [List.length_map] at cl
  refine ⟨_, rfl, _, rfl, _, rfl, newF (by rw [sizeLine_eq]; simp) ⟨_, rfl, none, rfl, some 8, ⟨_, rfl, rfl⟩, .inr (.inl ⟨ns, rfl, newF ?_ (addL rfl rfl (newF ?_ (.inl ⟨_, rfl, ?_, ?_⟩)))⟩)⟩⟩
  · rw [sizeLine_eq]; omega
  · rw [List.length_append, sizeLine_eq]; simp; omega
  · rw [List.length_append]; simp; omega
  refine for_by (fun rem env s => (∀ w ∈ rem, ∃ i : Int, w = .int i) ∧ ∃ (o1 o2 o3 o4 o5 o6 o7 o8 o9 o10 o11 o12 o13 o14 : Option W), env = [some (.scr ns), o1, o2, o3, o4, o5, o6, o7, o8, o9, o10, o11, o12, o13, o14]) ?_ ?_ _ _ _ ⟨fun w hw => ?_, _, none, none, none, none, none, none, none, none, none, none, none, none, none, rfl⟩
  · rintro w rem env s ⟨hw, o1, o2, o3, o4, o5, o6, o7, o8, o9, o10, o11, o12, o13, o14, rfl⟩ P' hR
    obtain ⟨cell, rfl⟩ := hw w (List.mem_cons_self ..)
    simp only [tgP, t_1, t_3, Zk.wpS, Zk.wpE]
    refine ⟨_, rfl, _, rfl, _, rfl, F cell s _ _ fun x hj => ?_⟩
    obtain ⟨j, hje⟩ : ∃ j, j = s.length := ⟨_, rfl⟩
    rw [← hje] at hj ⊢
    refine ⟨_, rfl, _, rfl, _, rfl, _, rfl, T j 3 _ _ _ hj (by omega) (by omega) fun r1 s1 a1 j1 y0 y1 => addI ?_⟩
    refine ⟨_, rfl, _, rfl, _, rfl, _, rfl, T j 3 _ _ _ j1 (by omega) (by omega) fun r2 s2 a2 j2 z0 z1 => addI ?_⟩
    refine ⟨_, rfl, _, rfl, _, rfl, _, rfl, T j 2 _ _ _ j2 (by omega) (by omega) fun r3 s3 a3 j3 v0 v1 => addI ?_⟩
    obtain ⟨p, rfl⟩ := Int.eq_ofNat_of_zero_le y0
    obtain ⟨q, rfl⟩ := Int.eq_ofNat_of_zero_le z0
    obtain ⟨u, rfl⟩ := Int.eq_ofNat_of_zero_le v0
    rw [show (1 : Int) + (p : Int) = ((1 + p : Nat) : Int) by omega, show (1 : Int) + (q : Int) = ((1 + q : Nat) : Int) by omega, show (1 : Int) + (u : Int) = ((1 + u : Nat) : Int) by omega]
    refine ⟨_, rfl, _, rfl, _, rfl, _, rfl, newT (by rw [sizeLine_eq]; simp) ?_⟩
    obtain ⟨c, hc0⟩ : ∃ c, c = s3.length := ⟨_, rfl⟩
    have cj : c ≠ j := by have := j3.lt; omega
    have hc : (s3 ++ [(true, Cell.lst [.int (1 + p : Nat), .int (1 + q : Nat), .int (1 + u : Nat)])])[c]? = some (true, .lst [.int (1 + p : Nat), .int (1 + q : Nat), .int (1 + u : Nat)]) := by rw [hc0]; simp
    have j4 : JarOk (s3 ++ [(true, Cell.lst [.int (1 + p : Nat), .int (1 + q : Nat), .int (1 + u : Nat)])]) j := j3.app
    rw [← hc0]
    revert hc j4
    generalize (s3 ++ [(true, Cell.lst [.int (1 + p : Nat), .int (1 + q : Nat), .int (1 + u : Nat)])]) = s4
    intro hc j4
    have go : Go ns { D with nx := P', ct := P', bk := D.nx } := fun o1 o2 o3 o4 o5 o6 o7 o8 o9 o10 o11 o12 o13 o14 s' => hR _ _ ⟨fun w' h' => hw w' (List.mem_cons_of_mem _ h'), _, _, _, _, _, _, _, _, _, _, _, _, _, _, rfl⟩
    refine ⟨_, rfl, _, rfl, _, rfl, _, rfl, T j 4 _ _ _ j4 (by omega) (by omega) fun r4 s5 a5 j5 _ _ => eqI ⟨_, rfl, fun _ => ?_, fun _ => ?_⟩⟩
    · have h5 := a5.at hc cj
      refine ⟨_, rfl, c, _, _, 0, rfl, h5, rfl, rfl, ?_⟩
      have h6 := setSelf (y := (true, Cell.lst [W.int 5, .int (1 + q : Nat), .int (1 + u : Nat)])) h5
      refine ⟨_, rfl, c, _, _, 2, rfl, h6, rfl, rfl, ?_⟩
      have h7 := setSelf (y := (true, Cell.lst [W.int 5, .int (1 + q : Nat), .int 1])) h6
      refine ⟨_, rfl, _, rfl, _, rfl, _, rfl, T j 2 _ _ _ ((j5.off cj).off cj) (by omega) (by omega) fun r5 s8 a8 j8 w0 w1 => addI ⟨_, rfl, c, _, _, 1, rfl, a8.at h7 cj, rfl, rfl, ?_⟩⟩
      obtain ⟨v, rfl⟩ := Int.eq_ofNat_of_zero_le w0
      rw [show (1 : Int) + (v : Int) = ((1 + v : Nat) : Int) by omega]
      have h8 := setSelf (y := (true, Cell.lst [W.int (5 : Nat), .int (1 + v : Nat), .int (1 : Nat)])) (a8.at h7 cj)
      exact t4_at hne Od Re Ci Ra Ad T Js I (j8.off cj) cj h8 (by omega) (by omega) (by omega) (by omega) go
    · exact t4_at hne Od Re Ci Ra Ad T Js I j5 cj (a5.at hc cj) (by omega) (by omega) (by omega) (by omega) go
  · rintro env s ⟨_, o1, o2, o3, o4, o5, o6, o7, o8, o9, o10, o11, o12, o13, o14, rfl⟩
    rw [hD]
    exact k s
  · rcases List.mem_append.mp hw with h | h
    · exact ⟨_, List.mem_singleton.mp h⟩
    · obtain ⟨i, _, e⟩ := List.mem_map.mp (List.mem_of_mem_drop (List.mem_of_mem_take h))
      exact ⟨i, e.symm⟩
end
section
theorem boxG (A : AA) : BoxG (Gof cfg A) := ⟨rfl, rfl, show 0 < cfg.cis.length from by decide, show supB cfg.sup 0 0 = true from by decide⟩
variable (A : AA)
theorem s_law_fill_0 (n : Nat) : FillSp (callW (Gof cfg A) ds (n + 1)) 7 := fill_ok h_law_fill
theorem s_law_take_0 (n : Nat) : TakeSp (callW (Gof cfg A) ds (n + 1)) 8 := take_ok h_law_take
theorem s_law_mixed_0 (n : Nat) : MixSp (callW (Gof cfg A) ds (n + 2)) 9 := mix_ok h_law_mixed (s_law_take_0 A (n + 0))
theorem s_law_some_job_0 (n : Nat) : JobDrawSp (callW (Gof cfg A) ds (n + 3)) 14 := someJob_ok h_law_some_job (s_law_take_0 A (n + 1)) (s_law_mixed_0 A (n + 0))
theorem s_law_some_jobs_0 (n : Nat) : JobsDrawSp (callW (Gof cfg A) ds (n + 4)) 15 := someJobs_ok h_law_some_jobs (s_law_take_0 A (n + 2)) (s_law_some_job_0 A (n + 0))
theorem s_is_integer_0 (n : Nat) : IsIntSp (callW (Gof cfg A) ds (n + 1)) 0 := isInt_ok h_is_integer
theorem s_need_shafts_0 (n : Nat) : NeedSSp (callW (Gof cfg A) ds (n + 2)) 5 := needS_ok h_need_shafts (s_is_integer_0 A (n + 0))
theorem s_is_between_0 (n : Nat) : BetwSp (callW (Gof cfg A) ds (n + 2)) 1 := betw_ok h_is_between (s_is_integer_0 A (n + 0))
theorem s_are_unlike_0 (n : Nat) : UnlikeSp (callW (Gof cfg A) ds (n + 3)) 3 := unlike_ok h_are_unlike (s_is_between_0 A (n + 0))
theorem s_is_one_work_0 (n : Nat) : OneWorkSp (callW (Gof cfg A) ds (n + 4)) 2 := oneWork_ok (boxG A) h_is_one_work (s_are_unlike_0 A (n + 0))
theorem s_are_works_0 (n : Nat) : AreWorksSp (callW (Gof cfg A) ds (n + 5)) 4 := areWorks_ok h_are_works (s_is_one_work_0 A (n + 0))
theorem s_Box_init_0 (n : Nat) : InitSp ((Gof cfg A).A 0) (callW (Gof cfg A) ds (n + 6)) 20 := init_ok h_Box_init (s_need_shafts_0 A (n + 3)) (s_are_works_0 A (n + 0))
theorem s_raised_0 (n : Nat) : RaisedSp (callW (Gof cfg A) ds (n + 1)) 6 := raised_ok h_raised
theorem s_Box_add_0 (n : Nat) : AddBSp ((Gof cfg A).A 0) (callW (Gof cfg A) ds (n + 7)) 25 := addB1_ok (boxG A) h_Box_add (s_raised_0 A (n + 5)) (s_Box_init_0 A (n + 0))
theorem s_Box_add_1 (n : Nat) : AddNoSp (Gof cfg A) 2 (callW (Gof cfg A) ds (n + 1)) 25 := addNo_ok h_Box_add
theorem s_law_raised_jobs_0 (n : Nat) : RaJobsSp (callW (Gof cfg A) ds (n + 1)) 17 := raised_jobs_ok h_law_raised_jobs
theorem s_law_same_0 (n : Nat) : SameSp (callW (Gof cfg A) ds (n + 1)) 13 := same_ok h_law_same
theorem s_Box_shafts_0 (n : Nat) : FldSp ((Gof cfg A).A 0) (fun n _ => .int n) (callW (Gof cfg A) ds (n + 1)) 21 := shafts_ok h_Box_shafts
theorem s_Box_works_0 (n : Nat) : FldSp ((Gof cfg A).A 0) (fun _ js => .tup (js.map Job.w)) (callW (Gof cfg A) ds (n + 1)) 22 := works_ok h_Box_works
theorem s_Box_len_0 (n : Nat) : FldSp ((Gof cfg A).A 0) (fun _ js => .int js.length) (callW (Gof cfg A) ds (n + 1)) 23 := blen_ok h_Box_len
theorem s_law_crate_is_0 (n : Nat) : CrateIsSp ((Gof cfg A).A 0) (callW (Gof cfg A) ds (n + 2)) 16 := crateIs_ok (boxG A) h_law_crate_is (s_law_same_0 A (n + 0)) (s_Box_shafts_0 A (n + 0)) (s_Box_works_0 A (n + 0)) (s_Box_len_0 A (n + 0))
theorem s_law_odd_0 (n : Nat) : OddSp ((Gof cfg A).e 3) 3 (callW (Gof cfg A) ds (n + 6)) 12 := lawodd_ok (show 3 < 4 from by decide)
theorem s_law_refused_0 (n : Nat) : RefBSp (Gof cfg A) (callW (Gof cfg A) ds (n + 2)) 18 := refusedB_ok h_law_refused (s_Box_add_1 A (n + 0))
theorem law_true : ∀ (ns : List Int), ns.length ≤ 63 → callW (Gof cfg A) ds 15 iLaw [.scr ns] [] noX fun w _ => w = .bl true := fun ns h =>
  call_by h_law rfl (law_ok (X := noX) (boxG A) (show 3 < 4 from by decide) (s_law_fill_0 A 13) (s_law_take_0 A 13) (s_law_some_jobs_0 A 10) (s_Box_init_0 A 8) (s_Box_add_0 A 7) (s_law_raised_jobs_0 A 13) (s_law_crate_is_0 A 12) (s_law_odd_0 A 8) (s_law_refused_0 A 12) h (fun _ => rfl) rfl)
end

end K13
set_option maxHeartbeats 0
open PySem PySem.W PySem.Calls PyProof.Rows
theorem PySem.Challenge.cw_planetlocks_k13_boxes_side_by_side_holds : PySem.Challenge.rw_planetlocks_k13_boxes_side_by_side.Holds := by
  w_on; o_law
  refine HandSHeadRun.head_any (r := OpenLaw.row PySem.Challenge.rw_planetlocks_k13_boxes_side_by_side) (q := view (OpenLaw.row PySem.Challenge.rw_planetlocks_k13_boxes_side_by_side).prog [31]) (H := K13.hk) (ob := K13.ob) (M := 6000) (loose := K13.loose) (d := HandSHeadRun.topDef (OpenLaw.row PySem.Challenge.rw_planetlocks_k13_boxes_side_by_side).prog 31) (kwd := []) K13.ob_eq
    (by kernel_rfl) (fun s => by kernel_rfl) K13.run (by kernel_rfl) (by kernel_rfl) (by kernel_rfl) (by rfl) (by first | assumption | decide +kernel) (by decide +kernel) ⟨rfl, rfl, rfl, rfl, rfl, by decide +kernel⟩ ?hw ?hc
  case hw => w_witness2
  case hc =>
    refine Zk.walkG (l := PySem.Challenge.rw_planetlocks_k13_boxes_side_by_side) (m := 63) (k := 30) (x := "script") rfl (by decide) (by kernel_rfl) ⟨⟨rfl, by decide, by decide⟩, rfl⟩ ?F
    intro w mg fa h Y G hmg0
    obtain ⟨K, KX, c⟩ := Y
    have hmg : mg ("law" : PySem.Str) = some (.ref fa) := by
      have e : (HandSHeadRun.topDef (OpenLaw.row PySem.Challenge.rw_planetlocks_k13_boxes_side_by_side).prog 31).name = ("law" : PySem.Str) := by kernel_rfl
      rw [← e]
      exact hmg0
    obtain ⟨fd, sp, h1, h2, h3⟩ := Zk.law_by (P := (PySem.Challenge.rw_planetlocks_k13_boxes_side_by_side).prog) (w := w) (m := 63) (n := 15) (c := K13.cfg) (i := K13.iLaw) (d := K13.d_law) (x := "script") KX G c K13.bn K13.kn K13.ne rfl rfl rfl rfl K13.ck rfl rfl rfl hmg K13.law_true
    exact ⟨K, fd, sp, KX, h1, h2, h3⟩
