import PyProof.Rows.All
import Wide.All
import OpenK.AllK
import Wide.FinOn
import Lean
import PyProof.EqAt
import PyProof.EqKinds
import PyProof.TupleCall
import KE.KIntText
import PyProof.NeKinds
import PyProof.FString4
import PyProof.StrLawsRepr
import PyProof.ZipIter
import PyProof.TupleIter
import PySem.Challenge.RW_deedwright_k21_rows_of_deeds
-- CHANGE: your row's module here, as the last of these rows
set_option Elab.async false
set_option linter.all false
set_option maxRecDepth 100000
/-! THE HAND LAYER, for ints, bools, texts, own classes, LISTS and tuples (index, slices, in, append, pop ..), calls, loops. Paste it whole ahead of your own text; what your proof does not reach may be deleted. -/
namespace L2
open PySem PySem.Spec PyProof.Rows

/-- a key: an int or a str -/
abbrev Key := Sum Int Str
def keyIs : Key → Value → Bool
  | .inl k, v => Value.isInt k v
  | .inr x, v => Value.isStrOf x v
def keyH (w : World) : Key → Int
  | .inl k => hashInt k
  | .inr x => hashStr w x
theorem keyIs_shape : ∀ {k : Key} {v : Value}, keyIs k v = true → (∃ i t, k = Sum.inl i ∧ v = Value.int i t) ∨ (∃ x t, k = Sum.inr x ∧ v = Value.str x t)
  | .inl i, v, h => by
    obtain ⟨t, e⟩ := Value.isInt_shape (k := i) (v := v) h
    exact .inl ⟨i, t, rfl, e⟩
  | .inr x, v, h => by
    obtain ⟨t, e⟩ := Value.isStrOf_shape (x := x) (v := v) h
    exact .inr ⟨x, t, rfl, e⟩
theorem keyIs_int (i : Int) (t : Tok) : keyIs (.inl i) (.int i t) = true := by simp [keyIs, Value.isInt]
theorem keyIs_str (x : Str) (t : Tok) : keyIs (.inr x) (.str x t) = true := by simp [keyIs, Value.isStrOf]
theorem key_ll (a b : Int) : decide ((Sum.inl a : Key) = Sum.inl b) = (a == b) := by
  by_cases e : a = b
  · subst e; simp
  · have h : ¬ (Sum.inl a : Key) = Sum.inl b := fun q => e (Sum.inl.inj q)
    rw [decide_eq_false h]
    exact (beq_eq_false_iff_ne.mpr e).symm
theorem key_rr (a b : Str) : decide ((Sum.inr a : Key) = Sum.inr b) = decide (a = b) := by
  by_cases e : a = b
  · subst e; simp
  · have h : ¬ (Sum.inr a : Key) = Sum.inr b := fun q => e (Sum.inr.inj q)
    rw [decide_eq_false h, decide_eq_false e]
theorem key_lr (a : Int) (b : Str) : decide ((Sum.inl a : Key) = Sum.inr b) = false := decide_eq_false (fun q => nomatch q)
theorem key_rl (a : Str) (b : Int) : decide ((Sum.inr a : Key) = Sum.inl b) = false := decide_eq_false (fun q => nomatch q)

def mixKind (prog : Program) (w : World) : PySem.KeyKind prog w Key where
  is := keyIs
  hash := keyH w
  inj := fun v a b ha hb => by
    rcases keyIs_shape ha with ⟨i, t, rfl, rfl⟩ | ⟨x, t, rfl, rfl⟩
    · rcases keyIs_shape hb with ⟨j, u, rfl, e⟩ | ⟨y, u, rfl, e⟩
      · injection e with e1 _; rw [e1]
      · exact nomatch e
    · rcases keyIs_shape hb with ⟨j, u, rfl, e⟩ | ⟨y, u, rfl, e⟩
      · exact nomatch e
      · injection e with e1 _; rw [e1]
  byValue := fun k v h => by
    rcases keyIs_shape h with ⟨i, t, rfl, rfl⟩ | ⟨x, t, rfl, rfl⟩ <;> rfl
  pyHash := fun hv h => by
    rcases keyIs_shape hv with ⟨i, t, rfl, rfl⟩ | ⟨x, t, rfl, rfl⟩
    · exact wpAny_pyHash_int h
    · exact wpAny_pyHash_str h
  eqBool := fun hu hv h => by
    rcases keyIs_shape hu with ⟨i, t, rfl, rfl⟩ | ⟨x, t, rfl, rfl⟩
    · rcases keyIs_shape hv with ⟨j, u, rfl, rfl⟩ | ⟨y, u, rfl, rfl⟩
      · rw [key_ll] at h; exact wpAny_eqBool_int h
      · rw [key_lr] at h; exact SeqAt.EqAt.int_str i t y u _ _ _ _ h
    · rcases keyIs_shape hv with ⟨j, u, rfl, rfl⟩ | ⟨y, u, rfl, rfl⟩
      · rw [key_rl] at h; exact SeqAt.EqAt.str_int x t j u _ _ _ _ h
      · rw [key_rr] at h; exact wpAny_eqBool_str h
  «strs» := fun k x t v h => by
    rcases keyIs_shape h with ⟨i, u, rfl, e⟩ | ⟨y, u, rfl, e⟩
    · exact nomatch e
    · injection e with e1 _
      subst e1
      cases v <;> rfl

theorem mixKind_is (prog : Program) (w : World) (k : Key) (v : Value) : (mixKind prog w).is k v = keyIs k v := rfl
theorem mixKind_int (prog : Program) (w : World) (i : Int) (t : Tok) : (mixKind prog w).is (.inl i) (.int i t) = true := keyIs_int i t
theorem mixKind_str (prog : Program) (w : World) (x : Str) (t : Tok) : (mixKind prog w).is (.inr x) (.str x t) = true := keyIs_str x t
end L2

namespace L2
open PySem PySem.Spec PyProof.Rows

/-- a value, without the heap -/
inductive V where
  | non | bl (b : Bool) | int (i : Int) | str (x : Str) | byt (b : Array UInt8) | flt (b : UInt64) | ref (a : Addr) | ty (n : String)
  deriving DecidableEq

def RelV : V → Value → Prop
  | .non, u => u = Value.none
  | .bl b, u => u = Value.bool b
  | .int i, u => ∃ t, u = Value.int i t
  | .str x, u => ∃ t, u = Value.str x t
  | .byt b, u => ∃ t, u = Value.bytes b t
  | .flt b, u => ∃ t, u = Value.float b t
  | .ref a, u => u = Value.ref a
  | .ty n, u => u = Value.type n

abbrev Vals : List V → List Value → Prop := Paired RelV
theorem Vals.length {xs : List V} {us : List Value} (r : Vals xs us) : xs.length = us.length := Paired.length r
theorem Vals.get : ∀ {xs : List V} {us : List Value} {i : Nat} {x : V}, Vals xs us → xs[i]? = some x → ∃ u, us[i]? = some u ∧ RelV x u
  | _, _, _, _, .nil, e => by simp at e
  | _, _, 0, _, .cons r _, e => by simp at e; subst e; exact ⟨_, rfl, r⟩
  | _, _, i + 1, x, .cons _ t, e => by
    obtain ⟨u, h1, h2⟩ := Vals.get (i := i) (x := x) t (by simpa using e)
    exact ⟨u, by simpa using h1, h2⟩
theorem Vals.set {x : V} {u : Value} (r : RelV x u) : ∀ {xs : List V} {us : List Value} (i : Nat), Vals xs us → Vals (xs.set i x) (us.set i u)
  | _, _, _, .nil => .nil
  | _, _, 0, .cons _ t => .cons r t
  | _, _, i + 1, .cons q t => .cons q (Vals.set r i t)
theorem Vals.append : ∀ {xs ys : List V} {us ws : List Value}, Vals xs us → Vals ys ws → Vals (xs ++ ys) (us ++ ws)
  | _, _, _, _, .nil, s => s
  | _, _, _, _, .cons r t, s => .cons r (Vals.append t s)
theorem Vals.take : ∀ {xs : List V} {us : List Value} (n : Nat), Vals xs us → Vals (xs.take n) (us.take n)
  | _, _, 0, _ => .nil
  | _, _, _ + 1, .nil => .nil
  | _, _, n + 1, .cons r t => .cons r (Vals.take n t)
theorem Vals.drop : ∀ {xs : List V} {us : List Value} (n : Nat), Vals xs us → Vals (xs.drop n) (us.drop n)
  | _, _, 0, r => r
  | _, _, _ + 1, .nil => .nil
  | _, _, n + 1, .cons _ t => Vals.drop n t
theorem Vals.none_of : ∀ {xs : List V} {us : List Value} {i : Nat}, Vals xs us → xs[i]? = none → us[i]? = none := fun {xs us i} r e => by
  have h1 := r.length
  have h2 : xs.length ≤ i := List.getElem?_eq_none_iff.mp e
  exact List.getElem?_eq_none_iff.mpr (by omega)

def RelO : Option V → Option Value → Prop
  | some v, some u => RelV v u
  | none, none => True
  | _, _ => False
def KV {κ : Type} : List (κ × V) → List (κ × Value) → Prop := Paired fun (p : κ × V) (q : κ × Value) => p.1 = q.1 ∧ RelV p.2 q.2

/-- a key of a dict (00_mix): an int or a text -/
def kV : Key → V
  | .inl i => .int i
  | .inr x => .str x

/-- what stands at a tracked address -/
inductive HO where
  /-- a list -/
  | lst (xs : List V)
  /-- a tuple (never changes) -/
  | tup (xs : List V)
  /-- a dict whose keys are ints and texts; one whose keys are tuples of ints and texts (the empty one is both) -/
  | dK (kvs : List (Key × V)) | dT (kvs : List (List Key × V))
  /-- a set of ints: its members, its size -/
  | set (S : Int → Bool) (n : Nat)
  /-- an instance of the class at C, its dict at dx, its attributes -/
  | ins (C dx : Addr) (fs : List (Str × V))
  /-- the dict of the instance at x -/
  | own (x : Addr)
  /-- the dict of an exception -/
  | xd (fs : List (Str × V))
  /-- a bound method, f of x -/
  | met (f x : Addr)
  /-- a range object lo, lo + 1, .. below hi -/
  | rng (lo hi : Int)
  /-- a thing that is known to the object (the script; a dict while a loop walks it): read, never written while it is so -/
  | frz (o : Obj) (u : HO)
  /-- a code object's table -/
  | tbl (ps : Array Value)
  /-- any other thing, by what is true of its one object (a def of one's own: SetO a S n := HO.ext fun h => ..) -/
  | ext (φ : Heap → Prop)

abbrev Hp := Addr → Option HO
def upd (H : Hp) (a : Addr) (o : HO) : Hp := fun b => if b = a then some o else H b
theorem upd_same {H : Hp} {a : Addr} {o : HO} : upd H a o a = some o := by unfold upd; rw [if_pos rfl]
theorem upd_ne {H : Hp} {a b : Addr} {o : HO} (h : b ≠ a) : upd H a o b = H b := by unfold upd; rw [if_neg h]
theorem upd_upd {H : Hp} {a : Addr} {o u : HO} : upd (upd H a o) a u = upd H a u := by
  funext b; unfold upd; split <;> rfl
/-- two objects of different content stand apart -/
theorem ne_of {H : Hp} {a b : Addr} {o u : HO} (h : H a = some o) (h' : H b = some u) (d : o ≠ u) : a ≠ b := by
  intro e; subst e; rw [h] at h'; exact d (Option.some.inj h')
theorem ne_of_none {H : Hp} {a b : Addr} {o : HO} (h : H a = some o) (h' : H b = none) : a ≠ b := by
  intro e; subst e; rw [h] at h'; cases h'

section
variable (P : Program) (w : World)
def ObjOk (H : Hp) (h : Heap) (a : Addr) : HO → Prop
  | .lst xs => xs.length ≤ sizeLine ∧ ∃ (its : List Value) (n : Nat), Vals xs its ∧ h.get? a = some { cls := .type "list", data := .seq its.toArray n }
  | .tup xs => xs.length ≤ sizeLine ∧ ∃ its : List Value, Vals xs its ∧ IsTup h a its.toArray
  | .dK kvs => kvs.length ≤ sizeLine ∧ (a == sysModules) = false ∧ ∃ vs, KV kvs vs ∧ h.DictOf (mixKind P w) a vs
  | .dT kvs => kvs.length ≤ sizeLine ∧ (a == sysModules) = false ∧ ∃ xs : List (List Key × Addr × Value),
      Paired (fun (p : List Key × V) (q : List Key × Addr × Value) => p.1 = q.1 ∧ H q.2.1 = some (.tup (p.1.map kV)) ∧ RelV p.2 q.2.2) kvs xs ∧
      ∃ o es ep, h.get? a = some o ∧ o.ExactDict ∧ o.data = .dict es ep ∧ es.toList = xs.map (entryOfKey (tupleKind (mixKind P w))) ∧ (xs.map (·.1)).Nodup
  | .set S n => h.SetOf (intKind P w) a S n
  | .ins C dx fs => H dx = some (.own a) ∧ fs.length ≤ 1000 ∧ dx ≠ a ∧ h.get? a = some (PySem.W.instObj C dx) ∧
      ∃ mA, h.Ns1 dx mA ∧ (∀ f, RelO (fs.lookup f) (mA f)) ∧ PySem.Within mA (fs.map (·.1))
  | .own _ => ∃ o, h.get? a = some o
  | .xd fs => ∃ mA, h.Ns1 a mA ∧ ∀ f, RelO (fs.lookup f) (mA f)
  | .rng lo hi => ∃ t u v, h.get? a = some { cls := .type "range", data := .fields #[.int lo t, .int hi u, .int 1 v] }
  | .frz o u => h.get? a = some o ∧ ObjOk H h a u
  | .tbl ps => h.get? a = some { cls := .none, data := .fields ps }
  | .met f x => h.get? a = some (PySem.W.methodObj (.ref f) (.ref x))
  | .ext φ => φ h ∧ (∃ o, h.get? a = some o) ∧ ∀ h1 h2 : Heap, φ h1 → (∀ o, h1.get? a = some o → h2.get? a = some o) → φ h2
/-- the abstract heap is held -/
def HOk (H : Hp) (h : Heap) : Prop := ∀ a o, H a = some o → ObjOk P w H h a o
end

section
variable {P : Program} {w : World} {H H' : Hp} {h h' : Heap} {a : Addr} {o : HO}
theorem ObjOk.lt (x : ObjOk P w H h a o) : a < h.objs.size := by
  cases o with
  | lst xs => obtain ⟨_, _, _, _, e⟩ := x; exact Heap.lt_size e
  | tup xs => obtain ⟨_, _, _, p⟩ := x; exact p.lt
  | dK kvs => obtain ⟨_, _, _, _, o, _, _, e, _⟩ := x; exact Heap.lt_size e
  | dT kvs => obtain ⟨_, _, _, _, o, _, _, e, _⟩ := x; exact Heap.lt_size e
  | set S n => obtain ⟨o, _, _, _, e, _⟩ := x; exact Heap.lt_size e
  | ins C dx fs => obtain ⟨_, _, _, e, _⟩ := x; exact Heap.lt_size e
  | own y => obtain ⟨_, e⟩ := x; exact Heap.lt_size e
  | xd fs => obtain ⟨_, ⟨_, _, _, e, _⟩, _⟩ := x; exact Heap.lt_size e
  | rng lo hi => obtain ⟨_, _, _, e⟩ := x; exact Heap.lt_size e
  | frz ob u => obtain ⟨e, _⟩ := x; exact Heap.lt_size e
  | tbl ps => exact Heap.lt_size (show h.get? a = some _ from x)
  | met f y => exact Heap.lt_size (show h.get? a = some _ from x)
  | ext φ => obtain ⟨_, ⟨_, e⟩, _⟩ := x; exact Heap.lt_size e
theorem Paired.mapP {α β : Type} {F G : α → β → Prop} : ∀ {l₁ : List α} {l₂ : List β}, Paired F l₁ l₂ → (∀ a b, F a b → G a b) → Paired G l₁ l₂
  | _, _, .nil, _ => .nil
  | _, _, .cons r t, f => .cons (f _ _ r) (Paired.mapP t f)
theorem Paired.imp' {α β : Type} {F G : α → β → Prop} (f : ∀ a b, F a b → G a b) {l₁ : List α} {l₂ : List β} (r : Paired F l₁ l₂) : Paired G l₁ l₂ := Paired.mapP r f
/-- what an object's description leans on: its own object, its own dict, the tuples -/
theorem ObjOk.stay (x : ObjOk P w H h a o) (k : ∀ b u, (b = a ∨ H b = some (.own a)) → h.get? b = some u → h'.get? b = some u)
    (ho : ∀ b, H b = some (.own a) → H' b = some (.own a)) (ht : ∀ b xs, H b = some (.tup xs) → H' b = some (.tup xs)) : ObjOk P w H' h' a o := by
  induction o with
  | lst xs => obtain ⟨z, its, n, r, e⟩ := x; exact ⟨z, its, n, r, k _ _ (.inl rfl) e⟩
  | tup xs => obtain ⟨z, its, r, ob, e, c⟩ := x; exact ⟨z, its, r, ob, k _ _ (.inl rfl) e, c⟩
  | dK kvs => obtain ⟨z, y, vs, r, ob, es, ep, e, c⟩ := x; exact ⟨z, y, vs, r, ob, es, ep, k _ _ (.inl rfl) e, c⟩
  | dT kvs =>
    obtain ⟨z, y, xs, r, ob, es, ep, e, c⟩ := x
    exact ⟨z, y, xs, Paired.mapP r fun p q z => ⟨z.1, ht _ _ z.2.1, z.2.2⟩, ob, es, ep, k _ _ (.inl rfl) e, c⟩
  | set S n => obtain ⟨ob, es, ep, t, e, c⟩ := x; exact ⟨ob, es, ep, t, k _ _ (.inl rfl) e, c⟩
  | ins C dx fs =>
    obtain ⟨d, z, ne, e, mA, ⟨od, es, ep, e2, c⟩, r⟩ := x
    exact ⟨ho _ d, z, ne, k _ _ (.inl rfl) e, mA, ⟨od, es, ep, k _ _ (.inr d) e2, c⟩, r⟩
  | own y => obtain ⟨ob, e⟩ := x; exact ⟨ob, k _ _ (.inl rfl) e⟩
  | xd fs => obtain ⟨mA, ⟨od, es, ep, e, c⟩, r⟩ := x; exact ⟨mA, ⟨od, es, ep, k _ _ (.inl rfl) e, c⟩, r⟩
  | rng lo hi => obtain ⟨t, u, v, e⟩ := x; exact ⟨t, u, v, k _ _ (.inl rfl) e⟩
  | frz ob u ih => obtain ⟨e, q⟩ := x; exact ⟨k _ _ (.inl rfl) e, ih q⟩
  | tbl ps =>
    have e : h.get? a = some { cls := .none, data := .fields ps } := x
    show h'.get? a = some { cls := .none, data := .fields ps }
    exact k a _ (.inl rfl) e
  | met f y =>
    have e : h.get? a = some (PySem.W.methodObj (.ref f) (.ref y)) := x
    show h'.get? a = some (PySem.W.methodObj (.ref f) (.ref y))
    exact k a _ (.inl rfl) e
  | ext φ => obtain ⟨p, ⟨o, e⟩, st⟩ := x; exact ⟨st _ _ p fun o q => k _ _ (.inl rfl) q, ⟨o, k _ _ (.inl rfl) e⟩, st⟩
theorem HOk.lt (x : HOk P w H h) (e : H a = some o) : a < h.objs.size := (x a o e).lt
theorem HOk.fresh (x : HOk P w H h) (e : h.objs.size ≤ a) : H a = none := by
  cases q : H a with
  | none => rfl
  | some u => exact absurd (Nat.lt_of_lt_of_le (x.lt q) e) (Nat.lt_irrefl _)
/-- every object of the heap is kept -/
theorem HOk.kept (x : HOk P w H h) (k : ∀ b u, h.get? b = some u → h'.get? b = some u) : HOk P w H h' := fun a o e =>
  (x a o e).stay (fun b u _ q => k b u q) (fun _ q => q) fun _ _ q => q
/-- a new object is laid and tracked -/
theorem HOk.laid (x : HOk P w H h) (k : ∀ b u, h.get? b = some u → h'.get? b = some u) (hp : h.objs.size ≤ a) (new : ObjOk P w (upd H a o) h' a o) : HOk P w (upd H a o) h' := fun b u e => by
  have hn := x.fresh hp
  by_cases hb : b = a
  · subst hb; rw [upd_same] at e; cases e; exact new
  · rw [upd_ne hb] at e
    exact (x b u e).stay (fun c v _ q => k c v q) (fun c q => by rw [upd_ne (ne_of_none q hn)]; exact q) fun c xs q => by rw [upd_ne (ne_of_none q hn)]; exact q
end

/-- what may be read as u: it is u, or a known u -/
def Rd (H : Hp) (a : Addr) (u : HO) : Prop := H a = some u ∨ ∃ o, H a = some (.frz o u)
theorem Rd.of {H : Hp} {a : Addr} {u : HO} (h : H a = some u) : Rd H a u := .inl h
theorem Rd.ok {P : Program} {w : World} {H : Hp} {h : Heap} {a : Addr} {u : HO} (r : Rd H a u) (x : HOk P w H h) : ObjOk P w H h a u := by
  rcases r with r | ⟨o, r⟩
  · exact x a u r
  · obtain ⟨_, q⟩ := x a _ r
    exact q
/-- what may be written -/
def Mut : Option HO → Prop
  | some (.lst _) => True
  | some (.dK _) => True
  | some (.dT _) => True
  | some (.set _ _) => True
  | some (.ins _ _ _) => True
  | some (.ext _) => True
  | _ => False
section
variable {P : Program} {w : World} {H : Hp} {h h' : Heap} {x e : Addr} {o' : HO}
/-- the object at e is changed: x itself, or the dict of the instance x -/
theorem HOk.write (ok : HOk P w H h) (mu : Mut (H x)) (he : e = x ∨ H e = some (.own x)) (k : ∀ b u, b ≠ e → h.get? b = some u → h'.get? b = some u) (heo : ∃ u, h'.get? e = some u)
    (new : ObjOk P w (upd H x o') h' x o') : HOk P w (upd H x o') h' := fun b u q => by
  have nown : ∀ c y, H c = some (.own y) → c ≠ x := fun c y r z => by subst z; rw [r] at mu; exact mu
  have ntup : ∀ c xs, H c = some (.tup xs) → c ≠ x := fun c xs r z => by subst z; rw [r] at mu; exact mu
  by_cases hb : b = x
  · subst hb; rw [upd_same] at q; cases q; exact new
  · rw [upd_ne hb] at q
    by_cases hbe : b = e
    · have q' : H b = some (.own x) := by
        rcases he with z | z
        · exact absurd (hbe.trans z) hb
        · rw [hbe]; exact z
      rw [q] at q'; cases q'
      obtain ⟨v, hv⟩ := heo
      exact ⟨v, by rw [hbe]; exact hv⟩
    · refine (ok b u q).stay (fun c v hc r => k c v ?_ r) (fun c r => by rw [upd_ne (nown c b r)]; exact r) fun c xs r => by rw [upd_ne (ntup c xs r)]; exact r
      rcases hc with rfl | hc
      · exact hbe
      · rintro rfl
        rcases he with z | z
        · exact nown c b hc z
        · rw [hc] at z; cases z; exact hb rfl
end

/-! ### kept unless tracked; of the frames at fs (the callers') the slots may change (an exception that passes writes there); of the records at ex (iterators) nothing is said -/
structure Un (fs ex : List Addr) (H H' : Hp) (h h' : Heap) : Prop where
  keep : ∀ b o, h.get? b = some o → H b = none → b ∉ fs → b ∉ ex → h'.get? b = some o
  slot : ∀ b o, h.get? b = some o → H b = none → b ∈ fs → b ∉ ex → ∃ sl, h'.get? b = some { o with slots := sl }
  free : ∀ b o, h.get? b = some o → H b = none → b ∉ ex → H' b = none
  there : ∀ b o, h.get? b = some o → b ∉ ex → ∃ o', h'.get? b = some o'
  tups : ∀ b xs, H b = some (.tup xs) → H' b = some (.tup xs)
  frzs : ∀ b o u, H b = some (.frz o u) → H' b = some (.frz o u)
  tbls : ∀ b ps, H b = some (.tbl ps) → ∃ more, H' b = some (.tbl (ps ++ more))
section
variable {fs fs' ex ex' : List Addr} {H H1 H2 : Hp} {h h1 h2 h' : Heap} {a x e : Addr} {o : HO}
theorem Un.any (u : Un fs ex H H1 h h1) {b : Addr} {ob : Obj} (q : h.get? b = some ob) (n : H b = none) (hx : b ∉ ex) : ∃ sl, h1.get? b = some { ob with slots := sl } := by
  by_cases hb : b ∈ fs
  · exact u.slot b ob q n hb hx
  · exact ⟨ob.slots, u.keep b ob q n hb hx⟩
theorem Un.trans (a : Un fs ex H H1 h h1) (b : Un fs ex H1 H2 h1 h2) : Un fs ex H H2 h h2 where
  keep := fun c ob q n hc hx => b.keep c ob (a.keep c ob q n hc hx) (a.free c ob q n hx) hc hx
  slot := fun c ob q n hc hx => by
    obtain ⟨sl, e1⟩ := a.slot c ob q n hc hx
    obtain ⟨sl', e2⟩ := b.slot c _ e1 (a.free c ob q n hx) hc hx
    exact ⟨sl', e2⟩
  free := fun c ob q n hx => by
    obtain ⟨o', e1⟩ := a.there c ob q hx
    exact b.free c o' e1 (a.free c ob q n hx) hx
  there := fun c ob q hx => by
    obtain ⟨o', e1⟩ := a.there c ob q hx
    exact b.there c o' e1 hx
  tups := fun c xs q => b.tups c xs (a.tups c xs q)
  frzs := fun c ob xs q => b.frzs c ob xs (a.frzs c ob xs q)
  tbls := fun c ps q => by
    obtain ⟨m1, e1⟩ := a.tbls c ps q
    obtain ⟨m2, e2⟩ := b.tbls c _ e1
    exact ⟨m1 ++ m2, by rw [e2, Array.append_assoc]⟩
theorem Un.kept (k : ∀ b u, h.get? b = some u → h'.get? b = some u) : Un fs ex H H h h' :=
  ⟨fun b ob q _ _ _ => k b ob q, fun b ob q _ _ _ => ⟨ob.slots, k b ob q⟩, fun _ _ _ n _ => n, fun b ob q _ => ⟨ob, k b ob q⟩, fun _ _ q => q, fun _ _ _ q => q, fun _ ps q => ⟨#[], by rw [q]; simp⟩⟩
theorem Un.refl : Un fs ex H H h h := Un.kept fun _ _ q => q
theorem Un.laid (k : ∀ b u, h.get? b = some u → h'.get? b = some u) (hp : h.objs.size ≤ a) (hn : H a = none) : Un fs ex H (upd H a o) h h' where
  keep := fun b u q _ _ _ => k b u q
  slot := fun b u q _ _ _ => ⟨u.slots, k b u q⟩
  free := fun b u q n _ => by rw [upd_ne (Nat.ne_of_lt (Nat.lt_of_lt_of_le (Heap.lt_size q) hp))]; exact n
  there := fun b u q _ => ⟨u, k b u q⟩
  tups := fun b xs q => by rw [upd_ne (ne_of_none q hn)]; exact q
  frzs := fun b u xs q => by rw [upd_ne (ne_of_none q hn)]; exact q
  tbls := fun b ps q => ⟨#[], by rw [upd_ne (ne_of_none q hn), q]; simp⟩
theorem Un.write (mu : Mut (H x)) (he : e = x ∨ H e = some (.own x)) (k : ∀ b u, b ≠ e → h.get? b = some u → h'.get? b = some u) (heo : ∃ u, h'.get? e = some u) : Un fs ex H (upd H x o) h h' := by
  have hx : ∀ b, H b = none → b ≠ x := fun b n z => by subst z; rw [n] at mu; exact mu
  have hb : ∀ b, H b = none → b ≠ e := fun b n z => by
    subst z
    rcases he with r | r
    · exact hx b n r
    · rw [n] at r; cases r
  have hm : ∀ b u, H b = some u → ¬ Mut (some u) → b ≠ x := fun b u q nm z => by subst z; rw [q] at mu; exact nm mu
  refine ⟨fun b u q n _ _ => k b u (hb b n) q, fun b u q n _ _ => ⟨u.slots, k b u (hb b n) q⟩, fun b u q n _ => by rw [upd_ne (hx b n)]; exact n, fun b u q _ => ?_,
    fun b xs q => by rw [upd_ne (hm b _ q fun z => z)]; exact q, fun b u xs q => by rw [upd_ne (hm b _ q fun z => z)]; exact q, fun b ps q => ⟨#[], by rw [upd_ne (hm b _ q fun z => z), q]; simp⟩⟩
  by_cases hbe : b = e
  · subst hbe; exact heo
  · exact ⟨u, k b u hbe q⟩
theorem Un.mono (u : Un fs ex H H1 h h1) (hs : ∀ b ∈ fs, b ∈ fs') (hx : ∀ b ∈ ex, b ∈ ex') : Un fs' ex' H H1 h h1 :=
  ⟨fun b ob q n hb he => u.keep b ob q n (fun z => hb (hs b z)) fun z => he (hx b z), fun _ _ q n _ he => u.any q n fun z => he (hx _ z), fun b ob q n he => u.free b ob q n fun z => he (hx b z), fun b ob q he => u.there b ob q fun z => he (hx b z), u.tups, u.frzs, u.tbls⟩
end

/-! ### the heap without what is tracked -/
def trk (h : Heap) (H : Hp) : List Addr := (List.range h.objs.size).filter fun a => (H a).isSome
def hidT (h : Heap) (H : Hp) : Heap := PySem.W.hideAll h (trk h H)
theorem hidT_size (h : Heap) (H : Hp) : (hidT h H).objs.size = h.objs.size := PySem.W.hideAll_size _ _
theorem hidT_get {h : Heap} {H : Hp} {b : Addr} {o : Obj} (e : h.get? b = some o) (n : H b = none) : (hidT h H).get? b = some o :=
  PySem.W.hideAll_get _ e fun hm => by
    have q : (H b).isSome = true := (List.mem_filter.mp hm).2
    rw [n] at q; simp at q
theorem of_hidT {h : Heap} {H : Hp} {b : Addr} {o : Obj} (e : (hidT h H).get? b = some o) : h.get? b = some o ∧ H b = none := by
  have e' : h.get? b = some o := PySem.W.of_hideAll (trk h H) e
  refine ⟨e', ?_⟩
  cases q : H b with
  | none => rfl
  | some x =>
    have hm : b ∈ trk h H := List.mem_filter.mpr ⟨List.mem_range.mpr (Heap.lt_size e'), by simp [q]⟩
    have z : (hidT h H).get? b = none := PySem.W.hideAll_none (trk h H) hm
    rw [z] at e; cases e

/-! ### OpenK's ledger, filled with every new object but one -/
def allNews (g h : Heap) (L : Addr) : List (Addr × Obj) := (List.range h.objs.size).filterMap fun a => if a = L ∨ (g.get? a).isSome = true then none else (h.get? a).map fun o => (a, o)
theorem mem_allNews {g h : Heap} {L a : Addr} {o : Obj} (h1 : a ≠ L) (h2 : g.get? a = none) (h3 : h.get? a = some o) : (a, o) ∈ allNews g h L :=
  List.mem_filterMap.mpr ⟨a, List.mem_range.mpr (Heap.lt_size h3), by simp [h1, h2, h3]⟩
theorem of_mem_allNews {g h : Heap} {L : Addr} {p : Addr × Obj} (hp : p ∈ allNews g h L) : p.1 ≠ L ∧ g.get? p.1 = none ∧ h.get? p.1 = some p.2 := by
  obtain ⟨b, _, e⟩ := List.mem_filterMap.mp hp
  split at e
  · cases e
  · rename_i hn
    cases q : h.get? b with
    | none => rw [q] at e; simp at e
    | some u =>
      rw [q] at e
      simp only [Option.map_some, Option.some.injEq] at e
      subst e
      refine ⟨fun z => hn (.inl z), ?_, q⟩
      show g.get? b = none
      cases r : g.get? b with
      | none => rfl
      | some v => exact (hn (.inr (by simp [r]))).elim
def rest (g h : Heap) (L d : Addr) : List (Addr × Obj) := (allNews g h L).filter fun p => decide (p.1 ≠ d)
theorem rest_ne {g h : Heap} {L d : Addr} : ∀ p ∈ rest g h L d, p.1 ≠ d := fun p hp => of_decide_eq_true (List.mem_filter.mp hp).2
theorem mem_rest {g h : Heap} {L d a : Addr} {o : Obj} (h1 : a ≠ L) (h2 : g.get? a = none) (h3 : h.get? a = some o) (h4 : a ≠ d) : (a, o) ∈ rest g h L d :=
  List.mem_filter.mpr ⟨mem_allNews h1 h2 h3, decide_eq_true h4⟩
theorem news_all {g h : Heap} {L : Addr} : News g L h (allNews g h L) := fun p hp => let ⟨a, b, c⟩ := of_mem_allNews hp; ⟨c, a, b⟩
theorem news_at {g h : Heap} {L d : Addr} {o : Obj} (h1 : d ≠ L) (h2 : g.get? d = none) (h3 : h.get? d = some o) : News g L h ((d, o) :: rest g h L d) := fun p hp => by
  rcases List.mem_cons.mp hp with rfl | hp
  · exact ⟨h3, h1, h2⟩
  · exact news_all p (List.mem_filter.mp hp).1
/-- behind a rule that changed d alone: all else but the frame is kept -/
theorem kept_of_news {g h h' : Heap} {L d : Addr} {m : Str → Option Value} (k : ∀ b o, g.get? b = some o → h.get? b = some o) (F : Fr g L h' m) (N : News g L h' (rest g h L d)) :
    ∀ b o, b ≠ L → b ≠ d → h.get? b = some o → h'.get? b = some o := fun b o h1 h2 e => by
  cases q : g.get? b with
  | some u =>
    have := k b u q
    rw [e] at this; cases this
    exact F.keep b _ q
  | none => exact (N (b, o) (mem_rest h1 q e h2)).1
end L2

namespace L2
open PySem PySem.Spec PyProof.Rows

/-- the module's facts, over the base: the heap at the law's entry without what is tracked there -/
structure Mod (K : PySem.W.Frag) (mg : Str → Option Value) (base : Heap) : Prop where
  kin : K.In base
  glob : base.Ns mainGlobals mg
  blt : ∃ mb, base.Ns builtinsNs mb ∧ ∀ x : Str, x ≠ "__name__" → mb x = bootBuiltins x
  nolimit : base.NoLimit

/-- the context: a def's body (or a comprehension's block) running. base: fixed through the whole law; s₀, H₀: the entry; outer: the frames whose slots others may change (a def's callers); stack: all frames that run;
   ex: iterators that were made ahead of the entry and are walked here (a comprehension's); fn: the names whose cells were made at the entry (a def: all; a comprehension's block: its own); calm: not within an except suite; pn: pins that every state bears; xe: what is wanted of an exception that leaves the code -/
structure Cx where
  prog : Program
  w : World
  K : PySem.W.Frag
  mg : Str → Option Value
  base : Heap
  A : Around
  N : List Str
  s₀ : Shared
  H₀ : Hp
  env : Env
  outer : List Env
  stack : List Env
  ex : List Addr
  fn : Str → Bool
  calm : Bool
  pn : List (Addr × Obj)
  xe : Value → Shared → Prop
/-- the callers' frames -/
def frs (l : List Env) : List Addr := l.filterMap (·.frame)
abbrev Cx.fs (X : Cx) : List Addr := frs X.outer

def Vis (sc : Scope) (x : Str) : Prop := sc.names.lookup x = some .local ∨ sc.names.lookup x = some .cell ∨ sc.names.lookup x = some .free
def Loc (sc : Scope) (x : Str) : Prop := sc.names.lookup x = some .local ∨ sc.names.lookup x = some .cell
def Look (env : Env) (h : Heap) (m : Str → Option Value) (x : Str) (u : Value) : Prop :=
  (env.kindOf x = some .local ∧ m x = some u) ∨ ((env.kindOf x = some .cell ∨ env.kindOf x = some .free) ∧ ∃ c, env.cells.lookup x = some c ∧ h.IsCell c (some u))

structure Cx.Ok (X : Cx) : Prop where
  mod : Mod X.K X.mg X.base
  kind : X.env.scope.kind = .function
  glob : X.env.globals = mainGlobals
  blt : X.env.builtins = builtinsNs
  above : X.s₀.heap.objs.size ≤ X.env.locals
  inj : ∀ x y c, X.env.cells.lookup x = some c → X.env.cells.lookup y = some c → x = y
  has : ∀ x, (X.env.kindOf x = some .cell ∨ X.env.kindOf x = some .free) → ∃ c, X.env.cells.lookup x = some c
  cab : ∀ x c, X.fn x = true → X.env.cells.lookup x = some c → X.s₀.heap.objs.size ≤ c
  hd : X.calm = true → X.A.handled = none
  frames : X.A.frames = some X.stack
  stk : X.stack = X.outer ∨ (X.stack = X.env :: X.outer ∧ X.env.frame = some X.env.locals)
  exf : ∀ b ∈ X.ex, b ≠ X.env.locals ∧ ∀ x c, X.env.cells.lookup x = some c → c ≠ b
  bs : ∀ b o, X.base.get? b = some o → X.s₀.heap.get? b = some o ∧ X.H₀ b = none
  bsz : X.base.objs.size ≤ X.s₀.heap.objs.size
  noex : ∀ b o, X.base.get? b = some o → b ∉ X.ex
  exfs : ∀ b ∈ X.ex, b ∉ X.fs
  funs : X.s₀.heap.FunFrames X.base X.outer
  frf : ∀ b ∈ X.fs, X.H₀ b = none

structure Inv (X : Cx) (pins : List (Addr × Obj)) (σ : List (Option V)) (H : Hp) (s : Shared) : Prop where
  ok : X.Ok
  os : s.os = X.s₀.os
  bare : AllBare s.gens
  base : Un X.fs X.ex X.H₀ H X.s₀.heap s.heap
  loc : ∃ m, s.heap.Ns X.env.locals m ∧ ∀ (i : Nat) (x : Str) (v : V), X.N[i]? = some x → σ[i]? = some (some v) → Vis X.env.scope x → ∃ u, RelV v u ∧ Look X.env s.heap m x u
  cell : ∀ x c, X.env.cells.lookup x = some c → ∃ v, s.heap.IsCell c v
  free : H X.env.locals = none
  freeC : ∀ x c, X.env.cells.lookup x = some c → H c = none
  pin : ∀ p ∈ X.pn ++ pins, s.heap.get? p.1 = some p.2 ∧ H p.1 = none ∧ p.1 ≠ X.env.locals ∧ p.1 ∉ X.fs ∧ ∀ v, p.2.data ≠ .cell v
  hok : HOk X.prog X.w H s.heap
  len : σ.length = X.N.length

section
variable {X : Cx} {pins : List (Addr × Obj)} {σ : List (Option V)} {H H' : Hp} {s : Shared} {h' : Heap}

theorem Cx.Ok.nofr (ok : X.Ok) {b : Addr} {o : Obj} (e : X.base.get? b = some o) : b ∉ X.fs := fun hb => by
  have := (ok.funs.mem hb).1
  rw [e] at this; cases this
theorem Inv.bs (I : Inv X pins σ H s) : ∀ b o, X.base.get? b = some o → s.heap.get? b = some o ∧ H b = none := fun b o e =>
  ⟨I.base.keep b o (I.ok.bs b o e).1 (I.ok.bs b o e).2 (I.ok.nofr e) (I.ok.noex b o e), I.base.free b o (I.ok.bs b o e).1 (I.ok.bs b o e).2 (I.ok.noex b o e)⟩
theorem Inv.bk (I : Inv X pins σ H s) : ∀ b o, X.base.get? b = some o → s.heap.get? b = some o := fun b o e => (I.bs b o e).1
theorem Inv.mod (I : Inv X pins σ H s) : Mod X.K X.mg X.base := I.ok.mod
theorem Inv.kIn (I : Inv X pins σ H s) : X.K.In s.heap := I.ok.mod.kin.keeps I.bk
theorem Inv.nolimit (I : Inv X pins σ H s) : s.heap.NoLimit := I.ok.mod.nolimit.keeps I.bk
/-- the frame over the base: for OpenK's rules (K.In X.base is I.mod.kin) -/
theorem Inv.fr (I : Inv X pins σ H s) : ∃ m, Fr X.base X.env.locals s.heap m :=
  let ⟨m, hn, _⟩ := I.loc
  ⟨m, hn, I.bk, Nat.le_trans I.ok.bsz I.ok.above⟩
theorem Inv.lt (I : Inv X pins σ H s) : X.env.locals < s.heap.objs.size := let ⟨_, hn, _⟩ := I.loc; hn.lt
theorem Inv.sz (I : Inv X pins σ H s) : X.s₀.heap.objs.size ≤ s.heap.objs.size := Nat.le_trans I.ok.above (Nat.le_of_lt I.lt)
theorem Inv.nofs (I : Inv X pins σ H s) {a : Addr} (h : s.heap.objs.size ≤ a) : a ∉ X.fs := fun hb => by
  obtain ⟨_, o, ho, _⟩ := I.ok.funs.mem hb
  exact absurd (Nat.lt_of_lt_of_le (Heap.lt_size ho) (Nat.le_trans I.sz h)) (Nat.lt_irrefl _)
theorem Inv.cne (I : Inv X pins σ H s) : ∀ x c, X.env.cells.lookup x = some c → c ≠ X.env.locals := fun x c e z => by
  obtain ⟨v, o, ho, hd⟩ := I.cell x c e
  obtain ⟨m, ⟨o', es, ep, ho', hd', _⟩, _⟩ := I.loc
  rw [z, ho'] at ho; cases ho; rw [hd'] at hd; cases hd
theorem Inv.funs (I : Inv X pins σ H s) : s.heap.FunFrames X.base X.outer := by
  have all : ∀ (l : List Env), (∀ b ∈ frs l, b ∈ X.fs) → X.s₀.heap.FunFrames X.base l → s.heap.FunFrames X.base l := by
    intro l
    induction l with
    | nil => intro _ _; trivial
    | cons env r ih =>
      intro hs hl
      obtain ⟨hk, ⟨L, o, hf, hn, ho, hd⟩, hr⟩ := hl
      have hL : L ∈ X.fs := hs L (by unfold frs; rw [List.filterMap_cons, hf]; exact List.mem_cons_self)
      obtain ⟨sl, e⟩ := I.base.slot L o ho (I.ok.frf L hL) hL fun z => I.ok.exfs L z hL
      exact ⟨hk, ⟨L, _, hf, hn, e, hd⟩, ih (fun b hb => hs b (by unfold frs; rw [List.filterMap_cons, hf]; exact List.mem_cons_of_mem _ hb)) hr⟩
  exact all X.outer (fun _ hb => hb) I.ok.funs

/-- the frames that run, for a call -/
theorem Inv.stack (I : Inv X pins σ H s) : s.heap.FunFrames X.base X.stack := by
  rcases I.ok.stk with e | ⟨e, hf⟩
  · rw [e]; exact I.funs
  · rw [e]
    obtain ⟨m, hn, _⟩ := I.loc
    refine .cons (by rw [I.ok.kind]; decide) hf hn ?_ I.funs
    exact Heap.get?_none_of_le (Nat.le_trans I.ok.bsz I.ok.above)
theorem Inv.stkSub (I : Inv X pins σ H s) : ∀ b ∈ frs X.stack, b ∈ X.env.locals :: X.fs := fun b hb => by
  rcases I.ok.stk with e | ⟨e, hf⟩
  · rw [e] at hb; exact List.mem_cons_of_mem _ hb
  · rw [e] at hb
    unfold frs at hb
    rw [List.filterMap_cons, hf] at hb
    exact hb
theorem Inv.stkFree (I : Inv X pins σ H s) : ∀ b ∈ frs X.stack, H b = none := fun b hb => by
  rcases List.mem_cons.mp (I.stkSub b hb) with e | hb
  · rw [e]; exact I.free
  · obtain ⟨_, o, ho, _⟩ := I.ok.funs.mem hb
    exact I.base.free b o ho (I.ok.frf b hb) fun z => I.ok.exfs b z hb

/-- THE STEP: the untracked objects but the frame and the records at ch are kept (the callers' frames up to slots), the frame's map is kept, the new abstract heap is held -/
theorem Inv.step {g' : Array GenState} {t' : Nat} {d' : Drawn} {ch : List Addr} (I : Inv X pins σ H s)
    (hch : ∀ b ∈ ch, (b ∈ X.ex ∨ X.s₀.heap.objs.size ≤ b) ∧ b ≠ X.env.locals ∧ (∀ x c, X.env.cells.lookup x = some c → c ≠ b) ∧ ∀ p ∈ X.pn ++ pins, p.1 ≠ b)
    (keep : ∀ b o, b ≠ X.env.locals → b ∉ X.fs → b ∉ ch → s.heap.get? b = some o → H b = none → h'.get? b = some o)
    (slot : ∀ b o, b ≠ X.env.locals → b ∈ X.fs → b ∉ ch → s.heap.get? b = some o → H b = none → ∃ sl, h'.get? b = some { o with slots := sl }) (free : ∀ b o, b ∉ ch → s.heap.get? b = some o → H b = none → H' b = none)
    (there : ∀ b o, b ∉ ch → s.heap.get? b = some o → ∃ o', h'.get? b = some o')
    (tups : ∀ b xs, H b = some (.tup xs) → H' b = some (.tup xs)) (frzs : ∀ b o u, H b = some (.frz o u) → H' b = some (.frz o u)) (tbls : ∀ b ps, H b = some (.tbl ps) → ∃ more, H' b = some (.tbl (ps ++ more)))
    (ns : ∀ m, s.heap.Ns X.env.locals m → h'.Ns X.env.locals m) (hok : HOk X.prog X.w H' h') (hg : AllBare g') :
    Inv X pins σ H' { s with heap := h', gens := g', drawn := d', toks := t' } := by
  have neL : ∀ b o, X.s₀.heap.get? b = some o → b ≠ X.env.locals := fun b o e => Nat.ne_of_lt (Nat.lt_of_lt_of_le (Heap.lt_size e) I.ok.above)
  have neC : ∀ b o, X.s₀.heap.get? b = some o → b ∉ X.ex → b ∉ ch := fun b o e hx hb => by
    rcases (hch b hb).1 with z | z
    · exact hx z
    · exact absurd (Nat.lt_of_lt_of_le (Heap.lt_size e) z) (Nat.lt_irrefl _)
  have cellK : ∀ x c, X.env.cells.lookup x = some c → ∀ v, s.heap.IsCell c v → h'.IsCell c v := fun x c e v ⟨o, ho, hd⟩ => by
    have nch : c ∉ ch := fun z => (hch c z).2.2.1 x c e rfl
    by_cases hc : c ∈ X.fs
    · obtain ⟨sl, q⟩ := slot c o (I.cne x c e) hc nch ho (I.freeC x c e)
      exact ⟨_, q, hd⟩
    · exact ⟨o, keep c o (I.cne x c e) hc nch ho (I.freeC x c e), hd⟩
  refine ⟨I.ok, I.os, hg, ⟨fun b o e n hb hx => ?_, fun b o e n hb hx => ?_, fun b o e n hx => ?_, fun b o e hx => ?_, fun b xs e => tups b xs (I.base.tups b xs e), fun b o xs e => frzs b o xs (I.base.frzs b o xs e), fun b ps e => ?_⟩, ?_, fun x c e => ?_, ?_, fun x c e => ?_, fun p hp => ?_, hok, I.len⟩
  · exact keep b o (neL b o e) hb (neC b o e hx) (I.base.keep b o e n hb hx) (I.base.free b o e n hx)
  · obtain ⟨sl, e1⟩ := I.base.slot b o e n hb hx
    obtain ⟨sl', e2⟩ := slot b _ (neL b o e) hb (neC b o e hx) e1 (I.base.free b o e n hx)
    exact ⟨sl', e2⟩
  · obtain ⟨o', e1⟩ := I.base.there b o e hx
    exact free b o' (neC b o e hx) e1 (I.base.free b o e n hx)
  · obtain ⟨o', e1⟩ := I.base.there b o e hx
    exact there b o' (neC b o e hx) e1
  · obtain ⟨m1, e1⟩ := I.base.tbls b ps e
    obtain ⟨m2, e2⟩ := tbls b _ e1
    exact ⟨m1 ++ m2, by rw [e2, Array.append_assoc]⟩
  · obtain ⟨m, hn, hl⟩ := I.loc
    refine ⟨m, ns m hn, fun i x v e1 e2 e3 => ?_⟩
    obtain ⟨u, r, l⟩ := hl i x v e1 e2 e3
    refine ⟨u, r, ?_⟩
    rcases l with l | ⟨k, c, e, z⟩
    · exact .inl l
    · exact .inr ⟨k, c, e, cellK x c e _ z⟩
  · obtain ⟨v, z⟩ := I.cell x c e
    exact ⟨v, cellK x c e v z⟩
  · obtain ⟨m, ⟨o, _, _, ho, _⟩, _⟩ := I.loc
    exact free _ o (fun z => (hch _ z).2.1 rfl) ho I.free
  · obtain ⟨v, o, ho, hd⟩ := I.cell x c e
    exact free c o (fun z => (hch c z).2.2.1 x c e rfl) ho (I.freeC x c e)
  · obtain ⟨e, n, ne, nf, d⟩ := I.pin p hp
    have nch : p.1 ∉ ch := fun z => (hch p.1 z).2.2.2 p hp rfl
    exact ⟨keep p.1 p.2 ne nf nch e n, free p.1 p.2 nch e n, ne, nf, d⟩
/-- .. where the frame's own object is kept too -/
theorem Inv.un {t' : Nat} (I : Inv X pins σ H s) (u : Un X.fs [] H H' s.heap h') (hok : HOk X.prog X.w H' h') : Inv X pins σ H' { s with heap := h', toks := t' } := by
  obtain ⟨m, ⟨o, es, ep, ho, r⟩, _⟩ := id I.loc
  obtain ⟨sl, hL⟩ := u.any ho I.free (by simp)
  exact I.step (g' := s.gens) (d' := s.drawn) (ch := []) (fun _ z => nomatch z) (fun b o _ hb _ e n => u.keep b o e n hb (by simp)) (fun b o _ hb _ e n => u.slot b o e n hb (by simp)) (fun b o _ e n => u.free b o e n (by simp)) (fun b o _ e => u.there b o e (by simp)) u.tups u.frzs u.tbls (fun m' hm => by
    obtain ⟨o', es', ep', ho', r'⟩ := hm
    rw [ho] at ho'; cases ho'
    exact ⟨_, es', ep', hL, r'⟩) hok I.bare
/-- behind a call (or a comprehension's block): the slots of this frame may have changed too, the records at ch may have turned -/
theorem Inv.call {g' : Array GenState} {t' : Nat} {d' : Drawn} {ch : List Addr} (I : Inv X pins σ H s) (u : Un (frs X.stack) ch H H' s.heap h') (hok : HOk X.prog X.w H' h') (hg : AllBare g')
    (hch : ∀ b ∈ ch, (b ∈ X.ex ∨ X.s₀.heap.objs.size ≤ b) ∧ b ≠ X.env.locals ∧ (∀ x c, X.env.cells.lookup x = some c → c ≠ b) ∧ ∀ p ∈ X.pn ++ pins, p.1 ≠ b) :
    Inv X pins σ H' { s with heap := h', gens := g', drawn := d', toks := t' } := by
  obtain ⟨m, ⟨o, es, ep, ho, r⟩, _⟩ := id I.loc
  obtain ⟨sl, hL⟩ := u.any ho I.free fun z => (hch _ z).2.1 rfl
  exact I.step (ch := ch) hch (fun b o hL hb hc e n => u.keep b o e n (fun z => (List.mem_cons.mp (I.stkSub b z)).elim hL hb) hc) (fun b o _ _ hc e n => u.any e n hc) (fun b o hc e n => u.free b o e n hc) (fun b o hc e => u.there b o e hc) u.tups u.frzs u.tbls (fun m' hm => by
    obtain ⟨o', es', ep', ho', r'⟩ := hm
    rw [ho] at ho'; cases ho'
    exact ⟨_, es', ep', hL, r'⟩) hok hg
/-- an untracked record of ours (an iterator) has turned -/
theorem Inv.turned {t' : Nat} {it : Addr} (I : Inv X pins σ H s) (k : ∀ b o, b ≠ it → s.heap.get? b = some o → h'.get? b = some o) (hn : H it = none) (hL : it ≠ X.env.locals)
    (h1 : it ∈ X.ex ∨ X.s₀.heap.objs.size ≤ it) (h2 : ∀ x c, X.env.cells.lookup x = some c → c ≠ it) (h3 : ∀ p ∈ X.pn ++ pins, p.1 ≠ it) : Inv X pins σ H { s with heap := h', toks := t' } := by
  have nit : ∀ b u, H b = some u → b ≠ it := fun b u e z => by rw [z, hn] at e; cases e
  refine I.step (g' := s.gens) (d' := s.drawn) (ch := [it]) (fun b hb => ?_) (fun b o _ _ hc e _ => k b o (fun z => hc (by simp [z])) e) (fun b o _ _ hc e _ => ⟨o.slots, k b o (fun z => hc (by simp [z])) e⟩) (fun _ _ _ _ n => n)
    (fun b o hc e => ⟨o, k b o (fun z => hc (by simp [z])) e⟩) (fun _ _ e => e) (fun _ _ _ e => e) (fun b ps e => ⟨#[], by rw [e]; simp⟩) (fun m hm => ?_) (fun b u e => ?_) I.bare
  · have e : b = it := by simpa using hb
    subst e
    exact ⟨h1, hL, h2, h3⟩
  · obtain ⟨o, es, ep, ho, r⟩ := hm
    exact ⟨o, es, ep, k _ o (Ne.symm hL) ho, r⟩
  · refine (I.hok b u e).stay (fun c v hc q => k c v ?_ q) (fun _ q => q) fun _ _ q => q
    rcases hc with z | z
    · rw [z]; exact nit b u e
    · exact nit c _ z
theorem Inv.tok (I : Inv X pins σ H s) (t : Nat) : Inv X pins σ H { s with toks := t } := I.un (h' := s.heap) (t' := t) Un.refl I.hok
/-- all objects kept -/
theorem Inv.kept {t' : Nat} (I : Inv X pins σ H s) (k : ∀ b u, s.heap.get? b = some u → h'.get? b = some u) : Inv X pins σ H { s with heap := h', toks := t' } := I.un (Un.kept k) (I.hok.kept k)
/-- a new object laid and tracked -/
theorem Inv.laid {a : Addr} {o : HO} {t' : Nat} (I : Inv X pins σ H s) (k : ∀ b u, s.heap.get? b = some u → h'.get? b = some u) (hp : s.heap.objs.size ≤ a) (new : ObjOk X.prog X.w (upd H a o) h' a o) :
    Inv X pins σ (upd H a o) { s with heap := h', toks := t' } := I.un (Un.laid k hp (I.hok.fresh hp)) (I.hok.laid k hp new)
/-- an object written -/
theorem Inv.write {x e : Addr} {o : HO} {t' : Nat} (I : Inv X pins σ H s) (mu : Mut (H x)) (he : e = x ∨ H e = some (.own x)) (k : ∀ b u, b ≠ e → s.heap.get? b = some u → h'.get? b = some u) (heo : ∃ u, h'.get? e = some u)
    (new : ObjOk X.prog X.w (upd H x o) h' x o) : Inv X pins σ (upd H x o) { s with heap := h', toks := t' } := I.un (Un.write mu he k heo) (I.hok.write mu he k heo new)
/-- forgetting slots, pins -/
theorem Inv.weak {σ' : List (Option V)} (I : Inv X pins σ H s) (hl : σ'.length = σ.length) (w : ∀ (i : Nat) v, σ'[i]? = some (some v) → σ[i]? = some (some v)) : Inv X pins σ' H s :=
  ⟨I.ok, I.os, I.bare, I.base, let ⟨m, hn, hl'⟩ := I.loc; ⟨m, hn, fun i x v e1 e2 e3 => hl' i x v e1 (w i v e2) e3⟩, I.cell, I.free, I.freeC, I.pin, I.hok, hl.trans I.len⟩
theorem Inv.pins_of {pins' : List (Addr × Obj)} (I : Inv X pins σ H s) (h : ∀ p ∈ pins', s.heap.get? p.1 = some p.2 ∧ H p.1 = none ∧ p.1 ≠ X.env.locals ∧ p.1 ∉ X.fs ∧ ∀ v, p.2.data ≠ .cell v) : Inv X pins' σ H s :=
  ⟨I.ok, I.os, I.bare, I.base, I.loc, I.cell, I.free, I.freeC, fun p hp => (List.mem_append.mp hp).elim (fun z => I.pin p (List.mem_append_left _ z)) (h p), I.hok, I.len⟩

theorem nodup_ix {N : List Str} (hN : N.Nodup) {i j : Nat} {x : Str} (a : N[i]? = some x) (b : N[j]? = some x) : i = j := by
  obtain ⟨h1, e1⟩ := List.getElem?_eq_some_iff.mp a
  obtain ⟨h2, e2⟩ := List.getElem?_eq_some_iff.mp b
  exact (List.getElem_inj hN).mp (e1.trans e2.symm)

/-- a name is stored; what changed -/
theorem store_ok2 {M : Model} {A : Around} {E : Value → Shared → Prop} {i : Nat} {x : Str} {v : V} {u : Value} {Q : Unit → Shared → Prop} (I : Inv X pins σ H s) (hN : X.N.Nodup) (hi : X.N[i]? = some x) (hx : Loc X.env.scope x) (r : RelV v u)
    (h : ∀ s', Inv X pins (σ.set i (some v)) H s' → (∃ a, Heap.SameBut a s.heap s'.heap ∧ (a = X.env.locals ∨ X.env.cells.lookup x = some a)) → Q () s') (hf : X.fn x = true ∨ X.env.scope.names.lookup x = some .local := by first | exact .inl rfl | exact .inr rfl | assumption) : wpAny M A (storeName X.env x u) Q E s := by
  obtain ⟨m, hn, hl⟩ := id I.loc
  have hcls : (X.env.scope.kind == .class || (X.env.scope.kind == .module && X.env.locals != X.env.globals)) = false := by rw [I.ok.kind]; rfl
  have hiσ : i < σ.length := by rw [I.len]; exact (List.getElem?_eq_some_iff.mp hi).1
  have cne := I.cne
  have tracked : ∀ {a : Addr} {h' : Heap}, (∃ o, s.heap.get? a = some o ∧ H a = none) → Heap.SameBut a s.heap h' → HOk X.prog X.w H h' := fun {a h'} ha hs b ob e => by
    obtain ⟨_, _, hfree⟩ := ha
    refine (I.hok b ob e).stay (fun c w' hc q => (hs.2 c ?_).trans q) (fun _ q => q) fun _ _ q => q
    rintro rfl
    rcases hc with rfl | hc
    · rw [hfree] at e; cases e
    · rw [hfree] at hc; cases hc
  rcases hx with hk | hk
  · refine wpAny_storeName_local hk hn (fun h' hn' hs => ?_) hcls
    obtain ⟨oL, _, _, hoL, _⟩ := id hn
    refine h _ ⟨I.ok, I.os, I.bare, ⟨fun b o e n hb hx => ?_, fun b o e n hb hx => ?_, I.base.free, fun b o e hx => ?_, I.base.tups, I.base.frzs, I.base.tbls⟩, ⟨_, hn', fun j y v' e1 e2 e3 => ?_⟩, fun y c e => ?_, I.free, I.freeC, fun p hp => ?_, tracked ⟨oL, hoL, I.free⟩ hs, by simpa using I.len⟩ ⟨_, hs, .inl rfl⟩
    · exact (hs.2 b (Nat.ne_of_lt (Nat.lt_of_lt_of_le (Heap.lt_size e) I.ok.above))).trans (I.base.keep b o e n hb hx)
    · obtain ⟨sl, e1⟩ := I.base.slot b o e n hb hx
      exact ⟨sl, (hs.2 b (Nat.ne_of_lt (Nat.lt_of_lt_of_le (Heap.lt_size e) I.ok.above))).trans e1⟩
    · obtain ⟨o', e1⟩ := I.base.there b o e hx
      exact ⟨o', (hs.2 b (Nat.ne_of_lt (Nat.lt_of_lt_of_le (Heap.lt_size e) I.ok.above))).trans e1⟩
    · by_cases hj : j = i
      · subst hj
        rw [hi] at e1; cases e1
        rw [List.getElem?_set_self hiσ] at e2
        cases e2
        exact ⟨u, r, .inl ⟨hk, by simp⟩⟩
      · rw [List.getElem?_set_ne (Ne.symm hj)] at e2
        obtain ⟨u', r', q⟩ := hl j y v' e1 e2 e3
        refine ⟨u', r', ?_⟩
        rcases q with ⟨k, e⟩ | ⟨k, c, e, z⟩
        · refine .inl ⟨k, ?_⟩
          have : y ≠ x := fun e => hj (nodup_ix hN e1 (e ▸ hi))
          simp [this, e]
        · exact .inr ⟨k, c, e, z.sameBut hs (cne y c e)⟩
    · obtain ⟨w', z⟩ := I.cell y c e
      exact ⟨w', z.sameBut hs (cne y c e)⟩
    · obtain ⟨e, n, ne, nf, d⟩ := I.pin p hp
      exact ⟨(hs.2 p.1 ne).trans e, n, ne, nf, d⟩
  · have hfn : X.fn x = true := by
      rcases hf with z | z
      · exact z
      · rw [z] at hk; cases hk
    obtain ⟨c, hc⟩ := I.ok.has x (.inl hk)
    obtain ⟨w', z⟩ := I.cell x c hc
    refine wpAny_storeName_cell I.ok.kind hk hc z (fun h' hc' hs => ?_)
    obtain ⟨oc, hoc, hocd⟩ := id z
    refine h { s with heap := h' } ⟨I.ok, I.os, I.bare, ⟨fun b o e n hb hx => ?_, fun b o e n hb hx => ?_, I.base.free, fun b o e hx => ?_, I.base.tups, I.base.frzs, I.base.tbls⟩, ⟨m, hn.sameBut hs (Ne.symm (cne x c hc)), fun j y v' e1 e2 e3 => ?_⟩, fun y c' e => ?_, I.free, I.freeC, fun p hp => ?_, tracked ⟨oc, hoc, I.freeC x c hc⟩ hs, by simpa using I.len⟩ ⟨c, hs, .inr hc⟩
    · exact (hs.2 b (Nat.ne_of_lt (Nat.lt_of_lt_of_le (Heap.lt_size e) (I.ok.cab x c hfn hc)))).trans (I.base.keep b o e n hb hx)
    · obtain ⟨sl, e1⟩ := I.base.slot b o e n hb hx
      exact ⟨sl, (hs.2 b (Nat.ne_of_lt (Nat.lt_of_lt_of_le (Heap.lt_size e) (I.ok.cab x c hfn hc)))).trans e1⟩
    · obtain ⟨o', e1⟩ := I.base.there b o e hx
      exact ⟨o', (hs.2 b (Nat.ne_of_lt (Nat.lt_of_lt_of_le (Heap.lt_size e) (I.ok.cab x c hfn hc)))).trans e1⟩
    · by_cases hj : j = i
      · subst hj
        rw [hi] at e1; cases e1
        rw [List.getElem?_set_self hiσ] at e2
        cases e2
        exact ⟨u, r, .inr ⟨.inl hk, c, hc, hc'⟩⟩
      · rw [List.getElem?_set_ne (Ne.symm hj)] at e2
        obtain ⟨u', r', q⟩ := hl j y v' e1 e2 e3
        refine ⟨u', r', ?_⟩
        rcases q with q | ⟨k, c', e, z'⟩
        · exact .inl q
        · refine .inr ⟨k, c', e, z'.sameBut hs ?_⟩
          rintro rfl
          exact hj (nodup_ix hN e1 (I.ok.inj _ _ _ e hc ▸ hi))
    · by_cases hcc : c' = c
      · subst hcc; exact ⟨_, hc'⟩
      · obtain ⟨w2, z2⟩ := I.cell y c' e
        exact ⟨w2, z2.sameBut hs hcc⟩
    · obtain ⟨e, n, ne, nf, d⟩ := I.pin p hp
      refine ⟨(hs.2 p.1 ?_).trans e, n, ne, nf, d⟩
      intro q
      rw [q, hoc] at e
      have q' : oc = p.2 := Option.some.inj e
      exact d w' (by rw [← q']; exact hocd)
theorem store_ok {M : Model} {A : Around} {E : Value → Shared → Prop} {i : Nat} {x : Str} {v : V} {u : Value} {Q : Unit → Shared → Prop} (I : Inv X pins σ H s) (hN : X.N.Nodup) (hi : X.N[i]? = some x) (hx : Loc X.env.scope x) (r : RelV v u)
    (h : ∀ s', Inv X pins (σ.set i (some v)) H s' → Q () s') (hf : X.fn x = true ∨ X.env.scope.names.lookup x = some .local := by first | exact .inl rfl | exact .inr rfl | assumption) : wpAny M A (storeName X.env x u) Q E s :=
  store_ok2 I hN hi hx r (fun s' I' _ => h s' I') hf
/-- behind a call or a block, the state as it is -/
theorem Inv.call' {s' : Shared} {ch : List Addr} (I : Inv X pins σ H s) (ho : s'.os = s.os) (u : Un (frs X.stack) ch H H' s.heap s'.heap) (hok : HOk X.prog X.w H' s'.heap) (hg : AllBare s'.gens)
    (hch : ∀ b ∈ ch, (b ∈ X.ex ∨ X.s₀.heap.objs.size ≤ b) ∧ b ≠ X.env.locals ∧ (∀ x c, X.env.cells.lookup x = some c → c ≠ b) ∧ ∀ p ∈ X.pn ++ pins, p.1 ≠ b) : Inv X pins σ H' s' := by
  obtain ⟨h', g', d', t', o'⟩ := s'
  have e : o' = s.os := ho
  subst e
  exact I.call (g' := g') (t' := t') (d' := d') u hok hg hch
end

/-! ### the judgements -/
/-- an exception: its class, its own dict's address (where it has one), the abstract heap behind it -/
abbrev XK := Value → Option Addr → Hp → Prop
abbrev St := List (Option V)
abbrev VK := V → Hp → Prop
/-- an expression's reading; a test's; an argument list's -/
abbrev TE := St → Hp → VK → Prop
abbrev TT := St → Hp → (Bool → Hp → Prop) → Prop
abbrev TA := St → Hp → (List V → Hp → Prop) → Prop
/-- what is wanted behind a statement -/
structure Ends where
  nx : St → Hp → Prop
  rt : VK
  bk : St → Hp → Prop := fun _ _ => False
  ct : St → Hp → Prop := fun _ _ => False
abbrev TS := Ends → St → Hp → Prop

def EP (X : Cx) (pins : List (Addr × Obj)) (σ : St) (Q : VK) (u : Value) (s' : Shared) : Prop := ∃ v H', Inv X pins σ H' s' ∧ RelV v u ∧ Q v H'
def TP (X : Cx) (pins : List (Addr × Obj)) (σ : St) (Q : Bool → Hp → Prop) (b : Bool) (s' : Shared) : Prop := ∃ H', Inv X pins σ H' s' ∧ Q b H'
def AP (X : Cx) (pins : List (Addr × Obj)) (σ : St) (Q : List V → Hp → Prop) (us : List Value) (s' : Shared) : Prop := ∃ vs H', Inv X pins σ H' s' ∧ Vals vs us ∧ Q vs H'
def SP (X : Cx) (pins : List (Addr × Obj)) (D : Ends) (f : Flow) (s' : Shared) : Prop :=
  match f with
  | .next => ∃ σ' H', Inv X pins σ' H' s' ∧ D.nx σ' H'
  | .brk => ∃ σ' H', Inv X pins σ' H' s' ∧ D.bk σ' H'
  | .cont => ∃ σ' H', Inv X pins σ' H' s' ∧ D.ct σ' H'
  | .ret u => ∃ v σ' H', Inv X pins σ' H' s' ∧ RelV v u ∧ D.rt v H'

def PE (X : Cx) (e : Expr) (t : TE) : Prop :=
  ∀ (pins : List (Addr × Obj)) (s : Shared) (σ : St) (H : Hp) (Q : VK), Inv X pins σ H s → t σ H Q → wpAny (model X.prog X.w) X.A (eval e X.env) (EP X pins σ Q) X.xe s
def PT (X : Cx) (e : Expr) (t : TT) : Prop :=
  ∀ (pins : List (Addr × Obj)) (s : Shared) (σ : St) (H : Hp) (Q : Bool → Hp → Prop), Inv X pins σ H s → t σ H Q → wpAny (model X.prog X.w) X.A (isTrue e X.env (eval e X.env)) (TP X pins σ Q) X.xe s
/-- a test whatever its 'whole' is (and, or) -/
def PW (X : Cx) (e : Expr) (t : TT) : Prop :=
  ∀ (whole : Sem Value) (pins : List (Addr × Obj)) (s : Shared) (σ : St) (H : Hp) (Q : Bool → Hp → Prop), Inv X pins σ H s → t σ H Q → wpAny (model X.prog X.w) X.A (isTrue e X.env whole) (TP X pins σ Q) X.xe s
theorem PW.pt {X : Cx} {e : Expr} {t : TT} (h : PW X e t) : PT X e t := h _
/-- an argument list (no star), from the left -/
def PA (X : Cx) (es : List Expr) (t : TA) : Prop :=
  ∀ (pos : Pos) (pins : List (Addr × Obj)) (s : Shared) (σ : St) (H : Hp) (Q : List V → Hp → Prop), Inv X pins σ H s → t σ H Q → wpAny (model X.prog X.w) X.A (spliced (backTo pos (starEach es X.env))) (AP X pins σ Q) X.xe s
def PS (X : Cx) (st : Stmt) (t : TS) : Prop :=
  ∀ (pins : List (Addr × Obj)) (s : Shared) (σ : St) (H : Hp) (D : Ends), Inv X pins σ H s → t D σ H → wpAny (model X.prog X.w) X.A (exec st X.env) (SP X pins D) X.xe s
def PSs (X : Cx) (st : List Stmt) (t : TS) : Prop :=
  ∀ (pins : List (Addr × Obj)) (s : Shared) (σ : St) (H : Hp) (D : Ends), Inv X pins σ H s → t D σ H → wpAny (model X.prog X.w) X.A (execs st X.env) (SP X pins D) X.xe s
/-- weaken the end -/
theorem thn {α : Type} {t : Sem α} {Q Q' : α → Shared → Prop} {M : Model} {A : Around} {E : Value → Shared → Prop} {s : Shared} (h : wpAny M A t Q E s) (hQ : ∀ a s, Q a s → Q' a s) : wpAny M A t Q' E s := wpAny_mono h hQ fun _ _ x => x
end L2

namespace L2
open PySem PySem.Spec PyProof.Rows
section
variable {X : Cx}

/-- two expressions in a row -/
theorem bin {a b : Expr} {ta tb : TE} (ha : PE X a ta) (hb : PE X b tb) {pins : List (Addr × Obj)} {s : Shared} {σ : St} {H : Hp} {R : V → V → Hp → Prop} (I : Inv X pins σ H s) (h : ta σ H fun x H1 => tb σ H1 fun y H2 => R x y H2)
    {α : Type} {Q : α → Shared → Prop} {f : Value → Value → Sem α}
    (hf : ∀ v u s2 x y H2, Inv X pins σ H2 s2 → RelV x v → RelV y u → R x y H2 → wpAny (model X.prog X.w) X.A (f v u) Q X.xe s2) :
    wpAny (model X.prog X.w) X.A (eval a X.env) (fun v s₁ => wpAny (model X.prog X.w) X.A (eval b X.env) (fun u s₂ => wpAny (model X.prog X.w) X.A (f v u) Q X.xe s₂) X.xe s₁) X.xe s := by
  refine thn (ha pins s σ H _ I h) fun v s1 ⟨x, H1, I1, r1, q1⟩ => ?_
  refine thn (hb pins s1 σ H1 _ I1 q1) fun u s2 ⟨y, H2, I2, r2, q2⟩ => ?_
  exact hf v u s2 x y H2 I2 r1 r2 q2

/-! ### names and constants -/
def tVar (i : Nat) : TE := fun σ H Q => ∃ v, σ[i]? = some (some v) ∧ Q v H
def tC (v : V) : TE := fun _ H Q => Q v H
theorem pe_var {i : Nat} {x : Str} {pos : Pos} (hN : X.N[i]? = some x) (hv : Vis X.env.scope x) (hd : (x == ("__debug__" : Str)) = false := by decide) (hcd : (x == ("__classdict__" : Str)) = false := by decide) : PE X (.Name x pos) (tVar i) := by
  intro pins s σ H Q I h
  obtain ⟨v, e, h⟩ := h
  obtain ⟨m, hn, hl⟩ := I.loc
  obtain ⟨u, r, l⟩ := hl i x v hN e hv
  have fin : EP X pins σ Q u s := ⟨v, H, I, r, h⟩
  rcases l with ⟨hk, hm⟩ | ⟨hk, c, hc, hcell⟩
  · exact wpAny_Name (wpAny_loadName_local I.ok.kind hk hn hm fin) hd
  · rcases hk with hk | hk
    · exact wpAny_Name (wpAny_loadName_cell I.ok.kind hk hc hcell fin) hd
    · exact wpAny_Name (wpAny_loadName_free I.ok.kind hk hc hcell fin hcd) hd
theorem pe_int {i j pos} : PE X (.Constant (.int i) j pos) (tC (.int i)) := fun _ _ _ H _ I h => wpAny_Constant_int ⟨.int i, H, I.tok _, ⟨_, rfl⟩, h⟩
theorem pe_bl {b j pos} : PE X (.Constant (.bool b) j pos) (tC (.bl b)) := fun _ _ _ H _ I h => Constant_bool ⟨.bl b, H, I, rfl, h⟩
theorem pe_non {j pos} : PE X (.Constant .none j pos) (tC .non) := fun _ _ _ H _ I h => Constant_none ⟨.non, H, I, rfl, h⟩
theorem pe_str {x j pos} : PE X (.Constant (.str x) j pos) (tC (.str x)) := fun _ _ _ H _ I h => Calls.Constant_str ⟨.str x, H, I.tok _, ⟨_, rfl⟩, h⟩

/-- a global name of the def -/
def Gl (X : Cx) (x : Str) : Prop := X.env.kindOf x = some .globalImplicit
theorem ld_glob {E : Value → Shared → Prop} {pins : List (Addr × Obj)} {s : Shared} {σ : St} {H : Hp} {x : Str} {u : Value} {pos : Pos} {Q : Value → Shared → Prop} (I : Inv X pins σ H s) (hg : Gl X x) (hm : X.mg x = some u) (h : Q u s)
    (hd : (x == ("__debug__" : Str)) = false := by decide) : wpAny (model X.prog X.w) X.A (eval (.Name x pos) X.env) Q E s :=
  Calls.Name_function_global I.ok.kind hg (Calls.loadGlobal_global (by rw [I.ok.glob]; exact I.mod.glob.keeps I.bk) hm h) hd
theorem ld_blt {E : Value → Shared → Prop} {pins : List (Addr × Obj)} {s : Shared} {σ : St} {H : Hp} {x : Str} {u : Value} {pos : Pos} {Q : Value → Shared → Prop} (I : Inv X pins σ H s) (hg : Gl X x) (hm : X.mg x = none) (hv : bootBuiltins x = some u) (h : Q u s)
    (hn : x ≠ "__name__" := by decide) (hd : (x == ("__debug__" : Str)) = false := by decide) : wpAny (model X.prog X.w) X.A (eval (.Name x pos) X.env) Q E s := by
  obtain ⟨mb, h1, h2⟩ := I.mod.blt
  exact Calls.Name_function_global I.ok.kind hg (Calls.loadGlobal_builtin (by rw [I.ok.glob]; exact I.mod.glob.keeps I.bk) hm (by rw [I.ok.blt]; exact h1.keeps I.bk) ((h2 x hn).trans hv) h) hd
/-- a module's constant, a class, a function, as a value -/
theorem pe_glob {x : Str} {v : V} {u : Value} {pos : Pos} (hg : Gl X x) (hm : X.mg x = some u) (r : RelV v u) (hd : (x == ("__debug__" : Str)) = false := by decide) : PE X (.Name x pos) (tC v) :=
  fun _ _ _ H _ I h => ld_glob I hg hm ⟨v, H, I, r, h⟩ hd
theorem pe_bltn {x : Str} {v : V} {u : Value} {pos : Pos} (hg : Gl X x) (hm : X.mg x = none) (hv : bootBuiltins x = some u) (r : RelV v u) (hn : x ≠ "__name__" := by decide) (hd : (x == ("__debug__" : Str)) = false := by decide) : PE X (.Name x pos) (tC v) :=
  fun _ _ _ H _ I h => ld_blt I hg hm hv ⟨v, H, I, r, h⟩ hn hd

/-! ### arithmetic -/
/-- two ints -/
def t2I (ta tb : TE) (k : Int → Int → Hp → Prop) : St → Hp → Prop := fun σ H => ta σ H fun x H1 => tb σ H1 fun y H2 => ∃ i j, x = .int i ∧ y = .int j ∧ k i j H2
def tAdd (ta tb : TE) : TE := fun σ H Q => t2I ta tb (fun i j H2 => Q (.int (i + j)) H2) σ H
def tSub (ta tb : TE) : TE := fun σ H Q => t2I ta tb (fun i j H2 => Q (.int (i - j)) H2) σ H
/-- the left factor below 2^64 -/
def tMul (ta tb : TE) : TE := fun σ H Q => t2I ta tb (fun i j H2 => (-(2 ^ 64) < i ∧ i < 2 ^ 64) ∧ Q (.int (i * j)) H2) σ H
variable {a b : Expr} {ta tb : TE} {pos : Pos}
theorem pe_add (ha : PE X a ta) (hb : PE X b tb) : PE X (.BinOp a .Add b pos) (tAdd ta tb) := by
  intro pins s σ H Q I h
  refine wpAny_BinOp (bin ha hb I h fun v u s2 x y H2 I2 rx ry q => ?_)
  obtain ⟨i, j, rfl, rfl, q⟩ := q
  obtain ⟨t, rfl⟩ := rx
  obtain ⟨t', rfl⟩ := ry
  exact add_int ⟨.int _, H2, I2.tok _, ⟨_, rfl⟩, q⟩
theorem pe_sub (ha : PE X a ta) (hb : PE X b tb) : PE X (.BinOp a .Sub b pos) (tSub ta tb) := by
  intro pins s σ H Q I h
  refine wpAny_BinOp (bin ha hb I h fun v u s2 x y H2 I2 rx ry q => ?_)
  obtain ⟨i, j, rfl, rfl, q⟩ := q
  obtain ⟨t, rfl⟩ := rx
  obtain ⟨t', rfl⟩ := ry
  exact sub_int ⟨.int _, H2, I2.tok _, ⟨_, rfl⟩, q⟩
theorem pe_mul (ha : PE X a ta) (hb : PE X b tb) : PE X (.BinOp a .Mult b pos) (tMul ta tb) := by
  intro pins s σ H Q I h
  refine wpAny_BinOp (bin ha hb I h fun v u s2 x y H2 I2 rx ry q => ?_)
  obtain ⟨i, j, rfl, rfl, ⟨q1, q2⟩, q⟩ := q
  obtain ⟨t, rfl⟩ := rx
  obtain ⟨t', rfl⟩ := ry
  exact mul_int ⟨.int _, H2, I2.tok _, ⟨_, rfl⟩, q⟩ (.of_left (intBits_le_64 q1 q2))

/-! ### comparisons -/
def PC (X : Cx) (op : CmpOp) (a b : Expr) (t : TE) : Prop :=
  ∀ (pins : List (Addr × Obj)) (s : Shared) (σ : St) (H : Hp) (Q : VK), Inv X pins σ H s → t σ H Q →
    wpAny (model X.prog X.w) X.A (eval a X.env) (fun v s₁ => wpAny (model X.prog X.w) X.A (eval b X.env) (fun u s₂ => wpAny (model X.prog X.w) X.A (compareOp op v u) (EP X pins σ Q) X.xe s₂) X.xe s₁) X.xe s
theorem nobehind (b : Expr) {op : CmpOp} (h : op ≠ .In) (h2 : op ≠ .NotIn) : behindInMarks op b = false := by
  have e1 : (op == CmpOp.In) = false := by cases op <;> first | rfl | exact absurd rfl h
  have e2 : (op == CmpOp.NotIn) = false := by cases op <;> first | rfl | exact absurd rfl h2
  cases b <;> simp [behindInMarks, e1, e2]
def tCmp (p : Int → Int → Bool) (ta tb : TE) : TE := fun σ H Q => t2I ta tb (fun i j H2 => Q (.bl (p i j)) H2) σ H
abbrev tLt : TE → TE → TE := tCmp fun i j => decide (i < j)
abbrev tLe : TE → TE → TE := tCmp fun i j => decide (i ≤ j)
abbrev tGt : TE → TE → TE := tCmp fun i j => decide (j < i)
abbrev tGe : TE → TE → TE := tCmp fun i j => decide (j ≤ i)
abbrev tEqI : TE → TE → TE := tCmp fun i j => decide (i = j)
abbrev tNeI : TE → TE → TE := tCmp fun i j => !decide (i = j)
/-- a comparison of two ints, by its rule -/
theorem pc_int {op : CmpOp} {p : Int → Int → Bool} (ha : PE X a ta) (hb : PE X b tb)
    (rule : ∀ (i j : Int) (t u : Tok) (Q : Value → Shared → Prop) (s : Shared), Q (.bool (p i j)) s → wpAny (model X.prog X.w) X.A (compareOp op (.int i t) (.int j u)) Q X.xe s) : PC X op a b (tCmp p ta tb) := by
  intro pins s σ H Q I h
  refine bin ha hb I h fun v u s2 x y H2 I2 rx ry q => ?_
  obtain ⟨i, j, rfl, rfl, q⟩ := q
  obtain ⟨t, rfl⟩ := rx
  obtain ⟨t', rfl⟩ := ry
  exact rule i j t t' _ s2 ⟨.bl _, H2, I2, rfl, q⟩
theorem pc_lt (ha : PE X a ta) (hb : PE X b tb) : PC X .Lt a b (tLt ta tb) := pc_int ha hb fun _ _ _ _ _ _ h => lt_int h
theorem pc_le (ha : PE X a ta) (hb : PE X b tb) : PC X .LtE a b (tLe ta tb) := pc_int ha hb fun _ _ _ _ _ _ h => le_int h
theorem pc_gt (ha : PE X a ta) (hb : PE X b tb) : PC X .Gt a b (tGt ta tb) := pc_int ha hb fun _ _ _ _ _ _ h => gt_int h
theorem pc_ge (ha : PE X a ta) (hb : PE X b tb) : PC X .GtE a b (tGe ta tb) := pc_int ha hb fun _ _ _ _ _ _ h => ge_int h
theorem pc_eqI (ha : PE X a ta) (hb : PE X b tb) : PC X .Eq a b (tEqI ta tb) := pc_int ha hb fun _ _ _ _ _ _ h => eq_int (by rw [Bool.beq_eq_decide_eq]; exact h)
theorem pc_neI (ha : PE X a ta) (hb : PE X b tb) : PC X .NotEq a b (tNeI ta tb) := pc_int ha hb fun _ _ _ _ _ _ h => ne_int (by rw [bne, Bool.beq_eq_decide_eq]; exact h)
/-- is None -/
def tIsN (ta : TE) : TE := fun σ H Q => ta σ H fun x H1 => Q (.bl (decide (x = .non))) H1
def tNotN (ta : TE) : TE := fun σ H Q => ta σ H fun x H1 => Q (.bl (!decide (x = .non))) H1
theorem RelV.none_iff {x : V} {v : Value} (r : RelV x v) : (v == Value.none) = decide (x = .non) := by
  cases x with
  | non => cases r; rfl
  | bl _ => cases r; rfl
  | int _ => obtain ⟨t, rfl⟩ := r; rfl
  | str _ => obtain ⟨t, rfl⟩ := r; rfl
  | byt _ => obtain ⟨t, rfl⟩ := r; rfl
  | flt _ => obtain ⟨t, rfl⟩ := r; rfl
  | ref _ => cases r; rfl
  | ty _ => cases r; rfl
theorem pc_isN {j pos'} (ha : PE X a ta) : PC X .Is a (.Constant .none j pos') (tIsN ta) := by
  intro pins s σ H Q I h
  refine thn (ha pins s σ H _ I h) fun v s1 ⟨x, H1, I1, r1, q1⟩ => ?_
  exact Constant_none (is_none_gen ⟨.bl _, H1, I1, by rw [r1.none_iff]; rfl, q1⟩)
theorem pc_notN {j pos'} (ha : PE X a ta) : PC X .IsNot a (.Constant .none j pos') (tNotN ta) := by
  intro pins s σ H Q I h
  refine thn (ha pins s σ H _ I h) fun v s1 ⟨x, H1, I1, r1, q1⟩ => ?_
  exact Constant_none (isnot_none_gen ⟨.bl _, H1, I1, by rw [r1.none_iff]; rfl, q1⟩)
/-- a comparison as a value, as a test -/
def tB (t : TE) : TT := fun σ H Q => t σ H fun x H1 => ∃ c, x = .bl c ∧ Q c H1
theorem pe_cmp {op : CmpOp} {t : TE} (h : PC X op a b t) (h1 : behindInMarks op b = false := by first | exact nobehind _ (by decide) (by decide) | rfl) : PE X (.Compare a [op] [b] pos) t := fun pins s σ H Q I hw => wpAny_Compare1 (h pins s σ H Q I hw) h1
theorem pt_cmp {op : CmpOp} {t : TE} (h : PC X op a b t) (h1 : behindInMarks op b = false := by first | exact nobehind _ (by decide) (by decide) | rfl) : PT X (.Compare a [op] [b] pos) (tB t) := by
  intro pins s σ H Q I hw
  refine wpAny_isTrue_Compare1 (thn (h pins s σ H _ I hw) fun v s1 h1 => thn h1 fun u s2 h2 => thn h2 fun c s3 ⟨x, H1, I1, r1, q1⟩ => ?_) h1
  obtain ⟨d, rfl, q⟩ := q1
  cases r1
  exact wpAny_truthy_bool ⟨H1, I1, q⟩
/-- an expression whose value is a bool, as a test -/
theorem pt_val {e : Expr} {t : TE} (h : PE X e t) (he : ∀ whole, isTrue e X.env whole = (do let v ← whole; standAt e.pos; holding [v] (truthy v)) := by intro _; rfl) : PT X e (tB t) := by
  intro pins s σ H Q I hw
  refine isTrue_plain (thn (h pins s σ H _ I hw) fun v s1 ⟨x, H1, I1, r1, q1⟩ => ?_) (he _)
  obtain ⟨d, rfl, q⟩ := q1
  cases r1
  exact wpAny_truthy_bool ⟨H1, I1, q⟩

/-! ### and, or, not -/
variable {tA tB' : TT} {rest : List Expr}
def tAnd (t u : TT) : TT := fun σ H Q => t σ H fun c H1 => if c = true then u σ H1 Q else Q false H1
def tOr (t u : TT) : TT := fun σ H Q => t σ H fun c H1 => if c = true then Q true H1 else u σ H1 Q
def tNot (t : TT) : TT := fun σ H Q => t σ H fun c H1 => Q (!c) H1
theorem pw_and1 (ha : PT X a tA) : PW X (.BoolOp .And [a] pos) tA := by
  intro wh pins s σ H Q I h
  refine isTrue_and (thn (ha pins s σ H Q I h) fun c s1 e => ?_)
  cases c with
  | true => exact isTrue_and_nil e
  | false => exact e
theorem pw_or1 (ha : PT X a tA) : PW X (.BoolOp .Or [a] pos) tA := by
  intro wh pins s σ H Q I h
  refine isTrue_or (thn (ha pins s σ H Q I h) fun c s1 e => ?_)
  cases c with
  | false => exact isTrue_or_nil e
  | true => exact e
theorem pw_and (ha : PT X a tA) (hb : PW X (.BoolOp .And (b :: rest) pos) tB') : PW X (.BoolOp .And (a :: b :: rest) pos) (tAnd tA tB') := by
  intro wh pins s σ H Q I h
  refine isTrue_and (thn (ha pins s σ H _ I h) fun c s1 ⟨H1, I1, q1⟩ => ?_)
  cases c with
  | true => exact hb wh pins s1 σ H1 Q I1 q1
  | false => exact ⟨H1, I1, q1⟩
theorem pw_or (ha : PT X a tA) (hb : PW X (.BoolOp .Or (b :: rest) pos) tB') : PW X (.BoolOp .Or (a :: b :: rest) pos) (tOr tA tB') := by
  intro wh pins s σ H Q I h
  refine isTrue_or (thn (ha pins s σ H _ I h) fun c s1 ⟨H1, I1, q1⟩ => ?_)
  cases c with
  | true => exact ⟨H1, I1, q1⟩
  | false => exact hb wh pins s1 σ H1 Q I1 q1
theorem pt_not (ha : PT X a tA) : PT X (.UnaryOp .Not a pos) (tNot tA) := by
  intro pins s σ H Q I h
  exact isTrue_not (ha pins s σ H (fun c H1 => Q (!c) H1) I h)
/-- .. as values (bools) -/
def tAndV (ta tb : TE) : TE := fun σ H Q => ta σ H fun x H1 => ∃ c, x = .bl c ∧ if c = true then tb σ H1 Q else Q (.bl false) H1
def tOrV (ta tb : TE) : TE := fun σ H Q => ta σ H fun x H1 => ∃ c, x = .bl c ∧ if c = true then Q (.bl true) H1 else tb σ H1 Q
def tNotV (ta : TE) : TE := fun σ H Q => ta σ H fun x H1 => ∃ c, x = .bl c ∧ Q (.bl (!c)) H1
theorem pe_one {op} {t : TE} (h : PE X a t) : PE X (.BoolOp op [a] pos) t := fun pins s σ H Q I hw => BoolOp_one (h pins s σ H Q I hw)
theorem pe_and (ha : PE X a ta) (hb : PE X (.BoolOp .And (b :: rest) pos) tb) : PE X (.BoolOp .And (a :: b :: rest) pos) (tAndV ta tb) := by
  intro pins s σ H Q I h
  refine BoolOp_and (thn (ha pins s σ H _ I h) fun v s1 ⟨x, H1, I1, r1, q1⟩ => ?_)
  obtain ⟨c, rfl, q1⟩ := q1
  cases r1
  refine wpAny_truthy_bool ?_
  cases c with
  | true => exact hb pins s1 σ H1 Q I1 q1
  | false => exact ⟨.bl false, H1, I1, rfl, q1⟩
theorem pe_or (ha : PE X a ta) (hb : PE X (.BoolOp .Or (b :: rest) pos) tb) : PE X (.BoolOp .Or (a :: b :: rest) pos) (tOrV ta tb) := by
  intro pins s σ H Q I h
  refine BoolOp_or (thn (ha pins s σ H _ I h) fun v s1 ⟨x, H1, I1, r1, q1⟩ => ?_)
  obtain ⟨c, rfl, q1⟩ := q1
  cases r1
  refine wpAny_truthy_bool ?_
  cases c with
  | false => exact hb pins s1 σ H1 Q I1 q1
  | true => exact ⟨.bl true, H1, I1, rfl, q1⟩
theorem pe_not (ha : PE X a ta) : PE X (.UnaryOp .Not a pos) (tNotV ta) := by
  intro pins s σ H Q I h
  refine UnaryOp_ (thn (ha pins s σ H _ I h) fun v s1 ⟨x, H1, I1, r1, q1⟩ => ?_)
  obtain ⟨c, rfl, q1⟩ := q1
  cases r1
  exact not_of (wpAny_truthy_bool ⟨.bl (!c), H1, I1, rfl, q1⟩)
/-- a if t else b -/
def tIf (t : TT) (ta tb : TE) : TE := fun σ H Q => t σ H fun c H1 => if c = true then ta σ H1 Q else tb σ H1 Q
theorem pe_ifExp {c : Expr} (hc : PT X c tA) (ha : PE X a ta) (hb : PE X b tb) : PE X (.IfExp c a b pos) (tIf tA ta tb) := by
  intro pins s σ H Q I h
  refine wpAny_IfExp (thn (hc pins s σ H _ I h) fun d s1 ⟨H1, I1, q1⟩ => ?_)
  cases d with
  | true => exact ha pins s1 σ H1 Q I1 q1
  | false => exact hb pins s1 σ H1 Q I1 q1
end
end L2

namespace L2
open PySem PySem.Spec PyProof.Rows

/-! ### a list, a tuple that is read: tracked, frozen, or an object of the module -/
def SqL (K : PySem.W.Frag) (H : Hp) (a : Addr) (xs : List V) : Prop :=
  Rd H a (.lst xs) ∨
    ∃ (o : Obj) (its : Array Value) (n : Nat), K.lookup a = some o ∧ o.cls = .type "list" ∧ o.dict = none ∧ o.data = .seq its n ∧ its.size ≤ sizeLine ∧ Vals xs its.toList
def SqT (K : PySem.W.Frag) (H : Hp) (a : Addr) (xs : List V) : Prop :=
  Rd H a (.tup xs) ∨
    ∃ (o : Obj) (its : Array Value) (n : Nat), K.lookup a = some o ∧ o.cls = .type "tuple" ∧ o.data = .seq its n ∧ its.size ≤ sizeLine ∧ Vals xs its.toList
def absV : Value → Option V
  | .none => some .non
  | .bool b => some (.bl b)
  | .int i _ => some (.int i)
  | .str x _ => some (.str x)
  | .bytes b _ => some (.byt b)
  | .float b _ => some (.flt b)
  | .ref a => some (.ref a)
  | .type n => some (.ty n)
  | _ => none
theorem RelV.abs {x : V} {u : Value} (r : RelV x u) : absV u = some x := by
  cases x with
  | non => cases r; rfl
  | bl _ => cases r; rfl
  | int _ => obtain ⟨t, rfl⟩ := r; rfl
  | str _ => obtain ⟨t, rfl⟩ := r; rfl
  | byt _ => obtain ⟨t, rfl⟩ := r; rfl
  | flt _ => obtain ⟨t, rfl⟩ := r; rfl
  | ref _ => cases r; rfl
  | ty _ => cases r; rfl
theorem RelV.inj {x y : V} {u : Value} (r : RelV x u) (q : RelV y u) : x = y := Option.some.inj (r.abs.symm.trans q.abs)
theorem Vals.inj : ∀ {xs ys : List V} {us : List Value}, Vals xs us → Vals ys us → xs = ys
  | _, _, _, .nil, .nil => rfl
  | _, _, _, .cons r t, .cons r' t' => by rw [r.inj r', Vals.inj t t']
section
variable {X : Cx} {pins : List (Addr × Obj)} {σ : St} {H : Hp} {s : Shared} {a : Addr} {xs ys : List V}
theorem SqL.of {K : PySem.W.Frag} (h : H a = some (.lst xs)) : SqL K H a xs := .inl (.inl h)
theorem SqT.of {K : PySem.W.Frag} (h : H a = some (.tup xs)) : SqT K H a xs := .inl (.inl h)
theorem Inv.list (I : Inv X pins σ H s) (h : SqL X.K H a xs) : ∃ its : List Value, Vals xs its ∧ PlainL s.heap a its.toArray ∧ xs.length ≤ sizeLine := by
  rcases h with h | ⟨o, its, n, hk, hc, hd, hs, hz, r⟩
  · obtain ⟨z, its, n, r, e⟩ := h.ok I.hok
    exact ⟨its, r, ⟨_, n, e, rfl, rfl, rfl⟩, z⟩
  · refine ⟨its.toList, r, ⟨o, n, I.kIn a o hk, hc, hd, by simpa using hs⟩, ?_⟩
    have e := r.length
    simp only [Array.length_toList] at e
    omega
theorem Inv.tuple (I : Inv X pins σ H s) (h : SqT X.K H a xs) : ∃ its : List Value, Vals xs its ∧ IsTup s.heap a its.toArray ∧ xs.length ≤ sizeLine := by
  rcases h with h | ⟨o, its, n, hk, hc, hs, hz, r⟩
  · obtain ⟨z, its, r, p⟩ := h.ok I.hok
    exact ⟨its, r, p, z⟩
  · refine ⟨its.toList, r, ⟨o, I.kIn a o hk, hc, n, by simpa using hs⟩, ?_⟩
    have e := r.length
    simp only [Array.length_toList] at e
    omega
theorem Inv.list_inj (I : Inv X pins σ H s) (h : SqL X.K H a xs) (h' : SqL X.K H a ys) : xs = ys := by
  obtain ⟨its, r, ⟨o, n, e, _, _, d⟩, _⟩ := I.list h
  obtain ⟨its', r', ⟨o', n', e', _, _, d'⟩, _⟩ := I.list h'
  rw [e] at e'; cases e'
  rw [d] at d'
  injection d' with d1 _
  have : its = its' := by simpa using congrArg Array.toList d1
  subst this
  exact r.inj r'
theorem Inv.tuple_inj (I : Inv X pins σ H s) (h : SqT X.K H a xs) (h' : SqT X.K H a ys) : xs = ys := by
  obtain ⟨its, r, ⟨o, e, _, n, d⟩, _⟩ := I.tuple h
  obtain ⟨its', r', ⟨o', e', _, n', d'⟩, _⟩ := I.tuple h'
  rw [e] at e'; cases e'
  rw [d] at d'
  injection d' with d1 _
  have : its = its' := by simpa using congrArg Array.toList d1
  subst this
  exact r.inj r'
end

/-! ### another wish about exceptions -/
abbrev Cx.wish (X : Cx) (E : Value → Shared → Prop) : Cx := { X with xe := E }
/-- no exception leaves -/
abbrev Cx.nox (X : Cx) : Cx := X.wish fun _ _ => False
theorem Cx.Ok.wish {X : Cx} (ok : X.Ok) (E : Value → Shared → Prop) : (X.wish E).Ok :=
  ⟨ok.mod, ok.kind, ok.glob, ok.blt, ok.above, ok.inj, ok.has, ok.cab, ok.hd, ok.frames, ok.stk, ok.exf, ok.bs, ok.bsz, ok.noex, ok.exfs, ok.funs, ok.frf⟩
theorem Cx.Ok.unwish {X : Cx} {E : Value → Shared → Prop} (ok : (X.wish E).Ok) : X.Ok :=
  ⟨ok.mod, ok.kind, ok.glob, ok.blt, ok.above, ok.inj, ok.has, ok.cab, ok.hd, ok.frames, ok.stk, ok.exf, ok.bs, ok.bsz, ok.noex, ok.exfs, ok.funs, ok.frf⟩
section
variable {X : Cx} {pins : List (Addr × Obj)} {σ : St} {H : Hp} {s : Shared} {E : Value → Shared → Prop}
theorem Inv.wish (I : Inv X pins σ H s) (E : Value → Shared → Prop) : Inv (X.wish E) pins σ H s := ⟨I.ok.wish E, I.os, I.bare, I.base, I.loc, I.cell, I.free, I.freeC, I.pin, I.hok, I.len⟩
theorem Inv.unwish (I : Inv (X.wish E) pins σ H s) : Inv X pins σ H s := ⟨I.ok.unwish, I.os, I.bare, I.base, I.loc, I.cell, I.free, I.freeC, I.pin, I.hok, I.len⟩
theorem SP.unwish {D : Ends} {f : Flow} {s' : Shared} (h : SP (X.wish E) pins D f s') : SP X pins D f s' := by
  cases f with
  | next => obtain ⟨σ', H', I, q⟩ := h; exact ⟨σ', H', I.unwish, q⟩
  | brk => obtain ⟨σ', H', I, q⟩ := h; exact ⟨σ', H', I.unwish, q⟩
  | cont => obtain ⟨σ', H', I, q⟩ := h; exact ⟨σ', H', I.unwish, q⟩
  | ret u => obtain ⟨v, σ', H', I, r, q⟩ := h; exact ⟨v, σ', H', I.unwish, r, q⟩
theorem PE.nox {e : Expr} {t : TE} (h : PE X.nox e t) : PE X e t := fun pins s σ H Q I hw =>
  wpAny_mono (h pins s σ H Q (I.wish _) hw) (fun _ _ ⟨v, H', I', r, q⟩ => ⟨v, H', I'.unwish, r, q⟩) fun _ _ z => False.elim z
theorem PT.nox {e : Expr} {t : TT} (h : PT X.nox e t) : PT X e t := fun pins s σ H Q I hw =>
  wpAny_mono (h pins s σ H Q (I.wish _) hw) (fun _ _ ⟨H', I', q⟩ => ⟨H', I'.unwish, q⟩) fun _ _ z => False.elim z
theorem PSs.nox {st : List Stmt} {t : TS} (h : PSs X.nox st t) : PSs X st t := fun pins s σ H D I hw =>
  wpAny_mono (h pins s σ H D (I.wish _) hw) (fun _ _ q => q.unwish) fun _ _ z => False.elim z
end

/-! ### blocks and small statements -/
section
variable {X : Cx} {st : Stmt} {rest : List Stmt} {t u : TS} {e : Expr} {te : TE} {pos : Pos}
def tNext : TS := fun D σ H => D.nx σ H
def tSeq (t u : TS) : TS := fun D σ H => t { D with nx := u D } σ H
theorem pss_nil : PSs X [] tNext := fun _ _ σ H _ I h => wpAny_execs_nil ⟨σ, H, I, h⟩
theorem pss_cons (h1 : PS X st t) (h2 : PSs X rest u) : PSs X (st :: rest) (tSeq t u) := by
  intro pins s σ H D I h
  refine wpAny_execs_cons (thn (h1 pins s σ H { D with nx := u D } I h) fun f s1 q => ?_)
  cases f with
  | next =>
    obtain ⟨σ', H', I', q⟩ := q
    exact h2 pins s1 σ' H' D I' q
  | ret v => exact q
  | brk => exact q
  | cont => exact q
theorem pss_one (h1 : PS X st t) : PSs X [st] t := by
  intro pins s σ H D I h
  refine wpAny_execs_cons (thn (h1 pins s σ H D I h) fun f s1 q => ?_)
  cases f with
  | next => exact wpAny_execs_nil q
  | ret v => exact q
  | brk => exact q
  | cont => exact q
def tBreak : TS := fun D σ H => D.bk σ H
def tCont : TS := fun D σ H => D.ct σ H
theorem ps_pass : PS X (.Pass pos) tNext := fun _ _ σ H _ I h => wpAny_Pass ⟨σ, H, I, h⟩
theorem ps_break : PS X (.Break pos) tBreak := fun _ _ σ H _ I h => wpAny_Break ⟨σ, H, I, h⟩
theorem ps_continue : PS X (.Continue pos) tCont := fun _ _ σ H _ I h => wpAny_Continue ⟨σ, H, I, h⟩
/-- in a def's body nothing is shown -/
theorem Inv.quiet {pins : List (Addr × Obj)} {σ : St} {H : Hp} {s : Shared} (I : Inv X pins σ H s) : interactive X.env = false := by simp [interactive, I.ok.kind]
/-- a docstring -/
theorem ps_doc {x j pos pos'} : PS X (.Expr (.Constant (.str x) j pos) pos') tNext := fun _ s σ H _ I h => wpAny_Expr (Calls.Constant_str (show SP X _ _ .next { s with toks := s.toks + 1 } from ⟨σ, H, I.tok _, h⟩)) I.quiet
/-- an expression whose value is dropped -/
def tDrop (te : TE) : TS := fun D σ H => te σ H fun _ H1 => D.nx σ H1
theorem ps_expr (he : PE X e te) (hs : swapsWith e none pos.line X.env = pure false := by rfl) : PS X (.Expr e pos) (tDrop te) := by
  intro pins s σ H D I h
  exact wpAny_Expr_any (thn (he pins s σ H _ I h) fun v s1 ⟨x, H1, I1, r1, q1⟩ => ⟨σ, H1, I1, q1⟩) I.quiet hs
def tRet (te : TE) : TS := fun D σ H => te σ H D.rt
theorem ps_ret (he : PE X e te) : PS X (.Return (some e) pos) (tRet te) := by
  intro pins s σ H D I h
  exact wpAny_Return_some (thn (he pins s σ H _ I h) fun v s1 ⟨x, H1, I1, r1, q1⟩ => ⟨x, σ, H1, I1, r1, q1⟩)
def tRetN : TS := fun D _ H => D.rt .non H
theorem ps_retN : PS X (.Return none pos) tRetN := fun _ _ σ H _ I h => wpAny_Return_none ⟨.non, σ, H, I, rfl, h⟩
def tIfS (c : TT) (t u : TS) : TS := fun D σ H => c σ H fun b H1 => if b = true then t D σ H1 else u D σ H1
theorem ps_if {c : Expr} {a b : List Stmt} {tc : TT} (hc : PT X c tc) (ha : PSs X a t) (hb : PSs X b u) : PS X (.If c a b pos) (tIfS tc t u) := by
  intro pins s σ H D I h
  refine wpAny_If (thn (hc pins s σ H _ I h) fun d s1 ⟨H1, I1, q1⟩ => ?_)
  cases d with
  | true => exact ha pins s1 σ H1 D I1 q1
  | false => exact hb pins s1 σ H1 D I1 q1
/-- code that the proof never comes to -/
def tNever : TS := fun _ _ _ => False
theorem ps_never : PS X st tNever := fun _ _ _ _ _ _ h => h.elim
theorem pss_never {sts : List Stmt} : PSs X sts tNever := fun _ _ _ _ _ _ h => h.elim
end

/-! ### targets -/
abbrev TG := V → St → Hp → (St → Hp → Prop) → Prop
abbrev TGs := List V → St → Hp → (St → Hp → Prop) → Prop
def PG (X : Cx) (target : Expr) (t : TG) : Prop :=
  ∀ (pins : List (Addr × Obj)) (s : Shared) (σ : St) (H : Hp) (v : V) (u : Value) (Q : St → Hp → Prop), Inv X pins σ H s → RelV v u → t v σ H Q →
    wpAny (model X.prog X.w) X.A (assign target X.env u) (fun _ s' => ∃ σ' H', Inv X pins σ' H' s' ∧ Q σ' H') X.xe s
/-- several targets, one after another -/
def PGs (X : Cx) (ts : List Expr) (t : TGs) : Prop :=
  ∀ (pins : List (Addr × Obj)) (s : Shared) (σ : St) (H : Hp) (vs : List V) (us : List Value) (Q : St → Hp → Prop), Inv X pins σ H s → Vals vs us → t vs σ H Q →
    wpAny (model X.prog X.w) X.A (assignInOrder ((assignEach ts X.env).map (·.2)) us) (fun _ s' => ∃ σ' H', Inv X pins σ' H' s' ∧ Q σ' H') X.xe s
/-- o[i] = v, by values -/
abbrev TSet := V → V → V → Hp → (Hp → Prop) → Prop
def PSet (X : Cx) (t : TSet) : Prop :=
  ∀ (pins : List (Addr × Obj)) (s : Shared) (σ : St) (H : Hp) (o i v : V) (ov iv u : Value) (Q : Hp → Prop), Inv X pins σ H s → RelV o ov → RelV i iv → RelV v u → t o i v H Q →
    wpAny (model X.prog X.w) X.A (setItem ov iv u) (fun _ s' => ∃ H', Inv X pins σ H' s' ∧ Q H') X.xe s
/-- a op= b, by values -/
abbrev TIp := V → V → Hp → VK → Prop
def PIp (X : Cx) (op : Operator) (t : TIp) : Prop :=
  ∀ (pins : List (Addr × Obj)) (s : Shared) (σ : St) (H : Hp) (x y : V) (v u : Value) (Q : VK), Inv X pins σ H s → RelV x v → RelV y u → t x y H Q →
    wpAny (model X.prog X.w) X.A (inplaceOp op v u) (EP X pins σ Q) X.xe s
section
variable {X : Cx} {pos : Pos}
def gName (i : Nat) : TG := fun v σ H Q => Q (σ.set i (some v)) H
theorem pg_name {i : Nat} {x : Str} (hN : X.N.Nodup) (hi : X.N[i]? = some x) (hx : Loc X.env.scope x) (hf : X.fn x = true ∨ X.env.scope.names.lookup x = some .local := by first | exact .inl rfl | exact .inr rfl | assumption) : PG X (.Name x pos) (gName i) := by
  intro pins s σ H v u Q I r h
  exact wpAny_assign_Name (store_ok I hN hi hx r (fun s' I' => ⟨_, H, I', h⟩) hf)
def gNil : TGs := fun vs σ H Q => vs = [] ∧ Q σ H
def gCons (t : TG) (u : TGs) : TGs := fun vs σ H Q => ∃ v r, vs = v :: r ∧ t v σ H fun σ' H' => u r σ' H' Q
theorem pgs_nil : PGs X [] gNil := by
  intro pins s σ H vs us Q I r h
  obtain ⟨e, h⟩ := h
  subst e
  cases r
  exact assignInOrder_nil ⟨σ, H, I, h⟩
theorem pgs_cons {e : Expr} {es : List Expr} {t : TG} {u : TGs} (h1 : PG X e t) (h2 : PGs X es u)
    (hs : (assignEach (e :: es) X.env).map (·.2) = assign e X.env :: (assignEach es X.env).map (·.2) := by rfl) : PGs X (e :: es) (gCons t u) := by
  intro pins s σ H vs us Q I r h
  obtain ⟨v, vr, e1, h⟩ := h
  subst e1
  cases r with
  | cons r rr =>
    rw [hs]
    refine assignInOrder_cons (thn (h1 pins s σ H _ _ _ I r h) fun _ s1 ⟨σ1, H1, I1, q1⟩ => ?_)
    exact h2 pins s1 σ1 H1 _ _ Q I1 rr q1
/-- (a, b, ..) = a tuple of that length -/
def gTup (K : PySem.W.Frag) (n : Nat) (t : TGs) : TG := fun v σ H Q => ∃ a xs, v = .ref a ∧ SqT K H a xs ∧ xs.length = n ∧ t xs σ H Q
theorem pg_tup {es : List Expr} {k : Nat} {t : TGs} {n : Nat} (hc : X.calm = true) (h : PGs X es t)
    (hn : (assignEach es X.env).length = n := by rfl) (hst : (assignEach es X.env).findIdx? (·.1) = none := by rfl) : PG X (.Tuple es k pos) (gTup X.K n t) := by
  intro pins s σ H v u Q I r hw
  obtain ⟨a, xs, e1, hq, hl, hw⟩ := hw
  subst e1
  cases r
  obtain ⟨its, rv, ht, hz⟩ := I.tuple hq
  refine assign_Tuple_tuple (I.ok.hd hc) ht (by simp [hn, ← hl, rv.length]) hst fun h' hx => ?_
  have I1 : Inv X pins σ H { s with heap := h' } := I.kept (t' := s.toks) fun b o e => hx b o (Nat.ne_of_lt (Heap.lt_size e)) e
  exact h pins _ σ H xs _ Q I1 (by simpa using rv) hw
/-- o[i] = .. -/
def gSub (to ti : TE) (t : TSet) : TG := fun v σ H Q => to σ H fun o H1 => ti σ H1 fun i H2 => t o i v H2 fun H3 => Q σ H3
theorem pg_sub {o i : Expr} {to ti : TE} {t : TSet} (ho : PE X o to) (hi : PE X i ti) (hs : PSet X t)
    (ha : ∀ v, assign (.Subscript o i pos) X.env v = (do
      let ov ← holding [v] (eval o X.env)
      let iv ← holding [v, ov] (eval i X.env)
      standAt pos
      holding [v, ov, iv] (setItem ov iv v)
      release [v, ov, iv] []) := by intro _; rfl) : PG X (.Subscript o i pos) (gSub to ti t) := by
  intro pins s σ H v u Q I r h
  rw [ha]
  refine wpAny_bind (wpAny_holding (thn (ho pins s σ H _ I h) fun ov s1 ⟨x, H1, I1, r1, q1⟩ => ?_))
  refine wpAny_bind (wpAny_holding (thn (hi pins s1 σ H1 _ I1 q1) fun iv s2 ⟨y, H2, I2, r2, q2⟩ => ?_))
  refine wpAny_bind (wpAny_standAt (wpAny_bind (wpAny_holding (thn (hs pins s2 σ H2 x y v ov iv u _ I2 r1 r2 r q2) fun _ s3 ⟨H3, I3, q3⟩ => ?_))))
  exact wpAny_release ⟨σ, H3, I3, q3⟩
/-- target = value -/
def tAsg (te : TE) (g : TG) : TS := fun D σ H => te σ H fun x H1 => g x σ H1 D.nx
theorem ps_asg {tg e : Expr} {te : TE} {g : TG} (he : PE X e te) (hg : PG X tg g) (hs : swapsWithSole [tg] e pos.line X.env = pure false := by rfl) (hw : swappedStores [tg] e X.env = pure none := by rfl)
    (h1 : (assignEach [tg] X.env).map (·.2) = [assign tg X.env] := by rfl) : PS X (.Assign [tg] e pos) (tAsg te g) := by
  intro pins s σ H D I h
  refine wpAny_Assign_stores (thn (he pins s σ H _ I h) fun v s1 ⟨x, H1, I1, r1, q1⟩ => ?_) hs hw
  rw [h1]
  exact thn (hg pins s1 σ H1 x v _ I1 r1 q1) fun _ s2 q => q
/-- name = value -/
theorem ps_set {i : Nat} {x : Str} {e : Expr} {te : TE} {pos' : Pos} (hN : X.N.Nodup) (hi : X.N[i]? = some x) (hx : Loc X.env.scope x) (he : PE X e te) (hs : swapsWith e (some (.Name x pos')) pos.line X.env = pure false := by rfl) (hf : X.fn x = true ∨ X.env.scope.names.lookup x = some .local := by first | exact .inl rfl | exact .inr rfl | assumption) :
    PS X (.Assign [.Name x pos'] e pos) (tAsg te (gName i)) := by
  intro pins s σ H D I h
  refine wpAny_Assign_Name (thn (he pins s σ H _ I h) fun v s1 ⟨y, H1, I1, r1, q1⟩ => ?_) hs
  exact store_ok I1 hN hi hx r1 (fun s2 I2 => ⟨_, H1, I2, q1⟩) hf
/-- a, b = x, y with plain local names: stored from the right; the pair itself is not tracked (the opening rows as in PyProof/Rows/TupAssign.lean:23) -/
def tPar (i j : Nat) (ta : TA) : TS := fun D σ H => ta σ H fun vs H1 => ∃ v w, vs = [v, w] ∧ D.nx ((σ.set i (some v)).set j (some w)) H1
theorem ps_par {i j : Nat} {x y : Str} {a b : Expr} {ta : TA} {px py pt : Pos} {kt k2 pt2} (hc : X.calm = true) (hN : X.N.Nodup) (hi : X.N[i]? = some x) (hj : X.N[j]? = some y) (hij : i ≠ j)
    (hx : X.env.scope.names.lookup x = some .local) (hy : X.env.scope.names.lookup y = some .local) (ha : PA X [a, b] ta)
    (hw : swappedStores [.Tuple [.Name x px, .Name y py] kt pt] (.Tuple [a, b] k2 pt2) X.env = pure (some [x, y]))
    (hs : swapsWithSole [.Tuple [.Name x px, .Name y py] kt pt] (.Tuple [a, b] k2 pt2) pos.line X.env = pure false := by rfl) :
    PS X (.Assign [.Tuple [.Name x px, .Name y py] kt pt] (.Tuple [a, b] k2 pt2) pos) (tPar i j ta) := by
  intro pins s σ H D I h
  rw [exec_Assign_arm]
  refine wpAny_bind (wpAny_standAt ?_)
  rw [hs]
  refine wpAny_bind (wpAny_pure ?_)
  rw [if_neg (by decide)]
  refine wpAny_bind (Tuple_ (thn (ha _ pins s σ H _ I h) fun us s1 ⟨vs, H1, I1, r1, q1⟩ => ?_))
  obtain ⟨v, w, e1, q1⟩ := q1
  subst e1
  obtain ⟨u1, u2, rfl, rv, rw'⟩ : ∃ u1 u2, us = [u1, u2] ∧ RelV v u1 ∧ RelV w u2 := by
    cases r1 with
    | cons p q =>
      cases q with
      | cons p' q' =>
        cases q'
        exact ⟨_, _, rfl, p, p'⟩
  refine wpAny_newObj_type ?_ (by show 2 ≤ sizeLine; decide)
  have I2 : Inv X pins σ H1 { s1 with heap := s1.heap.push { cls := .type "tuple", data := .seq [u1, u2].toArray } } := I1.kept (t' := s1.toks) fun b o e => Heap.get?_push_of_some _ e
  rw [hw]
  refine wpAny_bind (wpAny_pure ?_)
  show wpAny (model X.prog X.w) X.A (do rule "assign.swapped-stores"; let items ← unpackItems (.ref s1.heap.objs.size) 2 none; assignInOrder [fun v => bindName X.env y v, fun v => bindName X.env x v] items.reverse; pure Flow.next) _ _ _
  refine wpAny_bind (wpAny_rule (wpAny_bind (unpackItems_tuple (items := #[u1, u2]) (I.ok.hd hc) (IsTup.new s1.heap _) fun h' hx' => ?_)))
  have I3 := I2.kept (h' := h') (t' := s1.toks) fun b o e => hx' b o (Nat.ne_of_lt (Heap.lt_size e)) e
  show wpAny _ _ (assignInOrder [fun v => bindName X.env y v, fun v => bindName X.env x v] [u2, u1] >>= fun _ => pure Flow.next) _ _ _
  refine wpAny_bind (assignInOrder_cons (wpAny_bindName (store_ok I3 hN hj (.inl hy) rw' (fun s2 I4 => ?_) (.inr hy))))
  refine assignInOrder_cons (wpAny_bindName (store_ok I4 hN hi (.inl hx) rv (fun s3 I5 => assignInOrder_nil (wpAny_pure ?_)) (.inr hx)))
  rw [List.set_comm _ _ (Ne.symm hij)] at I5
  exact ⟨_, H1, I5, q1⟩
/-- name op= e -/
def tAug (i : Nat) (te : TE) (ti : TIp) : TS := fun D σ H => ∃ x, σ[i]? = some (some x) ∧ te σ H fun y H1 => ti x y H1 fun z H2 => D.nx (σ.set i (some z)) H2
theorem ps_aug {i : Nat} {x : Str} {e : Expr} {te : TE} {op : Operator} {ti : TIp} {pos' : Pos} (hN : X.N.Nodup) (hi : X.N[i]? = some x) (hx : Loc X.env.scope x) (he : PE X e te) (ho : PIp X op ti) (hf : X.fn x = true ∨ X.env.scope.names.lookup x = some .local := by first | exact .inl rfl | exact .inr rfl | assumption) :
    PS X (.AugAssign (.Name x pos') op e pos) (tAug i te ti) := by
  intro pins s σ H D I h
  obtain ⟨v, e1, h⟩ := h
  obtain ⟨m, hn, hl⟩ := I.loc
  have vis : Vis X.env.scope x := by rcases hx with k | k; exact .inl k; exact .inr (.inl k)
  obtain ⟨u, r, l⟩ := hl i x v hi e1 vis
  refine wpAny_AugAssign_Name ?_
  have go : wpAny (model X.prog X.w) X.A (eval e X.env) (fun w s₂ => wpAny (model X.prog X.w) X.A (inplaceOp op u w) (fun r s₃ => wpAny (model X.prog X.w) X.A (storeName X.env x r) (fun _ => SP X pins D .next) X.xe s₃) X.xe s₂) X.xe s := by
    refine thn (he pins s σ H _ I h) fun w s1 ⟨y, H1, I1, r1, q1⟩ => ?_
    refine thn (ho pins s1 σ H1 v y u w _ I1 r r1 q1) fun z s2 ⟨zv, H2, I2, r2, q2⟩ => ?_
    exact store_ok I2 hN hi hx r2 (fun s3 I3 => ⟨_, H2, I3, q2⟩) hf
  rcases l with ⟨hk, hm⟩ | ⟨hk, c, hc, hcell⟩
  · exact wpAny_loadName_local I.ok.kind hk hn hm go
  · rcases hk with hk | hk
    · exact wpAny_loadName_cell I.ok.kind hk hc hcell go
    · rcases hx with k | k
      · have : X.env.scope.names.lookup x = some .free := hk
        rw [k] at this; cases this
      · have : X.env.scope.names.lookup x = some .free := hk
        rw [k] at this; cases this
/-- o[i] op= e -/
def tAugS (to ti te : TE) (tget : V → V → Hp → VK → Prop) (tip : TIp) (tset : TSet) : TS := fun D σ H => to σ H fun o H1 => ti σ H1 fun i H2 => tget o i H2 fun x H3 => te σ H3 fun y H4 => tip x y H4 fun z H5 => tset o i z H5 fun H6 => D.nx σ H6
/-- o[i], by values -/
def PGet (X : Cx) (t : V → V → Hp → VK → Prop) : Prop :=
  ∀ (pins : List (Addr × Obj)) (s : Shared) (σ : St) (H : Hp) (o i : V) (ov iv : Value) (Q : VK), Inv X pins σ H s → RelV o ov → RelV i iv → t o i H Q →
    wpAny (model X.prog X.w) X.A (getItem ov iv) (EP X pins σ Q) X.xe s
theorem ps_augS {o i e : Expr} {to ti te : TE} {tget : V → V → Hp → VK → Prop} {tip : TIp} {tset : TSet} {op : Operator} {tpos : Pos} (ho : PE X o to) (hi : PE X i ti) (hg : PGet X tget) (he : PE X e te) (hp : PIp X op tip) (hs : PSet X tset)
    (ha : ∀ ov iv new, augStore i ov iv new = (do holding [new, ov, iv] (setItem ov iv new); release [new, ov, iv] []; pure .next) := by intros; rfl) : PS X (.AugAssign (.Subscript o i tpos) op e pos) (tAugS to ti te tget tip tset) := by
  intro pins s σ H D I h
  refine wpAny_AugAssign_SubscriptAny (thn (ho pins s σ H _ I h) fun ov s1 ⟨x1, H1, I1, r1, q1⟩ => ?_) ha
  refine thn (hi pins s1 σ H1 _ I1 q1) fun iv s2 ⟨x2, H2, I2, r2, q2⟩ => ?_
  refine thn (hg pins s2 σ H2 x1 x2 ov iv _ I2 r1 r2 q2) fun old s3 ⟨x3, H3, I3, r3, q3⟩ => ?_
  refine thn (he pins s3 σ H3 _ I3 q3) fun v s4 ⟨x4, H4, I4, r4, q4⟩ => ?_
  refine thn (hp pins s4 σ H4 x3 x4 old v _ I4 r3 r4 q4) fun new s5 ⟨x5, H5, I5, r5, q5⟩ => ?_
  exact thn (hs pins s5 σ H5 x1 x2 x5 ov iv new _ I5 r1 r2 r5 q5) fun _ s6 ⟨H6, I6, q6⟩ => ⟨σ, H6, I6, q6⟩
/-- ints -/
def ipI (f : Int → Int → Int) : TIp := fun x y H Q => ∃ i j, x = .int i ∧ y = .int j ∧ Q (.int (f i j)) H
theorem ip_add : PIp X .Add (ipI fun i j => i + j) := by
  intro pins s σ H x y v u Q I r1 r2 h
  obtain ⟨i, j, e1, e2, q⟩ := h
  subst e1; subst e2
  obtain ⟨t, rfl⟩ := r1
  obtain ⟨t', rfl⟩ := r2
  exact iadd_int ⟨.int _, H, I.tok _, ⟨_, rfl⟩, q⟩
theorem ip_sub : PIp X .Sub (ipI fun i j => i - j) := by
  intro pins s σ H x y v u Q I r1 r2 h
  obtain ⟨i, j, e1, e2, q⟩ := h
  subst e1; subst e2
  obtain ⟨t, rfl⟩ := r1
  obtain ⟨t', rfl⟩ := r2
  exact isub_int ⟨.int _, H, I.tok _, ⟨_, rfl⟩, q⟩
end

/-! ### while -/
section
variable {X : Cx} {pos : Pos}
/-- the invariant W with its measure -/
def tWhile (c : TT) (tb : TS) : TS := fun D σ H => ∃ W : Nat → St → Hp → Prop, (∃ m, W m σ H) ∧ ∀ m σ H, W m σ H →
  c σ H fun b H1 => if b = true then ∃ N : St → Hp → Prop, (∀ σ' H', N σ' H' → ∃ m', m' < m ∧ W m' σ' H') ∧ tb { D with nx := N, ct := N, bk := D.nx } σ H1 else D.nx σ H1
theorem ps_while {c : Expr} {body : List Stmt} {tc : TT} {tb : TS} (hp : PassesOwn (model X.prog X.w) X.A X.env X.xe) (hc : PT X c tc) (hb : PSs X body tb) : PS X (.While c body [] pos) (tWhile tc tb) := by
  intro pins s σ H D I h
  obtain ⟨W, ⟨m0, w0⟩, turn⟩ := h
  refine wpAny_While (codeAny_whileLoop (fun n s' => ∃ σ' H', Inv X pins σ' H' s' ∧ W n σ' H') ?_ m0 ⟨σ, H, I, w0⟩)
  rintro n s1 ⟨σ1, H1, I1, w1⟩
  refine wpAny_passesOwn hp (thn (hc pins s1 σ1 H1 _ I1 (turn n σ1 H1 w1)) fun b s2 ⟨H2, I2, q2⟩ => ?_)
  cases b with
  | true =>
    obtain ⟨N, hN, q2⟩ := q2
    rw [if_pos rfl]
    refine wpAny_passesOwn hp (thn (hb pins s2 σ1 H2 _ I2 q2) fun f s3 q3 => ?_)
    cases f with
    | next =>
      obtain ⟨σ3, H3, I3, n3⟩ := q3
      obtain ⟨m', hm, w3⟩ := hN σ3 H3 n3
      exact ⟨m', hm, σ3, H3, I3, w3⟩
    | cont =>
      obtain ⟨σ3, H3, I3, n3⟩ := q3
      obtain ⟨m', hm, w3⟩ := hN σ3 H3 n3
      exact ⟨m', hm, σ3, H3, I3, w3⟩
    | brk => exact q3
    | ret v => exact q3
  | false =>
    rw [if_neg Bool.false_ne_true]
    exact wpAny_execs_nil ⟨σ1, H2, I2, q2⟩
end

/-! ### what a loop or a comprehension walks -/
/-- at turn i: it yields x (the heap may grow), or it stops -/
structure It where
  go : Nat → Hp → Prop
  yld : Nat → Hp → V → Hp → Prop
  stop : Nat → Hp → Prop
/-- the iterator's own objects may turn: they are not the frame's, not pinned, younger than the entry (or a comprehension's own) -/
def FpOk (X : Cx) (pins : List (Addr × Obj)) (H : Hp) (b : Addr) : Prop :=
  H b = none ∧ b ≠ X.env.locals ∧ b ∉ X.fs ∧ (b ∈ X.ex ∨ X.s₀.heap.objs.size ≤ b) ∧ (∀ x c, X.env.cells.lookup x = some c → c ≠ b) ∧ ∀ p ∈ X.pn ++ pins, p.1 ≠ b
theorem Inv.fpOk {X : Cx} {pins : List (Addr × Obj)} {σ : St} {H H' : Hp} {s : Shared} {b : Addr} (I : Inv X pins σ H s) (hb : s.heap.objs.size ≤ b) (hn : H' b = none) : FpOk X pins H' b := by
  refine ⟨hn, Nat.ne_of_gt (Nat.lt_of_lt_of_le I.lt hb), I.nofs hb, .inr (Nat.le_trans I.sz hb), fun x c e z => ?_, fun p hp z => ?_⟩
  · obtain ⟨v, q⟩ := I.cell x c e
    exact absurd (Nat.lt_of_lt_of_le q.lt (by rw [z]; exact hb)) (Nat.lt_irrefl _)
  · exact absurd (Nat.lt_of_lt_of_le (Heap.lt_size (I.pin p hp).1) (by rw [z]; exact hb)) (Nat.lt_irrefl _)
structure Turn (P : Program) (w : World) (K : PySem.W.Frag) (tg : Expr) (J : It) (fp : List Addr) (it : Addr) (tn : Nat → Heap → Prop) : Prop where
  mem : it ∈ fp
  obj : ∀ i h, tn i h → ∀ b ∈ fp, ∃ o, h.get? b = some o ∧ ∀ v, o.data ≠ .cell v
  keep : ∀ i h h', tn i h → (∀ b ∈ fp, ∀ o, h.get? b = some o → h'.get? b = some o) → tn i h'
  item : ∀ (X : Cx), X.prog = P → X.w = w → X.K = K → X.calm = true → ∀ (i : Nat) (pins : List (Addr × Obj)) (s : Shared) (σ : St) (H : Hp) (E : Value → Shared → Prop), Inv X pins σ H s → (∀ b ∈ fp, FpOk X pins H b) → tn i s.heap → J.go i H →
    wpAny (model P w) X.A (pyNext (.ref it)) (fun r s1 => ∃ u, r = some u ∧
      wpAny (model P w) X.A (letOwnedTupleGo tg (.ref it) u) (fun _ s2 => ∃ x H', Inv X pins σ H' s2 ∧ RelV x u ∧ J.yld i H x H' ∧ tn (i + 1) s2.heap ∧ ∀ b ∈ fp, H' b = none) E s1) E s
  done : ∀ (X : Cx), X.prog = P → X.w = w → X.K = K → X.calm = true → ∀ (i : Nat) (pins : List (Addr × Obj)) (s : Shared) (σ : St) (H : Hp) (E : Value → Shared → Prop), Inv X pins σ H s → (∀ b ∈ fp, FpOk X pins H b) → tn i s.heap → J.stop i H →
    wpAny (model P w) X.A (pyNext (.ref it)) (fun r s1 => r = none ∧ Inv X pins σ H s1) E s
  self : ∀ (A : Around) (i : Nat) (s : Shared) (Q : Value → Shared → Prop) (E : Value → Shared → Prop), tn i s.heap → Q (.ref it) s → wpAny (model P w) A (pyIter (.ref it)) Q E s
abbrev TI := St → Hp → (It → Hp → Prop) → Prop
/-- an iterator has come -/
def PIE (X : Cx) (pins : List (Addr × Obj)) (σ : St) (tg : Expr) (R : It → Hp → Prop) (itv : Value) (s2 : Shared) : Prop :=
  ∃ (it : Addr) (fp : List Addr) (tn : Nat → Heap → Prop) (J : It) (H' : Hp), itv = .ref it ∧ Inv X pins σ H' s2 ∧ Turn X.prog X.w X.K tg J fp it tn ∧ tn 0 s2.heap ∧ (∀ b ∈ fp, FpOk X pins H' b) ∧ R J H'
def PI (X : Cx) (tg iter : Expr) (wi : TI) : Prop :=
  ∀ (pins : List (Addr × Obj)) (s : Shared) (σ : St) (H : Hp) (R : It → Hp → Prop), Inv X pins σ H s → wi σ H R →
    wpAny (model X.prog X.w) X.A (eval iter X.env) (fun v s1 => wpAny (model X.prog X.w) X.A (pyIter v) (PIE X pins σ tg R) X.xe s1) X.xe s

/-- the step ahead of the store is nothing for an iterator that keeps no tuple -/
theorem go_of {M : Model} {A : Around} {E : Value → Shared → Prop} {s : Shared} {tg : Expr} {it : Addr} {u : Value} {o : Obj} {n : String} {vs : Array Value} {Q : Unit → Shared → Prop} (ho : s.heap.get? it = some o) (hc : o.cls = .type n) (hd : o.data = .fields vs)
    (hn : ["enumerate", "zip", "dict_itemiterator", "dict_reverseitemiterator", "odict_iterator", "itertools.zip_longest", "itertools.pairwise"].contains n = false) (hQ : Q () s) : wpAny M A (letOwnedTupleGo tg (.ref it) u) Q E s := by
  unfold letOwnedTupleGo
  cases tg <;> first
    | exact wpAny_pure hQ
    | (cases u <;> first
        | exact wpAny_pure hQ
        | (refine wpAny_bind (wpAny_load ho ?_)
           rw [hc, hd]
           show wpAny M A (if (["enumerate", "zip", "dict_itemiterator", "dict_reverseitemiterator", "odict_iterator", "itertools.zip_longest", "itertools.pairwise"].contains n && vs[0]? == some (rawInt _)) = true then _ else _) Q E s
           rw [if_neg (by intro h; rw [hn, Bool.false_and] at h; cases h)]
           exact wpAny_pure hQ))

/-- the list at a, as it stands at each turn (a loop may append to it) -/
def Itl (K : PySem.W.Frag) (a : Addr) : It :=
  ⟨fun i H => ∃ xs x, SqL K H a xs ∧ xs[i]? = some x, fun i H x H' => H' = H ∧ ∀ xs, SqL K H a xs → xs[i]? = some x, fun i H => ∃ xs, SqL K H a xs ∧ xs.length ≤ i⟩
def Itt (K : PySem.W.Frag) (a : Addr) : It :=
  ⟨fun i H => ∃ xs x, SqT K H a xs ∧ xs[i]? = some x, fun i H x H' => H' = H ∧ ∀ xs, SqT K H a xs → xs[i]? = some x, fun i H => ∃ xs, SqT K H a xs ∧ xs.length ≤ i⟩
/-- lo, lo + 1, .. (n of them) -/
def Itr (lo : Int) (n : Nat) : It := ⟨fun i _ => i < n, fun i H x H' => H' = H ∧ x = .int (lo + i), fun i _ => n ≤ i⟩
theorem turn_list {P : Program} {w : World} {K : PySem.W.Frag} {tg : Expr} (a it : Addr) : Turn P w K tg (Itl K a) [it] it (fun i h => h.IsListIter it a i) where
  mem := by simp
  obj := fun i h st b hb => by
    have e : b = it := by simpa using hb
    subst e
    obtain ⟨o, e, c, d⟩ := st
    exact ⟨o, e, fun v z => by rw [d] at z; cases z⟩
  keep := fun i h h' st k => st.at fun o e => k it (by simp) o e
  item := by
    intro X hP hw hK hc i pins s σ H E I hf st hg
    subst hP hw hK
    obtain ⟨xs, x, hq, hx⟩ := hg
    obtain ⟨its, rv, p, hz⟩ := I.list hq
    obtain ⟨u, hu, ru⟩ := rv.get hx
    obtain ⟨f0, f1, f2, f3, f4, f5⟩ := hf it (by simp)
    refine wpAny_pyNext_list_item st p.isList (x := u) (by simpa using hu) fun h' st' sb => ?_
    have I1 : Inv X pins σ H { s with heap := h' } := I.turned (t' := s.toks) (fun b o hb e => (sb.2 b hb).trans e) f0 f1 f3 f4 f5
    obtain ⟨o, e, c, d⟩ := id st'
    exact ⟨u, rfl, go_of (s := { s with heap := h' }) e c d (by decide) ⟨x, H, I1, ru, ⟨rfl, fun ys hy => by rw [I.list_inj hy hq]; exact hx⟩, st', fun b hb => (hf b hb).1⟩⟩
  done := by
    intro X hP hw hK hc i pins s σ H E I hf st hg
    subst hP hw hK
    obtain ⟨xs, hq, hx⟩ := hg
    obtain ⟨its, rv, p, hz⟩ := I.list hq
    obtain ⟨f0, f1, f2, f3, f4, f5⟩ := hf it (by simp)
    have hl := rv.length
    exact wpAny_pyNext_list_end (I.ok.hd hc) st p.isList (by simp; omega) fun h' eb => ⟨rfl, I.turned (t' := s.toks) (fun b o hb e => eb b o hb e) f0 f1 f3 f4 f5⟩
  self := fun _ _ _ _ _ st h => wpAny_pyIter_listiter st h
theorem turn_tuple {P : Program} {w : World} {K : PySem.W.Frag} {tg : Expr} (a it : Addr) : Turn P w K tg (Itt K a) [it] it (fun i h => h.IsTupleIter it a i) where
  mem := by simp
  obj := fun i h st b hb => by
    have e : b = it := by simpa using hb
    subst e
    obtain ⟨o, e, c, d⟩ := st
    exact ⟨o, e, fun v z => by rw [d] at z; cases z⟩
  keep := fun i h h' st k => st.at fun o e => k it (by simp) o e
  item := by
    intro X hP hw hK hc i pins s σ H E I hf st hg
    subst hP hw hK
    obtain ⟨xs, x, hq, hx⟩ := hg
    obtain ⟨its, rv, p, hz⟩ := I.tuple hq
    obtain ⟨u, hu, ru⟩ := rv.get hx
    obtain ⟨f0, f1, f2, f3, f4, f5⟩ := hf it (by simp)
    refine wpAny_pyNext_tuple_item st (show s.heap.IsTuple a its.toArray from p) (x := u) (by simpa using hu) fun h' st' sb => ?_
    have I1 : Inv X pins σ H { s with heap := h' } := I.turned (t' := s.toks) (fun b o hb e => (sb.2 b hb).trans e) f0 f1 f3 f4 f5
    obtain ⟨o, e, c, d⟩ := id st'
    exact ⟨u, rfl, go_of (s := { s with heap := h' }) e c d (by decide) ⟨x, H, I1, ru, ⟨rfl, fun ys hy => by rw [I.tuple_inj hy hq]; exact hx⟩, st', fun b hb => (hf b hb).1⟩⟩
  done := by
    intro X hP hw hK hc i pins s σ H E I hf st hg
    subst hP hw hK
    obtain ⟨xs, hq, hx⟩ := hg
    obtain ⟨its, rv, p, hz⟩ := I.tuple hq
    obtain ⟨f0, f1, f2, f3, f4, f5⟩ := hf it (by simp)
    have hl := rv.length
    exact wpAny_pyNext_tuple_end (I.ok.hd hc) st (show s.heap.IsTuple a its.toArray from p) (by simp; omega) fun h' eb => ⟨rfl, I.turned (t' := s.toks) (fun b o hb e => eb b o hb e) f0 f1 f3 f4 f5⟩
  self := fun _ _ _ _ _ st h => wpAny_pyIter_tupleiter st h
theorem turn_range {P : Program} {w : World} {K : PySem.W.Frag} {tg : Expr} (it : Addr) (lo : Int) (n : Nat) : Turn P w K tg (Itr lo n) [it] it (fun i h => IsRangeIter h it (lo + (i : Nat) * 1) ((n : Int) - (i : Nat)) 1) where
  mem := by simp
  obj := fun i h st b hb => by
    have e : b = it := by simpa using hb
    subst e
    exact ⟨_, st, fun v z => by
      have z' : Data.fields _ = Data.cell v := z
      cases z'⟩
  keep := fun i h h' st k => k it (by simp) _ st
  item := by
    intro X hP hw hK hc i pins s σ H E I hf st hg
    subst hP hw hK
    obtain ⟨f0, f1, f2, f3, f4, f5⟩ := hf it (by simp)
    have W := Walks.range (prog := X.prog) (w := X.w) (I.ok.hd hc) it lo 1 n
    refine W.item i s _ _ hg st fun v h' tk hv st' kk => ?_
    obtain ⟨t, rfl⟩ := hv
    have I1 : Inv X pins σ H { s with heap := h', toks := tk } := I.turned (fun b o hb e => kk b o (by simpa using hb) e) f0 f1 f3 f4 f5
    refine ⟨_, rfl, go_of (s := { s with heap := h', toks := tk }) (n := "range_iterator") st' rfl rfl (by decide) ⟨.int (lo + i), H, I1, ⟨t, ?_⟩, ⟨rfl, rfl⟩, st', fun b hb => (hf b hb).1⟩⟩
    rw [Int.mul_one]
  done := by
    intro X hP hw hK hc i pins s σ H E I hf st hg
    subst hP hw hK
    obtain ⟨f0, f1, f2, f3, f4, f5⟩ := hf it (by simp)
    exact wpAny_pyNext_range_end (I.ok.hd hc) st (by have : n ≤ i := hg; omega) fun h' eb => ⟨rfl, I.turned (t' := s.toks) (fun b o hb e => eb b o hb e) f0 f1 f3 f4 f5⟩
  self := fun _ _ _ _ _ st h => wpAny_pyIter_rangeiter st h
end L2

namespace L2
open PySem PySem.Spec PyProof.Rows
section
variable {X : Cx} {tg : Expr}
def iList (K : PySem.W.Frag) (tl : TE) : TI := fun σ H R => tl σ H fun x H1 => ∃ a, x = .ref a ∧ (∃ xs, SqL K H1 a xs) ∧ R (Itl K a) H1
def iTup (K : PySem.W.Frag) (tl : TE) : TI := fun σ H R => tl σ H fun x H1 => ∃ a, x = .ref a ∧ (∃ xs, SqT K H1 a xs) ∧ R (Itt K a) H1
theorem pi_list {l : Expr} {tl : TE} (hl : PE X l tl) : PI X tg l (iList X.K tl) := by
  intro pins s σ H R I h
  refine thn (hl pins s σ H _ I h) fun v s1 ⟨x, H1, I1, r1, q1⟩ => ?_
  obtain ⟨a, e, ⟨xs, hq⟩, q⟩ := q1
  subst e
  cases r1
  obtain ⟨its, rv, p, hz⟩ := I1.list hq
  refine wpAny_pyIter_list p.isList ?_
  refine ⟨s1.heap.objs.size, [s1.heap.objs.size], _, _, H1, rfl, I1.kept (t' := s1.toks) fun b o e => Heap.get?_push_of_some _ e, turn_list a _, ⟨_, Heap.get?_push_size _ rfl, rfl, rfl⟩, fun b hb => ?_, q⟩
  have e : b = s1.heap.objs.size := by simpa using hb
  subst e
  exact I1.fpOk (Nat.le_refl _) (I1.hok.fresh (Nat.le_refl _))
theorem pi_tup {l : Expr} {tl : TE} (hl : PE X l tl) : PI X tg l (iTup X.K tl) := by
  intro pins s σ H R I h
  refine thn (hl pins s σ H _ I h) fun v s1 ⟨x, H1, I1, r1, q1⟩ => ?_
  obtain ⟨a, e, ⟨xs, hq⟩, q⟩ := q1
  subst e
  cases r1
  obtain ⟨its, rv, p, hz⟩ := I1.tuple hq
  refine wpAny_pyIter_tuple (show s1.heap.IsTuple a its.toArray from p) ?_
  refine ⟨s1.heap.objs.size, [s1.heap.objs.size], _, _, H1, rfl, I1.kept (t' := s1.toks) fun b o e => Heap.get?_push_of_some _ e, turn_tuple a _, ⟨_, Heap.get?_push_size _ rfl, rfl, rfl⟩, fun b hb => ?_, q⟩
  have e : b = s1.heap.objs.size := by simpa using hb
  subst e
  exact I1.fpOk (Nat.le_refl _) (I1.hok.fresh (Nat.le_refl _))
/-- a range object just made, walked -/
theorem range_it {pins : List (Addr × Obj)} {σ : St} {H : Hp} {s : Shared} {R : It → Hp → Prop} {E : Value → Shared → Prop} {lo hi : Int} {t u v : Tok} {tk : Nat} (I : Inv X pins σ H s) (h1 : -(2 ^ 62) ≤ lo) (h2 : lo < 2 ^ 62) (h3 : -(2 ^ 62) ≤ hi) (h4 : hi < 2 ^ 62)
    (q : R (Itr lo (hi - lo).toNat) H) : wpAny (model X.prog X.w) X.A (pyIter (.ref s.heap.objs.size)) (PIE X pins σ tg R) E { s with heap := s.heap.push { cls := .type "range", data := .fields #[.int lo t, .int hi u, .int 1 v] }, toks := tk } := by
  refine wpAny_pyIter_range (IsRange.new ..) (small_one h1 h2 h3 h4) ?_
  have I1 : Inv X pins σ H { s with heap := s.heap.push { cls := .type "range", data := .fields #[.int lo t, .int hi u, .int 1 v] }, toks := tk } := I.kept fun b o e => Heap.get?_push_of_some _ e
  refine ⟨(s.heap.push { cls := .type "range", data := .fields #[.int lo t, .int hi u, .int 1 v] }).objs.size, [(s.heap.push { cls := .type "range", data := .fields #[.int lo t, .int hi u, .int 1 v] }).objs.size], _, _, H, rfl,
    I1.kept (t' := tk) fun b o e => Heap.get?_push_of_some _ e, turn_range _ lo (hi - lo).toNat, ?_, fun b hb => ?_, q⟩
  · have e1 : lo + ((0 : Nat) : Int) * 1 = lo := by simp
    have e2 : (((hi - lo).toNat : Nat) : Int) - ((0 : Nat) : Int) = Builtin.Range.rangeSize lo hi 1 := by rw [rangeSize_one]; split <;> omega
    show IsRangeIter _ _ (lo + ((0 : Nat) : Int) * 1) ((((hi - lo).toNat : Nat) : Int) - ((0 : Nat) : Int)) 1
    rw [e1, e2]
    exact Heap.get?_push_size _ rfl
  · have e : b = (s.heap.push { cls := .type "range", data := .fields #[.int lo t, .int hi u, .int 1 v] }).objs.size := by simpa using hb
    subst e
    exact I1.fpOk (Nat.le_refl _) (I1.hok.fresh (Nat.le_refl _))
def iRng1 (ta : TA) : TI := fun σ H R => ta σ H fun vs H1 => ∃ j : Int, vs = [.int j] ∧ -(2 ^ 62) ≤ j ∧ j < 2 ^ 62 ∧ R (Itr 0 j.toNat) H1
def iRng2 (ta : TA) : TI := fun σ H R => ta σ H fun vs H1 => ∃ i j : Int, vs = [.int i, .int j] ∧ (-(2 ^ 62) ≤ i ∧ i < 2 ^ 62 ∧ -(2 ^ 62) ≤ j ∧ j < 2 ^ 62) ∧ R (Itr i (j - i).toNat) H1
theorem pi_range1 {a : Expr} {ta : TA} {p pos : Pos} (hg : Gl X "range") (hm : X.mg "range" = none) (ha : PA X [a] ta) (hs : starEach [a] X.env = [(false, eval a X.env)] := by rfl) : PI X tg (.Call (.Name "range" p) [a] [] pos) (iRng1 ta) := by
  intro pins s σ H R I h
  refine Call_ (ld_blt I hg hm boot_range (PyProof.Rows.callWith_type1 (thn (ha pos pins s σ H _ I h) fun us s1 ⟨vs, H1, I1, r1, q1⟩ => ?_) hs rfl))
  obtain ⟨j, e, q1, q2, q⟩ := q1
  subst e
  cases r1 with
  | cons r rr =>
    cases rr
    obtain ⟨t, rfl⟩ := r
    exact call_range_1 (range_it I1 (by omega) (by omega) q1 q2 (by simpa using q))
theorem pi_range2 {a b : Expr} {ta : TA} {p pos : Pos} (hg : Gl X "range") (hm : X.mg "range" = none) (ha : PA X [a, b] ta) (hs : starEach [a, b] X.env = [(false, eval a X.env), (false, eval b X.env)] := by rfl) (hs2 : starEach [b] X.env = [(false, eval b X.env)] := by rfl) :
    PI X tg (.Call (.Name "range" p) [a, b] [] pos) (iRng2 ta) := by
  intro pins s σ H R I h
  refine Call_ (ld_blt I hg hm boot_range (PyProof.Rows.callWith_type1 (thn (ha pos pins s σ H _ I h) fun us s1 ⟨vs, H1, I1, r1, q1⟩ => ?_) (by rw [hs, hs2]) (by rw [hs2]; rfl)))
  obtain ⟨i, j, e, ⟨q1, q2, q3, q4⟩, q⟩ := q1
  subst e
  cases r1 with
  | cons r rr =>
    cases rr with
    | cons r' rr =>
      cases rr
      obtain ⟨t, rfl⟩ := r
      obtain ⟨t', rfl⟩ := r'
      exact call_range_2 (range_it I1 q1 q2 q3 q4 q)

/-! ### for -/
/-- W: the invariant by the turn and a measure; N: what the body is to reach -/
def tFor (wi : TI) (g : TG) (tb : TS) : TS := fun D σ H => wi σ H fun J H1 => ∃ W : Nat → Nat → St → Hp → Prop, (∃ m, W 0 m σ H1) ∧ ∀ i m σ H, W i m σ H →
  (J.stop i H ∧ D.nx σ H) ∨ (J.go i H ∧ ∃ N : St → Hp → Prop, (∀ σ' H', N σ' H' → ∃ m', m' < m ∧ W (i + 1) m' σ' H') ∧ ∀ x H', J.yld i H x H' → g x σ H' fun σ2 H2 => tb { D with nx := N, ct := N, bk := D.nx } σ2 H2)
/-- the records at fp as they stand -/
def pinsAt (fp : List Addr) (h : Heap) : List (Addr × Obj) := fp.filterMap fun b => (h.get? b).map fun o => (b, o)
theorem mem_pinsAt {fp : List Addr} {h : Heap} {b : Addr} {o : Obj} (hb : b ∈ fp) (e : h.get? b = some o) : (b, o) ∈ pinsAt fp h := List.mem_filterMap.mpr ⟨b, hb, by rw [e]; rfl⟩
theorem of_pinsAt {fp : List Addr} {h : Heap} {p : Addr × Obj} (hp : p ∈ pinsAt fp h) : p.1 ∈ fp ∧ h.get? p.1 = some p.2 := by
  obtain ⟨b, hb, e⟩ := List.mem_filterMap.mp hp
  cases q : h.get? b with
  | none => rw [q] at e; cases e
  | some o =>
    rw [q] at e
    have e' : (b, o) = p := Option.some.inj e
    subst e'
    exact ⟨hb, q⟩
theorem Inv.pinned {pins : List (Addr × Obj)} {σ : St} {H : Hp} {s : Shared} {fp : List Addr} (I : Inv X pins σ H s) (hf : ∀ b ∈ fp, FpOk X pins H b) (ho : ∀ b ∈ fp, ∃ o, s.heap.get? b = some o ∧ ∀ v, o.data ≠ .cell v) : Inv X (pins ++ pinsAt fp s.heap) σ H s :=
  I.pins_of fun p hp => (List.mem_append.mp hp).elim (fun z => I.pin p (List.mem_append_right _ z)) fun z => by
    obtain ⟨hb, e⟩ := of_pinsAt z
    obtain ⟨f0, f1, f2, _⟩ := hf p.1 hb
    obtain ⟨o, e', d⟩ := ho p.1 hb
    rw [e] at e'; cases e'
    exact ⟨e, f0, f1, f2, d⟩
theorem Inv.unpinned {pins pl : List (Addr × Obj)} {σ : St} {H : Hp} {s : Shared} (I : Inv X (pins ++ pl) σ H s) : Inv X pins σ H s := I.pins_of fun p hp => I.pin p (List.mem_append_right _ (List.mem_append_left _ hp))
theorem ps_for {iter : Expr} {body : List Stmt} {wi : TI} {g : TG} {tb : TS} {pos : Pos} (hp : PassesOwn (model X.prog X.w) X.A X.env X.xe) (hc : X.calm = true) (hi : PI X tg iter wi) (hg : PG X tg g) (hb : PSs X body tb)
    (hs : ∀ x, foldedSetIterable iter X.env x = pure x := by intro _; rfl) : PS X (.For tg iter body [] pos) (tFor wi g tb) := by
  intro pins s σ H D I h
  refine wpAny_For (thn (hi pins s σ H _ I h) fun v s1 h1 => thn h1 fun itv s2 h2 => ?_) hs
  obtain ⟨it, fp, tn, J, H2, e, I2, T, st2, f2, W, ⟨m0, w0⟩, turn⟩ := h2
  subst e
  -- what stays true of the iterator's objects through the loop
  have stat : ∀ {H' : Hp}, (∀ b ∈ fp, H' b = none) → ∀ b ∈ fp, FpOk X pins H' b := fun hn b hb => ⟨hn b hb, (f2 b hb).2⟩
  refine codeAny_forLoop_any (fun n s' => ∃ i σ' H', Inv X pins σ' H' s' ∧ tn i s'.heap ∧ (∀ b ∈ fp, H' b = none) ∧ W i n σ' H') ?_ m0 ⟨0, σ, H2, I2, st2, fun b hb => (f2 b hb).1, w0⟩
  rintro n s3 ⟨i, σ3, H3, I3, st3, fr3, w3⟩
  rcases turn i n σ3 H3 w3 with ⟨stop, qn⟩ | ⟨go, N, hN, step⟩
  · refine wpAny_passesOwn hp (thn (T.done X rfl rfl rfl hc i pins s3 σ3 H3 X.xe I3 (stat fr3) st3 stop) fun r s4 ⟨hr, I4⟩ => ?_)
    subst hr
    exact wpAny_execs_nil ⟨σ3, H3, I4, qn⟩
  · refine wpAny_passesOwn hp (thn (T.item X rfl rfl rfl hc i pins s3 σ3 H3 X.xe I3 (stat fr3) st3 go) fun r s4 ⟨u, hr, h4⟩ => ?_)
    subst hr
    refine wpAny_passesOwn hp (thn h4 fun _ s5 ⟨x, H5, I5, r5, y5, st5, fr5⟩ => ?_)
    have I5' := I5.pinned (stat fr5) (T.obj _ _ st5)
    refine wpAny_passesOwn hp (thn (hg _ s5 σ3 H5 x u _ I5' r5 (step x H5 y5)) fun _ s6 ⟨σ6, H6, I6, q6⟩ => ?_)
    refine wpAny_passesOwn hp (thn (hb _ s6 σ6 H6 _ I6 q6) fun f s7 q7 => ?_)
    have again : ∀ {σ7 : St} {H7 : Hp}, Inv X (pins ++ pinsAt fp s5.heap) σ7 H7 s7 → N σ7 H7 → ∃ m, m < n ∧ ∃ i σ' H', Inv X pins σ' H' s7 ∧ tn i s7.heap ∧ (∀ b ∈ fp, H' b = none) ∧ W i m σ' H' := fun {σ7 H7} I7 n7 => by
      obtain ⟨m', hm, w7⟩ := hN σ7 H7 n7
      refine ⟨m', hm, i + 1, σ7, H7, I7.unpinned, T.keep _ _ _ st5 fun b hb o e => (I7.pin (b, o) (List.mem_append_right _ (List.mem_append_right _ (mem_pinsAt hb e)))).1, fun b hb => ?_, w7⟩
      obtain ⟨o, e, d⟩ := T.obj _ _ st5 b hb
      exact (I7.pin (b, o) (List.mem_append_right _ (List.mem_append_right _ (mem_pinsAt hb e)))).2.1
    cases f with
    | next => obtain ⟨σ7, H7, I7, n7⟩ := q7; exact again I7 n7
    | cont => obtain ⟨σ7, H7, I7, n7⟩ := q7; exact again I7 n7
    | brk => obtain ⟨σ7, H7, I7, q7⟩ := q7; exact ⟨σ7, H7, I7.unpinned, q7⟩
    | ret v => obtain ⟨x7, σ7, H7, I7, r7, q7⟩ := q7; exact ⟨x7, σ7, H7, I7.unpinned, r7, q7⟩
end

/-! ### the forms one uses -/
/-- over a list that the body leaves as it is -/
theorem for_list {K : PySem.W.Frag} {a : Addr} {xs : List V} {g : TG} {tb : TS} {D : Ends} {σ : St} {H : Hp} (Pv : Nat → St → Hp → Prop) (h0 : Pv 0 σ H) (hl : ∀ i σ H, i ≤ xs.length → Pv i σ H → SqL K H a xs)
    (hs : ∀ i x σ H, xs[i]? = some x → Pv i σ H → g x σ H fun σ2 H2 => tb { D with nx := Pv (i + 1), ct := Pv (i + 1), bk := D.nx } σ2 H2) (hd : ∀ σ H, Pv xs.length σ H → D.nx σ H) :
    ∃ W : Nat → Nat → St → Hp → Prop, (∃ m, W 0 m σ H) ∧ ∀ i m σ H, W i m σ H →
      ((Itl K a).stop i H ∧ D.nx σ H) ∨ ((Itl K a).go i H ∧ ∃ N : St → Hp → Prop, (∀ σ' H', N σ' H' → ∃ m', m' < m ∧ W (i + 1) m' σ' H') ∧ ∀ x H', (Itl K a).yld i H x H' → g x σ H' fun σ2 H2 => tb { D with nx := N, ct := N, bk := D.nx } σ2 H2) := by
  refine ⟨fun i m σ H => m = xs.length - i ∧ i ≤ xs.length ∧ Pv i σ H, ⟨xs.length, by simp, Nat.zero_le _, h0⟩, ?_⟩
  rintro i m σ H ⟨rfl, hi, p⟩
  have q := hl i σ H hi p
  by_cases hlt : i < xs.length
  · refine .inr ⟨⟨xs, xs[i], q, by simp [hlt]⟩, Pv (i + 1), fun σ' H' p' => ⟨xs.length - (i + 1), by omega, rfl, hlt, p'⟩, fun x H' y => ?_⟩
    obtain ⟨e, y⟩ := y
    subst e
    exact hs i x σ _ (y xs q) p
  · have e : i = xs.length := by omega
    subst e
    exact .inl ⟨⟨xs, q, Nat.le_refl _⟩, hd σ H p⟩
theorem for_tup {K : PySem.W.Frag} {a : Addr} {xs : List V} {g : TG} {tb : TS} {D : Ends} {σ : St} {H : Hp} (Pv : Nat → St → Hp → Prop) (h0 : Pv 0 σ H) (hl : ∀ i σ H, i ≤ xs.length → Pv i σ H → SqT K H a xs)
    (hs : ∀ i x σ H, xs[i]? = some x → Pv i σ H → g x σ H fun σ2 H2 => tb { D with nx := Pv (i + 1), ct := Pv (i + 1), bk := D.nx } σ2 H2) (hd : ∀ σ H, Pv xs.length σ H → D.nx σ H) :
    ∃ W : Nat → Nat → St → Hp → Prop, (∃ m, W 0 m σ H) ∧ ∀ i m σ H, W i m σ H →
      ((Itt K a).stop i H ∧ D.nx σ H) ∨ ((Itt K a).go i H ∧ ∃ N : St → Hp → Prop, (∀ σ' H', N σ' H' → ∃ m', m' < m ∧ W (i + 1) m' σ' H') ∧ ∀ x H', (Itt K a).yld i H x H' → g x σ H' fun σ2 H2 => tb { D with nx := N, ct := N, bk := D.nx } σ2 H2) := by
  refine ⟨fun i m σ H => m = xs.length - i ∧ i ≤ xs.length ∧ Pv i σ H, ⟨xs.length, by simp, Nat.zero_le _, h0⟩, ?_⟩
  rintro i m σ H ⟨rfl, hi, p⟩
  have q := hl i σ H hi p
  by_cases hlt : i < xs.length
  · refine .inr ⟨⟨xs, xs[i], q, by simp [hlt]⟩, Pv (i + 1), fun σ' H' p' => ⟨xs.length - (i + 1), by omega, rfl, hlt, p'⟩, fun x H' y => ?_⟩
    obtain ⟨e, y⟩ := y
    subst e
    exact hs i x σ _ (y xs q) p
  · have e : i = xs.length := by omega
    subst e
    exact .inl ⟨⟨xs, q, Nat.le_refl _⟩, hd σ H p⟩
theorem for_range {lo : Int} {n : Nat} {g : TG} {tb : TS} {D : Ends} {σ : St} {H : Hp} (Pv : Nat → St → Hp → Prop) (h0 : Pv 0 σ H)
    (hs : ∀ i σ H, i < n → Pv i σ H → g (.int (lo + i)) σ H fun σ2 H2 => tb { D with nx := Pv (i + 1), ct := Pv (i + 1), bk := D.nx } σ2 H2) (hd : ∀ σ H, Pv n σ H → D.nx σ H) :
    ∃ W : Nat → Nat → St → Hp → Prop, (∃ m, W 0 m σ H) ∧ ∀ i m σ H, W i m σ H →
      ((Itr lo n).stop i H ∧ D.nx σ H) ∨ ((Itr lo n).go i H ∧ ∃ N : St → Hp → Prop, (∀ σ' H', N σ' H' → ∃ m', m' < m ∧ W (i + 1) m' σ' H') ∧ ∀ x H', (Itr lo n).yld i H x H' → g x σ H' fun σ2 H2 => tb { D with nx := N, ct := N, bk := D.nx } σ2 H2) := by
  refine ⟨fun i m σ H => m = n - i ∧ i ≤ n ∧ Pv i σ H, ⟨n, by simp, Nat.zero_le _, h0⟩, ?_⟩
  rintro i m σ H ⟨rfl, hi, p⟩
  by_cases hlt : i < n
  · refine .inr ⟨hlt, Pv (i + 1), fun σ' H' p' => ⟨n - (i + 1), by omega, rfl, hlt, p'⟩, fun x H' y => ?_⟩
    obtain ⟨e, y⟩ := y
    subst e y
    exact hs i σ _ hlt p
  · have e : i = n := by omega
    subst e
    exact .inl ⟨Nat.le_refl _, hd σ H p⟩
/-- while, by a word and a measure of the state -/
theorem while_by {c : TT} {tb : TS} {D : Ends} {σ : St} {H : Hp} (Pv : St → Hp → Prop) (μ : St → Hp → Nat) (h0 : Pv σ H)
    (hs : ∀ σ H, Pv σ H → c σ H fun b H1 => if b = true then tb { D with nx := fun σ' H' => Pv σ' H' ∧ μ σ' H' < μ σ H, ct := fun σ' H' => Pv σ' H' ∧ μ σ' H' < μ σ H, bk := D.nx } σ H1 else D.nx σ H1)
    (mono : ∀ σ H Q Q', (∀ b H1, Q b H1 → Q' b H1) → c σ H Q → c σ H Q') : tWhile c tb D σ H := by
  refine ⟨fun m σ H => m = μ σ H ∧ Pv σ H, ⟨_, rfl, h0⟩, ?_⟩
  rintro m σ H ⟨rfl, p⟩
  refine mono σ H _ _ (fun b H1 q => ?_) (hs σ H p)
  cases b with
  | true => exact ⟨_, fun σ' H' ⟨p', l⟩ => ⟨_, l, rfl, p'⟩, q⟩
  | false => exact q
end L2

namespace L2
open PySem PySem.Spec PyProof.Rows

abbrev R2 := V → V → Hp → VK → Prop
/-- a two-place operation on values: f is binaryOp op, inplaceOp op or compareOp op -/
def OpR (X : Cx) (f : Value → Value → Sem Value) (r : R2) : Prop :=
  ∀ (pins : List (Addr × Obj)) (s : Shared) (σ : St) (H : Hp) (x y : V) (v u : Value) (Q : VK), Inv X pins σ H s → RelV x v → RelV y u → r x y H Q →
    wpAny (model X.prog X.w) X.A (f v u) (EP X pins σ Q) X.xe s
/-- a one-place operation -/
def UnR (X : Cx) (f : Value → Sem Value) (r : V → Hp → VK → Prop) : Prop :=
  ∀ (pins : List (Addr × Obj)) (s : Shared) (σ : St) (H : Hp) (x : V) (v : Value) (Q : VK), Inv X pins σ H s → RelV x v → r x H Q →
    wpAny (model X.prog X.w) X.A (f v) (EP X pins σ Q) X.xe s
/-- a call of a value that is known (a builtin, a type) with values -/
def CallR (X : Cx) (f : Value) (r : List V → Hp → VK → Prop) : Prop :=
  ∀ (pins : List (Addr × Obj)) (s : Shared) (σ : St) (H : Hp) (xs : List V) (us : List Value) (Q : VK), Inv X pins σ H s → Vals xs us → r xs H Q →
    wpAny (model X.prog X.w) X.A (call f us) (EP X pins σ Q) X.xe s
/-- a value's truth -/
def TruR (X : Cx) (r : V → Hp → (Bool → Hp → Prop) → Prop) : Prop :=
  ∀ (pins : List (Addr × Obj)) (s : Shared) (σ : St) (H : Hp) (x : V) (v : Value) (Q : Bool → Hp → Prop), Inv X pins σ H s → RelV x v → r x H Q →
    wpAny (model X.prog X.w) X.A (truthy v) (TP X pins σ Q) X.xe s

def tOp (r : R2) (ta tb : TE) : TE := fun σ H Q => ta σ H fun x H1 => tb σ H1 fun y H2 => r x y H2 Q
def tUn (r : V → Hp → VK → Prop) (ta : TE) : TE := fun σ H Q => ta σ H fun x H1 => r x H1 Q
/-- ints in, under C, and a value out -/
def rI (C : Int → Int → Prop) (g : Int → Int → V) : R2 := fun x y H Q => ∃ i j, x = .int i ∧ y = .int j ∧ C i j ∧ Q (g i j) H
def rI0 (g : Int → Int → V) : R2 := fun x y H Q => ∃ i j, x = .int i ∧ y = .int j ∧ Q (g i j) H
def rU (g : Int → V) : V → Hp → VK → Prop := fun x H Q => ∃ i, x = .int i ∧ Q (g i) H

section
variable {X : Cx} {a b c : Expr} {ta tb tc : TE} {pos : Pos}

theorem binT (ha : PE X a ta) (hb : PE X b tb) {pins : List (Addr × Obj)} {s : Shared} {σ : St} {H : Hp} {R : V → V → Hp → Prop} (I : Inv X pins σ H s)
    (h : ta σ H fun x H1 => tb σ H1 fun y H2 => R x y H2) {Q : Value → Shared → Prop} {f : Value → Value → Sem Value}
    (hf : ∀ v u s2 x y H2, Inv X pins σ H2 s2 → RelV x v → RelV y u → R x y H2 → wpAny (model X.prog X.w) X.A (f v u) Q X.xe s2) :
    wpAny (model X.prog X.w) X.A (eval a X.env) (fun v s₁ => wpAny (model X.prog X.w) X.A (eval b X.env) (fun u s₂ => wpAny (model X.prog X.w) X.A (f v u) Q X.xe s₂) X.xe s₁) X.xe s := by
  refine thn (ha pins s σ H _ I h) fun v s1 ⟨x, H1, I1, r1, q1⟩ => ?_
  refine thn (hb pins s1 σ H1 _ I1 q1) fun u s2 ⟨y, H2, I2, r2, q2⟩ => ?_
  exact hf v u s2 x y H2 I2 r1 r2 q2

theorem pe_op {op : Operator} {r : R2} (ho : OpR X (binaryOp op) r) (ha : PE X a ta) (hb : PE X b tb) : PE X (.BinOp a op b pos) (tOp r ta tb) := by
  intro pins s σ H Q I h
  exact wpAny_BinOp (binT ha hb I h fun v u s2 x y H2 I2 rx ry q => ho pins s2 σ H2 x y v u Q I2 rx ry q)
theorem pe_un {op : UnaryOp} {r : V → Hp → VK → Prop} (ho : UnR X (unaryOp op) r) (ha : PE X a ta) : PE X (.UnaryOp op a pos) (tUn r ta) := by
  intro pins s σ H Q I h
  exact UnaryOp_ (thn (ha pins s σ H _ I h) fun v s1 ⟨x, H1, I1, r1, q1⟩ => ho pins s1 σ H1 x v Q I1 r1 q1)
/-- a op= e at a name: the name's slot i -/
theorem augR {op : Operator} {r : R2} (ho : OpR X (inplaceOp op) r) {pins : List (Addr × Obj)} {s : Shared} {σ : St} {H : Hp} {x y : V} {v u : Value} {Q : VK} (I : Inv X pins σ H s)
    (rx : RelV x v) (ry : RelV y u) (q : r x y H Q) : wpAny (model X.prog X.w) X.A (inplaceOp op v u) (EP X pins σ Q) X.xe s := ho pins s σ H x y v u Q I rx ry q

/-! ### ints -/
theorem opI {f : Value → Value → Sem Value} {C : Int → Int → Prop} {g : Int → Int → Int}
    (rule : ∀ (i j : Int) (t u : Tok) (s : Shared) (Q : Value → Shared → Prop) (E : Value → Shared → Prop), C i j → Q (.int (g i j) s.toks) { s with toks := s.toks + 1 } → wpAny (model X.prog X.w) X.A (f (.int i t) (.int j u)) Q E s) :
    OpR X f (rI C fun i j => .int (g i j)) := by
  intro pins s σ H x y v u Q I rx ry h
  obtain ⟨i, j, rfl, rfl, hc, q⟩ := h
  obtain ⟨t, rfl⟩ := rx
  obtain ⟨t', rfl⟩ := ry
  exact rule i j t t' s _ _ hc ⟨.int (g i j), H, I.tok _, ⟨_, rfl⟩, q⟩
theorem opI0 {f : Value → Value → Sem Value} {g : Int → Int → Int}
    (rule : ∀ (i j : Int) (t u : Tok) (s : Shared) (Q : Value → Shared → Prop) (E : Value → Shared → Prop), Q (.int (g i j) s.toks) { s with toks := s.toks + 1 } → wpAny (model X.prog X.w) X.A (f (.int i t) (.int j u)) Q E s) :
    OpR X f (rI0 fun i j => .int (g i j)) := by
  intro pins s σ H x y v u Q I rx ry h
  obtain ⟨i, j, rfl, rfl, q⟩ := h
  obtain ⟨t, rfl⟩ := rx
  obtain ⟨t', rfl⟩ := ry
  exact rule i j t t' s _ _ ⟨.int (g i j), H, I.tok _, ⟨_, rfl⟩, q⟩
theorem opB0 {f : Value → Value → Sem Value} {g : Int → Int → Bool}
    (rule : ∀ (i j : Int) (t u : Tok) (s : Shared) (Q : Value → Shared → Prop) (E : Value → Shared → Prop), Q (.bool (g i j)) s → wpAny (model X.prog X.w) X.A (f (.int i t) (.int j u)) Q E s) :
    OpR X f (rI0 fun i j => .bl (g i j)) := by
  intro pins s σ H x y v u Q I rx ry h
  obtain ⟨i, j, rfl, rfl, q⟩ := h
  obtain ⟨t, rfl⟩ := rx
  obtain ⟨t', rfl⟩ := ry
  exact rule i j t t' s _ _ ⟨.bl (g i j), H, I, rfl, q⟩

def CDiv (i j : Int) : Prop := 0 < j ∧ j < 1073741824
def CDivN (i j : Int) : Prop := j ≠ 0 ∧ j.natAbs < 1073741824
def CPow (i j : Int) : Prop := 0 ≤ j ∧ j ≤ 1000000 ∧ i.natAbs < 2 ^ 64
def CMul (i j : Int) : Prop := (-(2 ^ 64) < i ∧ i < 2 ^ 64) ∨ (-(2 ^ 64) < j ∧ j < 2 ^ 64)
theorem CMul.ok {i j : Int} (h : CMul i j) : IntMulOk i j := by
  rcases h with ⟨h1, h2⟩ | ⟨h1, h2⟩
  · exact .of_left (intBits_le_64 h1 h2)
  · exact .of_right (intBits_le_64 h1 h2)
theorem two_pow_nn (k : Nat) : (0 : Int) ≤ 2 ^ k := by
  rw [two_pow_cast]
  exact Int.natCast_nonneg _

theorem op_add : OpR X (binaryOp .Add) (rI0 fun i j => .int (i + j)) := opI0 fun _ _ _ _ _ _ _ q => add_int q
theorem op_sub : OpR X (binaryOp .Sub) (rI0 fun i j => .int (i - j)) := opI0 fun _ _ _ _ _ _ _ q => sub_int q
theorem op_mul : OpR X (binaryOp .Mult) (rI CMul fun i j => .int (i * j)) := opI fun _ _ _ _ _ _ _ hc q => mul_int q hc.ok
/-- // by a positive divisor -/
theorem op_fdiv : OpR X (binaryOp .FloorDiv) (rI CDiv fun i j => .int (i / j)) := opI fun i j _ _ _ _ _ hc q => by
  have h1 : (0 : Int) < j := hc.1
  have h2 : j < 1073741824 := hc.2
  exact floordiv_int (by omega) (by rw [Int.fdiv_eq_ediv_of_nonneg i (by omega)]; exact q) (.inl (PyProof.noPylong_small (by omega)))
theorem op_fdivN : OpR X (binaryOp .FloorDiv) (rI CDivN fun i j => .int (i.fdiv j)) := opI fun _ _ _ _ _ _ _ hc q => floordiv_int hc.1 q (.inl (PyProof.noPylong_small hc.2))
/-- % by a positive divisor of any size -/
theorem op_mod : OpR X (binaryOp .Mod) (rI (fun _ j => 0 < j) fun i j => .int (i % j)) := opI fun i j _ _ _ _ _ hc q => by
  have h1 : (0 : Int) < j := hc
  exact mod_int' (by omega) (by rw [Int.fmod_eq_emod_of_nonneg i (by omega)]; exact q)
theorem op_modN : OpR X (binaryOp .Mod) (rI (fun _ j => j ≠ 0) fun i j => .int (i.fmod j)) := opI fun _ _ _ _ _ _ _ hc q => mod_int' hc q
theorem op_pow : OpR X (binaryOp .Pow) (rI CPow fun i j => .int (i ^ j.toNat)) := opI fun _ _ _ _ _ _ _ hc q => pow_int_small hc.1 hc.2.1 hc.2.2 q
theorem op_shl : OpR X (binaryOp .LShift) (rI CPow fun i j => .int (i * 2 ^ j.toNat)) := opI fun _ _ _ _ _ _ _ hc q => lshift_int_small hc.1 hc.2.1 hc.2.2 q
theorem op_shr : OpR X (binaryOp .RShift) (rI (fun _ j => 0 ≤ j) fun i j => .int (i / 2 ^ j.toNat)) := opI fun i j _ _ _ _ _ hc q =>
  rshift_int hc (by rw [Int.fdiv_eq_ediv_of_nonneg i (two_pow_nn _)]; exact q)
theorem op_and : OpR X (binaryOp .BitAnd) (rI0 fun i j => .int (Builtin.bitAnd i j)) := opI0 fun _ _ _ _ _ _ _ q => and_int q
theorem op_or : OpR X (binaryOp .BitOr) (rI0 fun i j => .int (Builtin.bitOr i j)) := opI0 fun _ _ _ _ _ _ _ q => or_int q
theorem op_xor : OpR X (binaryOp .BitXor) (rI0 fun i j => .int (Builtin.bitXor i j)) := opI0 fun _ _ _ _ _ _ _ q => xor_int q

theorem iop_add : OpR X (inplaceOp .Add) (rI0 fun i j => .int (i + j)) := opI0 fun _ _ _ _ _ _ _ q => iadd_int q
theorem iop_sub : OpR X (inplaceOp .Sub) (rI0 fun i j => .int (i - j)) := opI0 fun _ _ _ _ _ _ _ q => isub_int q
theorem iop_mul : OpR X (inplaceOp .Mult) (rI CMul fun i j => .int (i * j)) := opI fun _ _ _ _ _ _ _ hc q => imul_int q hc.ok
theorem iop_fdiv : OpR X (inplaceOp .FloorDiv) (rI CDiv fun i j => .int (i / j)) := opI fun i j _ _ _ _ _ hc q => by
  have h1 : (0 : Int) < j := hc.1
  have h2 : j < 1073741824 := hc.2
  exact ifloordiv_int (by omega) (by rw [Int.fdiv_eq_ediv_of_nonneg i (by omega)]; exact q) (.inl (PyProof.noPylong_small (by omega)))
theorem iop_mod : OpR X (inplaceOp .Mod) (rI (fun _ j => 0 < j) fun i j => .int (i % j)) := opI fun i j _ _ _ _ _ hc q => by
  have h1 : (0 : Int) < j := hc
  exact imod_int (by omega) (by rw [Int.fmod_eq_emod_of_nonneg i (by omega)]; exact q)
theorem iop_shl : OpR X (inplaceOp .LShift) (rI CPow fun i j => .int (i * 2 ^ j.toNat)) := opI fun _ _ _ _ _ _ _ hc q => ilshift_int_small hc.1 hc.2.1 hc.2.2 q
theorem iop_shr : OpR X (inplaceOp .RShift) (rI (fun _ j => 0 ≤ j) fun i j => .int (i / 2 ^ j.toNat)) := opI fun i j _ _ _ _ _ hc q =>
  irshift_int hc (by rw [Int.fdiv_eq_ediv_of_nonneg i (two_pow_nn _)]; exact q)
theorem iop_and : OpR X (inplaceOp .BitAnd) (rI0 fun i j => .int (Builtin.bitAnd i j)) := opI0 fun _ _ _ _ _ _ _ q => iand_int q
theorem iop_or : OpR X (inplaceOp .BitOr) (rI0 fun i j => .int (Builtin.bitOr i j)) := opI0 fun _ _ _ _ _ _ _ q => ior_int q
theorem iop_xor : OpR X (inplaceOp .BitXor) (rI0 fun i j => .int (Builtin.bitXor i j)) := opI0 fun _ _ _ _ _ _ _ q => ixor_int q

theorem unI {f : Value → Sem Value} {g : Int → Int}
    (rule : ∀ (i : Int) (t : Tok) (s : Shared) (Q : Value → Shared → Prop) (E : Value → Shared → Prop), Q (.int (g i) s.toks) { s with toks := s.toks + 1 } → wpAny (model X.prog X.w) X.A (f (.int i t)) Q E s) :
    UnR X f (rU fun i => .int (g i)) := by
  intro pins s σ H x v Q I rx h
  obtain ⟨i, rfl, q⟩ := h
  obtain ⟨t, rfl⟩ := rx
  exact rule i t s _ _ ⟨.int (g i), H, I.tok _, ⟨_, rfl⟩, q⟩
theorem un_neg : UnR X (unaryOp .USub) (rU fun i => .int (-i)) := unI fun _ _ _ _ _ q => neg_int q
theorem un_inv : UnR X (unaryOp .Invert) (rU fun i => .int (Builtin.bitNot i)) := unI fun _ _ _ _ _ q => invert_int q

/-! ### bools among ints: n += (a < b) -/
theorem op_add_ib : OpR X (binaryOp .Add) (fun x y H Q => ∃ i k, x = .int i ∧ y = .bl k ∧ Q (.int (i + b2i k)) H) := by
  intro pins s σ H x y v u Q I rx ry h
  obtain ⟨i, k, rfl, rfl, q⟩ := h
  obtain ⟨t, rfl⟩ := rx
  cases ry
  exact add_int_bool ⟨.int (i + b2i k), H, I.tok _, ⟨_, rfl⟩, q⟩
end

/-! ### comparisons -/
/-- the scalars that == tells apart as data does -/
def scal : V → V → Bool
  | .non, .non => true | .non, .int _ => true | .int _, .non => true | .non, .bl _ => true | .bl _, .non => true | .non, .str _ => true | .str _, .non => true
  | .int _, .int _ => true | .bl _, .bl _ => true | .str _, .str _ => true | .byt _, .byt _ => true
  | .int _, .str _ => true | .str _, .int _ => true | .bl _, .str _ => true | .str _, .bl _ => true
  | _, _ => false
def rEq : R2 := fun x y H Q => scal x y = true ∧ Q (.bl (decide (x = y))) H
def rNe : R2 := fun x y H Q => scal x y = true ∧ Q (.bl (!decide (x = y))) H

theorem dec_int {i j : Int} : decide (V.int i = V.int j) = (i == j) := by
  rw [Bool.eq_iff_iff]
  simp
theorem dec_bl {i j : Bool} : decide (V.bl i = V.bl j) = (i == j) := by
  rw [Bool.eq_iff_iff]
  simp
theorem dec_str {i j : Str} : decide (V.str i = V.str j) = (i == j) := by
  rw [Bool.eq_iff_iff]
  simp
theorem dec_byt {i j : Array UInt8} : decide (V.byt i = V.byt j) = (i.toList == j.toList) := by
  rw [Bool.eq_iff_iff]
  cases i
  cases j
  simp

section
variable {X : Cx} {a b c : Expr} {ta tb tc : TE} {pos : Pos}
theorem fin_bl {pins : List (Addr × Obj)} {σ : St} {H : Hp} {s : Shared} {Q : VK} {k k' : Bool} (I : Inv X pins σ H s) (q : Q (.bl k) H) (e : k = k') : EP X pins σ Q (.bool k') s := by
  subst e
  exact ⟨.bl k, H, I, rfl, q⟩
theorem op_eq : OpR X (compareOp .Eq) rEq := by
  intro pins s σ H x y v u Q I rx ry h
  obtain ⟨hs, q⟩ := h
  cases x with
  | non =>
    cases rx
    cases y with
    | non => cases ry; exact PySem.EqNone.eq_none_none (fin_bl I q (by simp))
    | bl j => cases ry; exact PySem.EqNone.eq_none_bool (fin_bl I q (by simp))
    | int j => obtain ⟨t', rfl⟩ := ry; exact PySem.EqNone.eq_none_int (fin_bl I q (by simp))
    | str j => obtain ⟨t', rfl⟩ := ry; exact PySem.EqNone.eq_none_str (fin_bl I q (by simp))
    | _ => exact absurd (show false = true from hs) Bool.false_ne_true
  | bl i =>
    cases rx
    cases y with
    | non => cases ry; exact PySem.EqNone.eq_bool_none (fin_bl I q (by simp))
    | bl j => cases ry; exact eq_bool (fin_bl I q dec_bl)
    | str j => obtain ⟨t', rfl⟩ := ry; exact PySem.EqMixed.eq_bool_str (fin_bl I q (by simp))
    | _ => exact absurd (show false = true from hs) Bool.false_ne_true
  | int i =>
    obtain ⟨t, rfl⟩ := rx
    cases y with
    | non => cases ry; exact PySem.EqNone.eq_int_none (fin_bl I q (by simp))
    | int j => obtain ⟨t', rfl⟩ := ry; exact eq_int (fin_bl I q dec_int)
    | str j => obtain ⟨t', rfl⟩ := ry; exact PySem.EqMixed.eq_int_str (fin_bl I q (by simp))
    | _ => exact absurd (show false = true from hs) Bool.false_ne_true
  | str i =>
    obtain ⟨t, rfl⟩ := rx
    cases y with
    | non => cases ry; exact PySem.EqNone.eq_str_none (fin_bl I q (by simp))
    | bl j => cases ry; exact PySem.EqMixed.eq_str_bool (fin_bl I q (by simp))
    | int j => obtain ⟨t', rfl⟩ := ry; exact PySem.EqMixed.eq_str_int (fin_bl I q (by simp))
    | str j => obtain ⟨t', rfl⟩ := ry; exact eq_str (fin_bl I q dec_str)
    | _ => exact absurd (show false = true from hs) Bool.false_ne_true
  | byt i =>
    obtain ⟨t, rfl⟩ := rx
    cases y with
    | byt j => obtain ⟨t', rfl⟩ := ry; exact PySem.W.eq_bytes (fin_bl I q dec_byt)
    | _ => exact absurd (show false = true from hs) Bool.false_ne_true
  | _ => cases y <;> exact absurd (show false = true from hs) Bool.false_ne_true
theorem op_ne : OpR X (compareOp .NotEq) rNe := by
  intro pins s σ H x y v u Q I rx ry h
  obtain ⟨hs, q⟩ := h
  cases x with
  | non =>
    cases rx
    cases y with
    | non => cases ry; exact PySem.EqNone.ne_none_none (fin_bl I q (by simp))
    | bl j => cases ry; exact PySem.EqNone.ne_none_bool (fin_bl I q (by simp))
    | int j => obtain ⟨t', rfl⟩ := ry; exact PySem.EqNone.ne_none_int (fin_bl I q (by simp))
    | str j => obtain ⟨t', rfl⟩ := ry; exact PySem.EqNone.ne_none_str (fin_bl I q (by simp))
    | _ => exact absurd (show false = true from hs) Bool.false_ne_true
  | bl i =>
    cases rx
    cases y with
    | non => cases ry; exact PySem.EqNone.ne_bool_none (fin_bl I q (by simp))
    | bl j => cases ry; exact ne_bool (fin_bl I q (congrArg not dec_bl))
    | str j => obtain ⟨t', rfl⟩ := ry; exact PySem.EqMixed.ne_bool_str (fin_bl I q (by simp))
    | _ => exact absurd (show false = true from hs) Bool.false_ne_true
  | int i =>
    obtain ⟨t, rfl⟩ := rx
    cases y with
    | non => cases ry; exact PySem.EqNone.ne_int_none (fin_bl I q (by simp))
    | int j => obtain ⟨t', rfl⟩ := ry; exact ne_int (fin_bl I q (congrArg not dec_int))
    | str j => obtain ⟨t', rfl⟩ := ry; exact PySem.EqMixed.ne_int_str (fin_bl I q (by simp))
    | _ => exact absurd (show false = true from hs) Bool.false_ne_true
  | str i =>
    obtain ⟨t, rfl⟩ := rx
    cases y with
    | non => cases ry; exact PySem.EqNone.ne_str_none (fin_bl I q (by simp))
    | bl j => cases ry; exact PySem.EqMixed.ne_str_bool (fin_bl I q (by simp))
    | int j => obtain ⟨t', rfl⟩ := ry; exact PySem.EqMixed.ne_str_int (fin_bl I q (by simp))
    | str j => obtain ⟨t', rfl⟩ := ry; exact ne_str (fin_bl I q (congrArg not dec_str))
    | _ => exact absurd (show false = true from hs) Bool.false_ne_true
  | byt i =>
    obtain ⟨t, rfl⟩ := rx
    cases y with
    | byt j => obtain ⟨t', rfl⟩ := ry; exact PySem.W.ne_bytes (fin_bl I q (congrArg not dec_byt))
    | _ => exact absurd (show false = true from hs) Bool.false_ne_true
  | _ => cases y <;> exact absurd (show false = true from hs) Bool.false_ne_true

theorem op_lt : OpR X (compareOp .Lt) (rI0 fun i j => .bl (decide (i < j))) := opB0 fun _ _ _ _ _ _ _ q => lt_int q
theorem op_le : OpR X (compareOp .LtE) (rI0 fun i j => .bl (decide (i ≤ j))) := opB0 fun _ _ _ _ _ _ _ q => le_int q
theorem op_gt : OpR X (compareOp .Gt) (rI0 fun i j => .bl (decide (j < i))) := opB0 fun _ _ _ _ _ _ _ q => gt_int q
theorem op_ge : OpR X (compareOp .GtE) (rI0 fun i j => .bl (decide (j ≤ i))) := opB0 fun _ _ _ _ _ _ _ q => ge_int q
theorem op_lt_str : OpR X (compareOp .Lt) (fun x y H Q => ∃ i j, x = .str i ∧ y = .str j ∧ Q (.bl (decide (i.cps.toList < j.cps.toList))) H) := by
  intro pins s σ H x y v u Q I rx ry h
  obtain ⟨i, j, rfl, rfl, q⟩ := h
  obtain ⟨t, rfl⟩ := rx
  obtain ⟨t', rfl⟩ := ry
  exact lt_str (fin_bl I q rfl)
/-- the one string within the other -/
theorem op_in_str : OpR X (compareOp .In) (fun x y H Q => ∃ i j, x = .str i ∧ y = .str j ∧ Q (.bl (!(Builtin.Str.occurrences j i 0 j.length 1).isEmpty)) H) := by
  intro pins s σ H x y v u Q I rx ry h
  obtain ⟨i, j, rfl, rfl, q⟩ := h
  obtain ⟨t, rfl⟩ := rx
  obtain ⟨t', rfl⟩ := ry
  exact in_str (fin_bl I q rfl)

/-- is None, is not None: the right side a value none -/
theorem op_isN : OpR X (compareOp .Is) (fun x y H Q => y = .non ∧ Q (.bl (decide (x = .non))) H) := by
  intro pins s σ H x y v u Q I rx ry h
  obtain ⟨rfl, q⟩ := h
  cases ry
  refine is_none_gen (fin_bl I q ?_)
  cases x <;> first
    | (cases rx; rfl)
    | (obtain ⟨t, rfl⟩ := rx; rfl)
theorem op_notN : OpR X (compareOp .IsNot) (fun x y H Q => y = .non ∧ Q (.bl (!decide (x = .non))) H) := by
  intro pins s σ H x y v u Q I rx ry h
  obtain ⟨rfl, q⟩ := h
  cases ry
  refine isnot_none_gen (fin_bl I q ?_)
  cases x <;> first
    | (cases rx; rfl)
    | (obtain ⟨t, rfl⟩ := rx; rfl)

theorem op_notin_str : OpR X (compareOp .NotIn) (fun x y H Q => ∃ i j, x = .str i ∧ y = .str j ∧ Q (.bl (!(!(Builtin.Str.occurrences j i 0 j.length 1).isEmpty))) H) := by
  intro pins s σ H x y v u Q I rx ry h
  obtain ⟨i, j, rfl, rfl, q⟩ := h
  obtain ⟨t, rfl⟩ := rx
  obtain ⟨t', rfl⟩ := ry
  exact notIn_str (fin_bl I q rfl)
/-- is, is not of two objects that are tracked lists or instances -/
def isObj : HO → Bool
  | .lst _ => true
  | .ins _ _ _ => true
  | _ => false
theorem obj_there {pins : List (Addr × Obj)} {s : Shared} {σ : St} {H : Hp} {a : Addr} {o : HO} (I : Inv X pins σ H s) (h : H a = some o) (p : isObj o = true) : ∃ ob, s.heap.get? a = some ob ∧ ob.cls ≠ .type "tuple" := by
  cases o with
  | lst xs =>
    obtain ⟨_, its, n, _, e⟩ : xs.length ≤ sizeLine ∧ ∃ (its : List Value) (n : Nat), Vals xs its ∧ s.heap.get? a = some { cls := .type "list", data := .seq its.toArray n } := I.hok a _ h
    exact ⟨_, e, (by show Value.type "list" ≠ .type "tuple"; decide +kernel)⟩
  | ins C dx fs =>
    have x := I.hok a _ h
    obtain ⟨_, _, _, e, _⟩ := x
    exact ⟨_, e, (by show Value.ref C ≠ .type "tuple"; exact fun z => by cases z)⟩
  | _ => exact absurd (show false = true from p) Bool.false_ne_true
theorem op_is_ref : OpR X (compareOp .Is) (fun x y H Q => ∃ a b oa ob, x = .ref a ∧ y = .ref b ∧ H a = some oa ∧ isObj oa = true ∧ H b = some ob ∧ isObj ob = true ∧ Q (.bl (decide (a = b))) H) := by
  intro pins s σ H x y v u Q I rx ry h
  obtain ⟨a, b, oa, ob, rfl, rfl, ha, pa, hb, pb, q⟩ := h
  cases rx
  cases ry
  obtain ⟨o1, e1, n1⟩ := obj_there I ha pa
  obtain ⟨o2, e2, _⟩ := obj_there I hb pb
  by_cases z : a = b
  · subst z
    exact wpAny_is_ref_self (fin_bl I q (by simp))
  · exact wpAny_is_ref_other z e1 e2 n1 (fin_bl I q (by simp [z]))
theorem op_isnot_ref : OpR X (compareOp .IsNot) (fun x y H Q => ∃ a b oa ob, x = .ref a ∧ y = .ref b ∧ H a = some oa ∧ isObj oa = true ∧ H b = some ob ∧ isObj ob = true ∧ Q (.bl (!decide (a = b))) H) := by
  intro pins s σ H x y v u Q I rx ry h
  obtain ⟨a, b, oa, ob, rfl, rfl, ha, pa, hb, pb, q⟩ := h
  cases rx
  cases ry
  obtain ⟨o1, e1, n1⟩ := obj_there I ha pa
  obtain ⟨o2, e2, _⟩ := obj_there I hb pb
  by_cases z : a = b
  · subst z
    exact wpAny_isNot_ref_self (fin_bl I q (by simp))
  · exact wpAny_isNot_ref_other z e1 e2 n1 (fin_bl I q (by simp [z]))

/-- two rules for one operation: by cases -/
theorem OpR.or {f : Value → Value → Sem Value} {r r' : R2} (h : OpR X f r) (h' : OpR X f r') : OpR X f (fun x y H Q => r x y H Q ∨ r' x y H Q) := by
  intro pins s σ H x y v u Q I rx ry q
  rcases q with q | q
  · exact h pins s σ H x y v u Q I rx ry q
  · exact h' pins s σ H x y v u Q I rx ry q

theorem nomark (b : Expr) {op : CmpOp} (h : op ≠ .In := by decide) (h2 : op ≠ .NotIn := by decide) : behindInMarks op b = false := by
  have e1 : (op == CmpOp.In) = false := by cases op <;> first | rfl | exact absurd rfl h
  have e2 : (op == CmpOp.NotIn) = false := by cases op <;> first | rfl | exact absurd rfl h2
  cases b <;> simp [behindInMarks, e1, e2]
/-- a comparison as a value; hm: nomark b, or (for in, not in) by with_unfolding_all rfl -/
theorem pe_cmpR {op : CmpOp} {r : R2} (ho : OpR X (compareOp op) r) (ha : PE X a ta) (hb : PE X b tb) (hm : behindInMarks op b = false) : PE X (.Compare a [op] [b] pos) (tOp r ta tb) := by
  intro pins s σ H Q I h
  exact wpAny_Compare1 (binT ha hb I h fun v u s2 x y H2 I2 rx ry q => ho pins s2 σ H2 x y v u Q I2 rx ry q) hm
/-- a reading of a value as a test -/
def tTest (t : TE) : TT := fun σ H Q => t σ H fun x H' => ∃ k, x = .bl k ∧ Q k H'
theorem pt_cmpR {op : CmpOp} {r : R2} (ho : OpR X (compareOp op) r) (ha : PE X a ta) (hb : PE X b tb) (hm : behindInMarks op b = false) : PT X (.Compare a [op] [b] pos) (tTest (tOp r ta tb)) := by
  intro pins s σ H Q I h
  refine wpAny_isTrue_Compare1 (thn (ha pins s σ H _ I h) fun v s1 ⟨x, H1, I1, r1, q1⟩ => thn (hb pins s1 σ H1 _ I1 q1) fun u s2 ⟨y, H2, I2, r2, q2⟩ =>
    thn (ho pins s2 σ H2 x y v u _ I2 r1 r2 q2) fun c s3 ⟨z, H3, I3, r3, k, e, q3⟩ => ?_) hm
  subst e
  cases r3
  exact wpAny_truthy_bool ⟨H3, I3, q3⟩
/-- a op1 b op2 c -/
def tChain (r r' : R2) (ta tb tc : TE) : TE := fun σ H Q => ta σ H fun x H1 => tb σ H1 fun y H2 => r x y H2 fun z H3 => ∃ k, z = .bl k ∧
  (if k = true then tc σ H3 fun w' H4 => r' y w' H4 Q else Q (.bl false) H3)
theorem pe_chain {op op' : CmpOp} {r r' : R2} (ho : OpR X (compareOp op) r) (ho' : OpR X (compareOp op') r') (ha : PE X a ta) (hb : PE X b tb) (hc : PE X c tc)
    (hm : lastMarks [op, op'] [b, c] = false := by with_unfolding_all rfl) : PE X (.Compare a [op, op'] [b, c] pos) (tChain r r' ta tb tc) := by
  intro pins s σ H Q I h
  refine Compare_chain (thn (ha pins s σ H _ I h) fun v s1 ⟨x, H1, I1, r1, q1⟩ => chain_link (thn (hb pins s1 σ H1 _ I1 q1) fun u s2 ⟨y, H2, I2, r2, q2⟩ =>
    thn (ho pins s2 σ H2 x y v u _ I2 r1 r2 q2) fun d s3 ⟨z, H3, I3, r3, k, e, q3⟩ => ?_)) hm
  subst e
  cases r3
  refine wpAny_truthy_bool ?_
  cases k with
  | false => exact ite_ff ⟨.bl false, H3, I3, rfl, q3⟩
  | true => exact ite_tt (chain_last (thn (hc pins s3 σ H3 _ I3 q3) fun w' s4 ⟨z', H4, I4, r4, q4⟩ => ho' pins s4 σ H4 y z' u w' Q I4 r2 r4 q4))
theorem pt_chain {op op' : CmpOp} {r r' : R2} (ho : OpR X (compareOp op) r) (ho' : OpR X (compareOp op') r') (ha : PE X a ta) (hb : PE X b tb) (hc : PE X c tc)
    (hm : lastMarks [op, op'] [b, c] = false := by with_unfolding_all rfl) : PT X (.Compare a [op, op'] [b, c] pos) (tTest (tChain r r' ta tb tc)) := by
  intro pins s σ H Q I h
  refine isTrue_chain (thn (ha pins s σ H _ I h) fun v s1 ⟨x, H1, I1, r1, q1⟩ => test_link (thn (hb pins s1 σ H1 _ I1 q1) fun u s2 ⟨y, H2, I2, r2, q2⟩ =>
    thn (ho pins s2 σ H2 x y v u _ I2 r1 r2 q2) fun d s3 ⟨z, H3, I3, r3, k, e, q3⟩ => ?_)) hm
  subst e
  cases r3
  refine wpAny_truthy_bool ?_
  cases k with
  | false =>
    obtain ⟨k', e', q'⟩ := q3
    cases e'
    exact ite_ff ⟨H3, I3, q'⟩
  | true =>
    refine ite_tt (test_last (thn (hc pins s3 σ H3 _ I3 q3) fun w' s4 ⟨z', H4, I4, r4, q4⟩ => thn (ho' pins s4 σ H4 y z' u w' _ I4 r2 r4 q4) fun d' s5 ⟨z2, H5, I5, r5, k2, e2, q5⟩ => ?_))
    subst e2
    cases r5
    exact wpAny_truthy_bool ⟨H5, I5, q5⟩

/-! ### truth -/
/-- a value's truth by the abstract heap -/
def TruV (K : PySem.W.Frag) (x : V) (H : Hp) (k : Bool) : Prop :=
  match x with
  | .non => k = false
  | .bl b => k = b
  | .int i => k = (i != 0)
  | .str y => y.length ≤ sizeLine ∧ k = ((y.length : Int) != 0)
  | .byt y => y.size ≤ sizeLine ∧ k = ((y.size : Int) != 0)
  | .ref p => (∃ xs, SqL K H p xs ∧ k = !xs.isEmpty) ∨ (∃ xs, SqT K H p xs ∧ k = !xs.isEmpty) ∨ ∃ kvs, H p = some (.dK kvs) ∧ k = !kvs.isEmpty
  | _ => False
theorem isEmpty_kv {κ : Type} {kvs : List (κ × V)} {vs : List (κ × Value)} (r : KV kvs vs) : (!vs.isEmpty) = !kvs.isEmpty := by
  cases r <;> rfl
theorem isEmpty_of {xs : List V} {its : List Value} (r : Vals xs its) : (!its.toArray.isEmpty) = !xs.isEmpty := by
  cases r <;> simp
theorem line63 : (sizeLine : Nat) < 2 ^ 63 := by rw [sizeLine_eq]; decide
theorem tru_ok : TruR X (fun x H Q => ∃ k, TruV X.K x H k ∧ Q k H) := by
  intro pins s σ H x v Q I rx h
  obtain ⟨k, e, q⟩ := h
  have hl := line63
  have hs : sizeLine = 16777216 := sizeLine_eq
  cases x with
  | non =>
    cases rx
    have e' : k = false := e
    subst e'
    exact truthy_none ⟨H, I, q⟩
  | bl b =>
    cases rx
    have e' : k = b := e
    subst e'
    exact wpAny_truthy_bool ⟨H, I, q⟩
  | int i =>
    obtain ⟨t, rfl⟩ := rx
    have e' : k = (i != 0) := e
    subst e'
    exact PySem.P.truthy_int ⟨H, I, q⟩
  | str y =>
    obtain ⟨t, rfl⟩ := rx
    obtain ⟨hy, e'⟩ : y.length ≤ sizeLine ∧ k = ((y.length : Int) != 0) := e
    subst e'
    exact PySem.P.truthy_str (by omega) ⟨H, I.tok _, q⟩
  | byt y =>
    obtain ⟨t, rfl⟩ := rx
    obtain ⟨hy, e'⟩ : y.size ≤ sizeLine ∧ k = ((y.size : Int) != 0) := e
    subst e'
    exact PySem.W.truthy_bytes (by omega) ⟨H, I.tok _, q⟩
  | ref p =>
    cases rx
    have e' : (∃ xs, SqL X.K H p xs ∧ k = !xs.isEmpty) ∨ (∃ xs, SqT X.K H p xs ∧ k = !xs.isEmpty) ∨ ∃ kvs, H p = some (.dK kvs) ∧ k = !kvs.isEmpty := e
    rcases e' with ⟨xs, hx, e'⟩ | ⟨xs, hx, e'⟩ | ⟨kvs, hx, e'⟩
    · subst e'
      obtain ⟨its, r, pl, hz⟩ := I.list hx
      have hlen := r.length
      exact wpAny_truthy_list pl.isList (by simp only [List.size_toArray]; omega) ⟨H, I.tok _, by rw [isEmpty_of r]; exact q⟩
    · subst e'
      obtain ⟨its, r, pl, hz⟩ := I.tuple hx
      have hlen := r.length
      exact truthy_tuple pl (by simp only [List.size_toArray]; omega) ⟨H, I.tok _, by rw [isEmpty_of r]; exact q⟩
    · subst e'
      obtain ⟨hz, hS, vs, r, m⟩ : kvs.length ≤ sizeLine ∧ (p == sysModules) = false ∧ ∃ vs, KV kvs vs ∧ s.heap.DictOf (mixKind X.prog X.w) p vs := I.hok p _ hx
      have hlen : kvs.length = vs.length := Paired.length r
      exact wpAny_truthy_dict hS m (by omega) ⟨H, I.tok _, by rw [isEmpty_kv r]; exact q⟩
  | _ => exact (show False from e).elim
/-- any expression whose test is its value's truth (a name, a call, a subscript, a field ..: he by fun _ => rfl) -/
theorem pt_truth (ha : PE X a ta) (he : ∀ whole, isTrue a X.env whole = (do let v ← whole; standAt a.pos; holding [v] (truthy v))) :
    PT X a (fun σ H Q => ta σ H fun x H' => ∃ k, TruV X.K x H' k ∧ Q k H') := by
  intro pins s σ H Q I h
  exact isTrue_plain (thn (ha pins s σ H _ I h) fun v s1 ⟨x, H1, I1, r1, q1⟩ => tru_ok pins s1 σ H1 x v Q I1 r1 q1) (he _)

/-! ### strs and bytes -/
theorem pe_byt {x : List UInt8} {k : Nat} : PE X (.Constant (.bytes x) k pos) (fun _ H Q => Q (.byt x.toArray) H) := fun _ _ _ H _ I h => PySem.W.Constant_bytes ⟨.byt x.toArray, H, I.tok _, ⟨_, rfl⟩, h⟩
theorem op_add_str : OpR X (binaryOp .Add) (fun x y H Q => ∃ i j, x = .str i ∧ y = .str j ∧ i.length + j.length ≤ sizeLine ∧ Q (.str (i ++ j)) H) := by
  intro pins s σ H x y v u Q I rx ry h
  obtain ⟨i, j, rfl, rfl, hz, q⟩ := h
  obtain ⟨t, rfl⟩ := rx
  obtain ⟨t', rfl⟩ := ry
  exact add_str (fun t' tk => ⟨.str (i ++ j), H, I.tok _, ⟨_, rfl⟩, q⟩) hz
theorem iop_add_str : OpR X (inplaceOp .Add) (fun x y H Q => ∃ i j, x = .str i ∧ y = .str j ∧ i.length + j.length ≤ sizeLine ∧ Q (.str (i ++ j)) H) := by
  intro pins s σ H x y v u Q I rx ry h
  obtain ⟨i, j, rfl, rfl, hz, q⟩ := h
  obtain ⟨t, rfl⟩ := rx
  obtain ⟨t', rfl⟩ := ry
  exact iadd_str (fun t' tk => ⟨.str (i ++ j), H, I.tok _, ⟨_, rfl⟩, q⟩) hz
theorem op_add_byt : OpR X (binaryOp .Add) (fun x y H Q => ∃ i j, x = .byt i ∧ y = .byt j ∧ i.size + j.size ≤ 16777216 ∧ Q (.byt (i ++ j)) H) := by
  intro pins s σ H x y v u Q I rx ry h
  obtain ⟨i, j, rfl, rfl, hz, q⟩ := h
  obtain ⟨t, rfl⟩ := rx
  obtain ⟨t', rfl⟩ := ry
  exact PySem.W.KBy.add_bytes hz (fun t' tk => ⟨.byt (i ++ j), H, I.tok _, ⟨_, rfl⟩, q⟩)

def PlainIxT (b : Expr) : Prop := ∀ o i, subscripted b false o i = operate [o, i] (getItem o i)
/-- s[i], 0 ≤ i < len -/
theorem pe_item_str (ha : PE X a ta) (hb : PE X b tb) (hs : PlainIxT b) :
    PE X (.Subscript a b pos) (tOp (fun x y H Q => ∃ z i c, x = .str z ∧ y = .int i ∧ 0 ≤ i ∧ i < 2 ^ 63 ∧ i < z.length ∧ z.cps[i.toNat]? = some c ∧ Q (.str ⟨#[c]⟩) H) ta tb) := by
  intro pins s σ H Q I h
  refine Subscript_ (binT ha hb I h fun v u s2 x y H2 I2 rx ry q => ?_)
  obtain ⟨z, i, c, rfl, rfl, h0, h63, h1, hc, q⟩ := q
  obtain ⟨t, rfl⟩ := rx
  obtain ⟨t', rfl⟩ := ry
  have e : seqIndex? i z.length = some i.toNat := PySem.StrLaws.seqIndex_nonneg h0 h1
  exact tail_any (typeIs_str s2 z t) slot_str_getitem.lookup (getItem_str (c := c) (by
    have e1 : decide (i < -(2 ^ 63 : Int)) = false := decide_eq_false (by omega)
    have e2 : decide (i ≥ 2 ^ 63) = false := decide_eq_false (by omega)
    rw [e1, e2] <;> rfl) (by rw [e]; exact hc) ⟨.str ⟨#[c]⟩, H2, I2.tok _, ⟨_, rfl⟩, q⟩) (hs _ _)
/-- b[i], 0 ≤ i < len -/
theorem pe_item_byt (ha : PE X a ta) (hb : PE X b tb) (hs : PlainIxT b) :
    PE X (.Subscript a b pos) (tOp (fun x y H Q => ∃ (z : List UInt8) (i : Int), x = .byt z.toArray ∧ y = .int i ∧ z.length ≤ sizeLine ∧ 0 ≤ i ∧ i < z.length ∧ Q (.int ((z.getD i.toNat 0).toNat : Nat)) H) ta tb) := by
  intro pins s σ H Q I h
  refine Subscript_ (binT ha hb I h fun v u s2 x y H2 I2 rx ry q => ?_)
  obtain ⟨z, i, rfl, rfl, hz, h0, h1, q⟩ := q
  obtain ⟨t, rfl⟩ := rx
  obtain ⟨t', rfl⟩ := ry
  have hl : sizeLine = 16777216 := sizeLine_eq
  exact tail_any (PySem.W.typeIs_bytes s2 z.toArray t) PySem.W.FB.slot_bytes_getitem.lookup (PySem.W.getItem_bytes (by omega) h0 h1 ⟨.int ((z.getD i.toNat 0).toNat : Nat), H2, I2.tok _, ⟨_, rfl⟩, q⟩) (hs _ _)

/-! ### scalar builtins, by CallR -/
theorem vals1 {x : V} {us : List Value} (r : Vals [x] us) : ∃ u, us = [u] ∧ RelV x u := by
  cases r with
  | cons r1 r2 => cases r2; exact ⟨_, rfl, r1⟩
theorem vals2 {x y : V} {us : List Value} (r : Vals [x, y] us) : ∃ u w', us = [u, w'] ∧ RelV x u ∧ RelV y w' := by
  cases r with
  | cons r1 r2 =>
    cases r2 with
    | cons r3 r4 => cases r4; exact ⟨_, _, rfl, r1, r3⟩
theorem call_abs : CallR X (.builtin "abs") (fun xs H Q => ∃ i, xs = [.int i] ∧ Q (.int (if i < 0 then -i else i)) H) := by
  intro pins s σ H xs us Q I r h
  obtain ⟨i, rfl, q⟩ := h
  obtain ⟨u, rfl, t, rfl⟩ := vals1 r
  exact call_abs_int fun u tk => ⟨.int (if i < 0 then -i else i), H, I.tok _, ⟨_, rfl⟩, q⟩
theorem call_max2 (hc : X.calm = true) : CallR X (.builtin "max") (fun xs H Q => ∃ i j, xs = [.int i, .int j] ∧ Q (.int (if j > i then j else i)) H) := by
  intro pins s σ H xs us Q I r h
  obtain ⟨i, j, rfl, q⟩ := h
  obtain ⟨u, w', rfl, ⟨t, rfl⟩, ⟨t', rfl⟩⟩ := vals2 r
  refine max_two_ints (I.ok.hd hc) fun h' tk k => ⟨_, H, I.kept k, ?_, q⟩
  by_cases hj : j > i
  · rw [if_pos hj, if_pos hj]; exact ⟨_, rfl⟩
  · rw [if_neg hj, if_neg hj]; exact ⟨_, rfl⟩
theorem call_min2 (hc : X.calm = true) : CallR X (.builtin "min") (fun xs H Q => ∃ i j, xs = [.int i, .int j] ∧ Q (.int (if j < i then j else i)) H) := by
  intro pins s σ H xs us Q I r h
  obtain ⟨i, j, rfl, q⟩ := h
  obtain ⟨u, w', rfl, ⟨t, rfl⟩, ⟨t', rfl⟩⟩ := vals2 r
  refine min_two_ints (I.ok.hd hc) fun h' tk k => ⟨_, H, I.kept k, ?_, q⟩
  by_cases hj : j < i
  · rw [if_pos hj, if_pos hj]; exact ⟨_, rfl⟩
  · rw [if_neg hj, if_neg hj]; exact ⟨_, rfl⟩
theorem call_int1 : CallR X (.type "int") (fun xs H Q => (∃ i, xs = [.int i] ∧ Q (.int i) H) ∨ ∃ k, xs = [.bl k] ∧ Q (.int (if k then 1 else 0)) H) := by
  intro pins s σ H xs us Q I r h
  rcases h with ⟨i, rfl, q⟩ | ⟨k, rfl, q⟩
  · obtain ⟨u, rfl, t, rfl⟩ := vals1 r
    exact call_int_int ⟨.int i, H, I, ⟨_, rfl⟩, q⟩
  · obtain ⟨u, rfl, r1⟩ := vals1 r
    cases r1
    exact call_int_bool ⟨.int (if k then 1 else 0), H, I.tok _, ⟨_, rfl⟩, q⟩
theorem call_bool1 : CallR X (.type "bool") (fun xs H Q => (∃ i, xs = [.int i] ∧ Q (.bl (i != 0)) H) ∨ ∃ k, xs = [.bl k] ∧ Q (.bl k) H) := by
  intro pins s σ H xs us Q I r h
  rcases h with ⟨i, rfl, q⟩ | ⟨k, rfl, q⟩
  · obtain ⟨u, rfl, t, rfl⟩ := vals1 r
    exact call_bool_int ⟨.bl (i != 0), H, I, rfl, q⟩
  · obtain ⟨u, rfl, r1⟩ := vals1 r
    cases r1
    exact call_bool_bool ⟨.bl k, H, I, rfl, q⟩
theorem call_str_int : CallR X (.type "str") (fun xs H Q => ∃ i, xs = [.int i] ∧ i.natAbs.log2 < 1920 ∧ Q (.str (toString i)) H) := by
  intro pins s σ H xs us Q I r h
  obtain ⟨i, rfl, hz, q⟩ := h
  obtain ⟨u, rfl, t, rfl⟩ := vals1 r
  exact PySem.P.str_of_int hz ⟨.str _, H, I.tok _, ⟨_, rfl⟩, q⟩
theorem call_ord : CallR X (.builtin "ord") (fun xs H Q => ∃ x, xs = [.str x] ∧ x.length = 1 ∧ Q (.int (x.cps.getD 0 0 : Nat)) H) := by
  intro pins s σ H xs us Q I r h
  obtain ⟨x, rfl, hz, q⟩ := h
  obtain ⟨u, rfl, t, rfl⟩ := vals1 r
  exact ord_of_one hz ⟨.int _, H, I.tok _, ⟨_, rfl⟩, q⟩
theorem call_chr : CallR X (.builtin "chr") (fun xs H Q => ∃ i, xs = [.int i] ∧ 0 ≤ i ∧ i ≤ 1114111 ∧ Q (.str ⟨#[i.toNat]⟩) H) := by
  intro pins s σ H xs us Q I r h
  obtain ⟨i, rfl, h0, h1, q⟩ := h
  obtain ⟨u, rfl, t, rfl⟩ := vals1 r
  exact chr_of_range h0 h1 ⟨.str _, H, I.tok _, ⟨_, rfl⟩, q⟩
/-- len of a str, a bytes, a list, a tuple -/
def LenV (K : PySem.W.Frag) (x : V) (H : Hp) (n : Nat) : Prop :=
  match x with
  | .str y => y.length ≤ sizeLine ∧ n = y.length
  | .byt y => y.size ≤ sizeLine ∧ n = y.size
  | .ref p => (∃ xs, SqL K H p xs ∧ n = xs.length) ∨ ∃ xs, SqT K H p xs ∧ n = xs.length
  | _ => False
theorem call_len : CallR X (.builtin "len") (fun xs H Q => ∃ x n, xs = [x] ∧ LenV X.K x H n ∧ Q (.int n) H) := by
  intro pins s σ H xs us Q I r h
  obtain ⟨x, n, rfl, e, q⟩ := h
  obtain ⟨u, rfl, rx⟩ := vals1 r
  have hl := line63
  have hs : sizeLine = 16777216 := sizeLine_eq
  cases x with
  | str y =>
    obtain ⟨t, rfl⟩ := rx
    obtain ⟨hy, e'⟩ : y.length ≤ sizeLine ∧ n = y.length := e
    subst e'
    exact len_str (by omega) ⟨.int _, H, I.tok _, ⟨_, rfl⟩, q⟩
  | byt y =>
    obtain ⟨t, rfl⟩ := rx
    obtain ⟨hy, e'⟩ : y.size ≤ sizeLine ∧ n = y.size := e
    subst e'
    exact PySem.W.len_bytes (by omega) ⟨.int _, H, I.tok _, ⟨_, rfl⟩, q⟩
  | ref p =>
    cases rx
    have e' : (∃ xs, SqL X.K H p xs ∧ n = xs.length) ∨ ∃ xs, SqT X.K H p xs ∧ n = xs.length := e
    rcases e' with ⟨xs, hx, e'⟩ | ⟨xs, hx, e'⟩
    · subst e'
      obtain ⟨its, r', pl, hz⟩ := I.list hx
      have hlen := r'.length
      exact Calls.call_len_list pl.isList (by simp only [List.size_toArray]; omega) ⟨.int xs.length, H, I.tok _, ⟨_, by simp only [List.size_toArray]; rw [hlen]⟩, q⟩
    · subst e'
      obtain ⟨its, r', pl, hz⟩ := I.tuple hx
      have hlen := r'.length
      exact len_tuple pl (by simp only [List.size_toArray]; omega) ⟨.int xs.length, H, I.tok _, ⟨_, by simp only [List.size_toArray]; rw [hlen]⟩, q⟩
  | _ => exact (show False from e).elim
/-- divmod: a new tuple -/
theorem call_divmod : CallR X (.builtin "divmod") (fun xs H Q => ∃ i j, xs = [.int i, .int j] ∧ CDiv i j ∧ ∀ p, H p = none → Q (.ref p) (upd H p (.tup [.int (i / j), .int (i % j)]))) := by
  intro pins s σ H xs us Q I r h
  obtain ⟨i, j, rfl, ⟨h1, h2⟩, q⟩ := h
  obtain ⟨u, w', rfl, ⟨t, rfl⟩, ⟨t', rfl⟩⟩ := vals2 r
  refine divmod_int (by omega) ?_ (.inl (PyProof.noPylong_small (by omega)))
  rw [Int.fdiv_eq_ediv_of_nonneg i (by omega), Int.fmod_eq_emod_of_nonneg i (by omega)]
  have hn : H s.heap.objs.size = none := I.hok.fresh (Nat.le_refl _)
  refine ⟨.ref s.heap.objs.size, _, ?_, rfl, q _ hn⟩
  refine I.laid (fun b o e => Heap.get?_push_of_some _ e) (Nat.le_refl _) ⟨by simp only [List.length_cons, List.length_nil]; rw [sizeLine_eq]; decide, [.int (i / j) s.toks, .int (i % j) (s.toks + 1)], .cons ⟨_, rfl⟩ (.cons ⟨_, rfl⟩ .nil), ?_⟩
  exact ⟨_, Heap.get?_push_size s.heap rfl, rfl, 0, rfl⟩
end
end L2

namespace L2
open PySem PySem.Spec PyProof.Rows

/-! ### an instance, its attributes a map -/
structure ObjM (h : Heap) (x dx C : Addr) (mA : Str → Option Value) : Prop where
  obj : h.get? x = some (PySem.W.instObj C dx)
  ns : h.Ns1 dx mA
  ne : dx ≠ x

theorem lookIn_ns {h : Heap} {dx : Addr} {mA : Str → Option Value} (n : h.Ns1 dx mA) : ∃ od, h.get? dx = some od ∧ ∀ name, PySem.W.lookIn name od = some (mA name) := by
  obtain ⟨o, es, ep, ho, hd, hk, _, hm⟩ := n
  refine ⟨o, ho, fun name => ?_⟩
  have e := hm name
  unfold nsFind findBy at e
  rw [← Array.find?_toList] at e
  unfold PySem.W.lookIn
  rw [hd]
  dsimp only
  split
  · rename_i y q
    rw [q] at e
    exact congrArg some e
  · rename_i q
    rw [q] at e
    have a : es.toList.any (·.refKey) = false := by
      rw [List.any_eq_false]
      intro y hy
      obtain ⟨z, t, hkey⟩ := hk y (Array.mem_toList_iff.mp hy)
      simp [DictEntry.refKey, hkey]
    have a' : ¬ es.toList.any (·.refKey) = true := by rw [a]; exact Bool.false_ne_true
    rw [if_neg a']
    exact congrArg some e

theorem ObjM.look {h : Heap} {x dx C : Addr} {mA : Str → Option Value} (I : ObjM h x dx C mA) : ∃ od, PySem.W.InstAt h x (PySem.W.instObj C dx) C (some od) ∧ ∀ name, PySem.W.lookIn name od = some (mA name) :=
  let ⟨od, ho, hl⟩ := lookIn_ns I.ns
  ⟨od, ⟨I.obj, rfl, rfl, ho⟩, hl⟩

section
variable {prog : Program} {w : World} {A : Around} {E : Value → Shared → Prop} {s : Shared} {K : PySem.W.Frag} {x dx C f : Addr} {mA : Str → Option Value} {name : Str} {v : Value}

theorem get_map {expr : Bool} {Q : Value → Shared → Prop} (X : K.In s.heap) (I : ObjM s.heap x dx C mA) (hg : PySem.W.plainGet K C name = true) (hh : PySem.W.hasDictIn K C = true)
    (ha : PySem.W.findIn K (.ref C) name = some none) (hv : mA name = some v) (hv' : PySem.W.handedIn v = true) (h : Q v { s with toks := s.toks + 1 }) :
    wpAny (model prog w) A (getAttr (.ref x) name expr) Q E s := by
  obtain ⟨od, J, hl⟩ := I.look
  exact PySem.W.get_value X J (PySem.W.plainGet_of hg).1 (PySem.W.findObj_own hh ha rfl (by rw [hl, hv])) hv' h

theorem get_const {expr : Bool} {a : Value} {Q : Value → Shared → Prop} (X : K.In s.heap) (I : ObjM s.heap x dx C mA) (hg : PySem.W.plainGet K C name = true) (hh : PySem.W.hasDictIn K C = true)
    (ha : PySem.W.findIn K (.ref C) name = some (some a)) (hn : PySem.W.specialIn K a "__get__" = some none) (hc : PySem.W.copiedNames.contains name = false) (hv : mA name = none) (hv' : PySem.W.handedIn a = true)
    (h : Q a { s with toks := s.toks + 1 }) : wpAny (model prog w) A (getAttr (.ref x) name expr) Q E s := by
  obtain ⟨od, J, hl⟩ := I.look
  exact PySem.W.get_value X J (PySem.W.plainGet_of hg).1 (PySem.W.findObj_cls hh ha hn hv' hc (by rw [hl, hv])) hv' h

theorem get_meth {pl : Sem Bool} {Q : Value × List Value → Shared → Prop} (X : K.In s.heap) (I : ObjM s.heap x dx C mA) (hg : PySem.W.plainGet K C name = true)
    (hf : PySem.W.findIn K (.ref C) name = some (some (.ref f))) (ht : PySem.W.isFn K (.ref f) = true) (hv : mA name = none) (h : Q (.ref f, [.ref x]) s) :
    wpAny (model prog w) A (getMethod (.ref x) name pl) Q E s := by
  obtain ⟨od, J, hl⟩ := I.look
  exact PySem.W.method_fn X J (PySem.W.plainGet_of hg).1 (PySem.W.plainGet_of hg).2 hf (beq_iff_eq.mp ht) (by show (PySem.W.lookIn name od).map (·.isSome) = some false; rw [hl, hv]; rfl) h

theorem set_map {ns : List Str} {Q : Unit → Shared → Prop} (X : K.In s.heap) (I : ObjM s.heap x dx C mA)
    (hs : PySem.W.findIn K (.ref C) "__setattr__" = some (some (.builtin "object.__setattr__"))) (hp : PySem.W.plainOver K C = true) (ht : PySem.W.takerIn K C name = some none) (hh : PySem.W.hasDictIn K C = true)
    (hw : PySem.Within mA ns) (hsz : ns.length ≤ sizeLine)
    (h : ∀ h', ObjM h' x dx C (fun y => if y = name then some v else mA y) → Heap.SameBut dx s.heap h' → Q () { s with heap := h', toks := s.toks + 2 }) :
    wpAny (model prog w) A (setAttr (.ref x) name v) Q E s := by
  obtain ⟨od, J, hl⟩ := I.look
  refine PySem.W.set_plain X J hs (PySem.W.osa_open (s := { s with toks := s.toks + 1 }) (r := none) X J hp ht fun b => ?_)
  obtain ⟨cd, hc, hd'⟩ := PySem.W.any_some hh
  have hx : s.heap.get? x = some ⟨.ref C, some dx, .plain, #[]⟩ := I.obj
  refine wpAny_bind (wpAny_pure (wpAny_bind (wpAny_bind (wpAny_loadPart hx (wpAny_bind (PySem.W.Looks.here (s := { s with toks := s.toks + 1 }) (PySem.W.looks_clsIn X hc) ?_))))))
  rw [hd']
  refine wpAny_pure (a := some dx) (wpAny_bind (wpAny_pure (wpAny_bind ?_)))
  refine wpAny_nsSet1 (s := { s with toks := s.toks + 1 }) I.ns fun h' hn2 hs2 => ?_
  obtain ⟨oD, esD, epD, hoD, hdD, hcD⟩ := hn2.count (PySem.Within.cons name v hw)
  refine wpAny_bind (wpAny_lookBehind hoD (by rw [hdD]; exact pastItsLine_dict (Nat.le_trans hcD (by rw [List.length_cons]; omega))) ?_)
  exact wpAny_pure (h _ ⟨(hs2.2 _ (Ne.symm I.ne)).trans I.obj, hn2, I.ne⟩ hs2)

/-- C(..): the dict at the heap's end, the instance behind it; then its __init__ -/
theorem make_map {R : Result → Shared → Prop} {vs : List Value} {kw : List (Str × Value)} (X : K.In s.heap) (hm : PySem.W.makesIn K C = true)
    (hi : PySem.W.findIn K (.ref C) "__init__" = some (some (.ref f))) (hf : PySem.W.typeIn K (.ref f) = some (.type "function"))
    (h : codeAny (model prog w) (A.under (.builtin "type.__call__" ⟨.ref C :: vs, kw⟩)) (.call (.ref f) ⟨.ref (s.heap.objs.size + 1) :: vs, kw⟩) (PySem.W.InitBack (s.heap.objs.size + 1) R)
      { s with heap := (s.heap.push PySem.W.emptyDict).push (PySem.W.instObj C s.heap.objs.size) }) :
    codeAny (model prog w) A (.call (.ref C) ⟨vs, kw⟩) R s := by
  obtain ⟨hh, g, d, t, os⟩ := s
  exact PySem.W.make_core (PySem.W.makes_of X hm) (PySem.W.looks_findIn X hi) (fun self => PySem.W.bind_fn X self hf) (.inl rfl) h
/-- C() where there is no __init__ but object's -/
theorem make_map0 {R : Result → Shared → Prop} (X : K.In s.heap) (hm : PySem.W.makesIn K C = true)
    (hi : PySem.W.findIn K (.ref C) "__init__" = some (some (.builtin "object.__init__")))
    (hb : ∀ self, PySem.W.Looks (model prog w) s.heap (bindSpecial (.builtin "object.__init__") self) (.builtin "object.__init__", [self]))
    (h : codeAny (model prog w) (A.under (.builtin "type.__call__" ⟨[.ref C], []⟩)) (.call (.builtin "object.__init__") ⟨[.ref (s.heap.objs.size + 1)], []⟩) (PySem.W.InitBack (s.heap.objs.size + 1) R)
      { s with heap := (s.heap.push PySem.W.emptyDict).push (PySem.W.instObj C s.heap.objs.size) }) :
    codeAny (model prog w) A (.call (.ref C) ⟨[], []⟩) R s := by
  obtain ⟨hh, g, d, t, os⟩ := s
  exact PySem.W.make_core (PySem.W.makes_of X hm) (PySem.W.looks_findIn X hi) hb (.inr ⟨rfl, rfl⟩) h
end

/-! ### the attributes as a list of pairs -/
def putF (f : Str) (v : V) : List (Str × V) → List (Str × V)
  | [] => [(f, v)]
  | (g, x) :: r => if g = f then (g, v) :: r else (g, x) :: putF f v r
theorem lookup_putF (f g : Str) (v : V) : ∀ fs : List (Str × V), (putF f v fs).lookup g = if g = f then some v else fs.lookup g
  | [] => by
    show List.lookup g [(f, v)] = _
    by_cases h : g = f
    · have hb : (g == f) = true := beq_iff_eq.mpr h
      simp only [List.lookup, hb, if_pos h]
    · have hb : (g == f) = false := beq_eq_false_iff_ne.mpr h
      simp only [List.lookup, hb, if_neg h]
  | (k, x) :: r => by
    have ih := lookup_putF f g v r
    rw [show putF f v ((k, x) :: r) = (if k = f then (k, v) :: r else (k, x) :: putF f v r) from rfl]
    by_cases hk : k = f
    · rw [if_pos hk]
      by_cases h : g = k
      · have hb : (g == k) = true := beq_iff_eq.mpr h
        simp only [List.lookup, hb, if_pos (h.trans hk)]
      · have hb : (g == k) = false := beq_eq_false_iff_ne.mpr h
        simp only [List.lookup, hb, if_neg (fun e : g = f => h (e.trans hk.symm))]
    · rw [if_neg hk]
      by_cases h : g = k
      · have hb : (g == k) = true := beq_iff_eq.mpr h
        simp only [List.lookup, hb, if_neg (fun e : g = f => hk (h.symm.trans e))]
      · have hb : (g == k) = false := beq_eq_false_iff_ne.mpr h
        simp only [List.lookup, hb]
        exact ih
theorem keys_putF (f : Str) (v : V) : ∀ fs : List (Str × V), f ∈ (putF f v fs).map (·.1) ∧ ∀ g, g ∈ fs.map (·.1) → g ∈ (putF f v fs).map (·.1)
  | [] => ⟨by simp [putF], fun g h => by simp at h⟩
  | (k, x) :: r => by
    obtain ⟨i1, i2⟩ := keys_putF f v r
    rw [show putF f v ((k, x) :: r) = (if k = f then (k, v) :: r else (k, x) :: putF f v r) from rfl]
    by_cases hk : k = f
    · rw [if_pos hk]
      subst hk
      exact ⟨by simp, fun g h => by simpa using h⟩
    · rw [if_neg hk]
      refine ⟨?_, fun g h => ?_⟩
      · rw [List.map_cons]
        exact List.mem_cons_of_mem _ i1
      · rw [List.map_cons] at h ⊢
        rcases List.mem_cons.mp h with e | e
        · exact List.mem_cons.mpr (.inl e)
        · exact List.mem_cons_of_mem _ (i2 g e)
theorem length_putF (f : Str) (v : V) : ∀ fs : List (Str × V), (putF f v fs).length ≤ fs.length + 1
  | [] => by simp [putF]
  | (k, x) :: r => by
    have ih := length_putF f v r
    rw [show putF f v ((k, x) :: r) = (if k = f then (k, v) :: r else (k, x) :: putF f v r) from rfl]
    by_cases hk : k = f
    · rw [if_pos hk, List.length_cons, List.length_cons]; omega
    · rw [if_neg hk, List.length_cons, List.length_cons]; omega

theorem RelO.some_of {v : V} {o : Option Value} (r : RelO (some v) o) : ∃ u, o = some u ∧ RelV v u := by
  cases o with
  | none => exact (show False from r).elim
  | some u => exact ⟨u, rfl, r⟩
theorem RelO.none_of {o : Option Value} (r : RelO none o) : o = none := by
  cases o with
  | none => rfl
  | some u => exact (show False from r).elim
theorem handed_of {v : V} {u : Value} (r : RelV v u) : PySem.W.handedIn u = true := by
  cases v with
  | non => cases (show u = Value.none from r); rfl
  | bl b => cases (show u = Value.bool b from r); rfl
  | int i => obtain ⟨t, e⟩ := (show ∃ t, u = Value.int i t from r); cases e; rfl
  | str x => obtain ⟨t, e⟩ := (show ∃ t, u = Value.str x t from r); cases e; rfl
  | byt b => obtain ⟨t, e⟩ := (show ∃ t, u = Value.bytes b t from r); cases e; rfl
  | flt b => obtain ⟨t, e⟩ := (show ∃ t, u = Value.float b t from r); cases e; rfl
  | ref a => cases (show u = Value.ref a from r); rfl
  | ty n => cases (show u = Value.type n from r); rfl

section
variable {P : Program} {w : World} {H H' : Hp} {h h' : Heap} {a C dx : Addr} {fs fs' : List (Str × V)}
theorem ins_get (hok : HOk P w H h) (e : H a = some (.ins C dx fs)) : ∃ mA, ObjM h a dx C mA ∧ (∀ f, RelO (fs.lookup f) (mA f)) ∧ PySem.Within mA (fs.map (·.1)) ∧ fs.length ≤ 1000 ∧ H dx = some (.own a) := by
  obtain ⟨d, z, ne, ob, mA, n, r, q⟩ := (show ObjOk P w H h a (.ins C dx fs) from hok a _ e)
  exact ⟨mA, ⟨ob, n, ne⟩, r, q, z, d⟩
end

/-! ### what of the text a class must have -/
structure Cls (K : PySem.W.Frag) (C : Addr) : Prop where
  pg : PySem.W.plainGet K C Str.empty = true
  hd : PySem.W.hasDictIn K C = true
  po : PySem.W.plainOver K C = true
  sa : PySem.W.findIn K (.ref C) "__setattr__" = some (some (.builtin "object.__setattr__"))
theorem Cls.get {K : PySem.W.Frag} {C : Addr} (c : Cls K C) (f : Str) : PySem.W.plainGet K C f = true := c.pg
/-- no class of it has the name -/
def NoAttr (K : PySem.W.Frag) (C : Addr) (f : Str) : Prop := PySem.W.findIn K (.ref C) f = some none
theorem NoAttr.taker {K : PySem.W.Frag} {C : Addr} {f : Str} (n : NoAttr K C f) : PySem.W.takerIn K C f = some none := by
  unfold PySem.W.takerIn
  rw [show PySem.W.findIn K (.ref C) f = some none from n]
  rfl
/-- a constant of the class -/
structure Con (K : PySem.W.Frag) (C : Addr) (f : Str) (v : V) (u : Value) : Prop where
  at_ : PySem.W.findIn K (.ref C) f = some (some u)
  rel : RelV v u
  get : PySem.W.specialIn K u "__get__" = some none
  cp : PySem.W.copiedNames.contains f = false
/-- a method: a plain def of the class or of one above it -/
structure Meth (K : PySem.W.Frag) (C : Addr) (m : Str) (f : Addr) : Prop where
  at_ : PySem.W.findIn K (.ref C) m = some (some (.ref f))
  fn : PySem.W.isFn K (.ref f) = true
  kp : PySem.W.keepIn K (.ref f) = true

section
variable {X : Cx} {pins : List (Addr × Obj)} {σ : St} {H : Hp} {s : Shared} {a C dx : Addr} {fs : List (Str × V)} {f : Str} {v : V} {A : Around} {E : Value → Shared → Prop}

theorem getattr_ok {b : Bool} {Q : Value → Shared → Prop} (I : Inv X pins σ H s) (e : H a = some (.ins C dx fs)) (c : Cls X.K C) (n : NoAttr X.K C f) (l : fs.lookup f = some v)
    (h : ∀ u s', Inv X pins σ H s' → RelV v u → Q u s') : wpAny (model X.prog X.w) A (getAttr (.ref a) f b) Q E s := by
  obtain ⟨mA, O, r, _, _, _⟩ := ins_get I.hok e
  obtain ⟨u, hu, ru⟩ := RelO.some_of (v := v) (o := mA f) (by rw [← l]; exact r f)
  exact get_map I.kIn O (c.get f) c.hd n hu (handed_of ru) (h u _ (I.tok _) ru)

theorem getcon_ok {b : Bool} {u : Value} {Q : Value → Shared → Prop} (I : Inv X pins σ H s) (e : H a = some (.ins C dx fs)) (c : Cls X.K C) (k : Con X.K C f v u) (l : fs.lookup f = none)
    (h : ∀ s', Inv X pins σ H s' → Q u s') : wpAny (model X.prog X.w) A (getAttr (.ref a) f b) Q E s := by
  obtain ⟨mA, O, r, _, _, _⟩ := ins_get I.hok e
  have hn : mA f = none := RelO.none_of (by rw [← l]; exact r f)
  exact get_const I.kIn O (c.get f) c.hd k.at_ k.get k.cp hn (handed_of k.rel) (h _ (I.tok _))

theorem getmeth_ok {m : Str} {g : Addr} {pl : Sem Bool} {Q : Value × List Value → Shared → Prop} (I : Inv X pins σ H s) (e : H a = some (.ins C dx fs)) (c : Cls X.K C) (k : Meth X.K C m g) (l : fs.lookup m = none)
    (h : Q (.ref g, [.ref a]) s) : wpAny (model X.prog X.w) A (getMethod (.ref a) m pl) Q E s := by
  obtain ⟨mA, O, r, _, _, _⟩ := ins_get I.hok e
  have hn : mA m = none := RelO.none_of (by rw [← l]; exact r m)
  exact get_meth I.kIn O (c.get m) k.at_ k.fn hn h

theorem setattr_ok {y : V} {u : Value} {Q : Unit → Shared → Prop} (I : Inv X pins σ H s) (e : H a = some (.ins C dx fs)) (c : Cls X.K C) (n : NoAttr X.K C f) (hl : fs.length < 1000) (ry : RelV y u)
    (h : ∀ s', Inv X pins σ (upd H a (.ins C dx (putF f y fs))) s' → Q () s') : wpAny (model X.prog X.w) A (setAttr (.ref a) f u) Q E s := by
  obtain ⟨mA, O, r, wi, _, ho⟩ := ins_get I.hok e
  have hz : (fs.map (·.1)).length ≤ sizeLine := by rw [List.length_map, sizeLine_eq]; omega
  refine set_map I.kIn O c.sa c.po n.taker c.hd wi hz fun h' O' sb => h _ ?_
  have hd : ∃ o, h'.get? dx = some o := let ⟨o, _, _, e', _⟩ := O'.ns; ⟨o, e'⟩
  refine I.write (x := a) (e := dx) (by rw [e]; exact True.intro) (.inr ho) (fun b q hb z => (sb.2 b hb).trans z) hd ?_
  refine ⟨by rw [upd_ne O.ne]; exact ho, ?_, O.ne, O'.obj, _, O'.ns, fun g => ?_, fun g hg => ?_⟩
  · have := length_putF f y fs; omega
  · show RelO ((putF f y fs).lookup g) (if g = f then some u else mA g)
    rw [lookup_putF]
    by_cases q : g = f
    · rw [if_pos q, if_pos q]; exact ry
    · rw [if_neg q, if_neg q]; exact r g
  · by_cases q : g = f
    · rw [q]; exact (keys_putF f y fs).1
    · refine (keys_putF f y fs).2 g (wi g fun z => hg ?_)
      show (if g = f then some u else mA g) = none
      rw [if_neg q]; exact z

/-- a new instance, tracked, without attributes -/
theorem Inv.made (I : Inv X pins σ H s) : Inv X pins σ (upd (upd H s.heap.objs.size (.own (s.heap.objs.size + 1))) (s.heap.objs.size + 1) (.ins C s.heap.objs.size []))
    { s with heap := (s.heap.push PySem.W.emptyDict).push (PySem.W.instObj C s.heap.objs.size) } := by
  have e1 : (s.heap.push PySem.W.emptyDict).get? s.heap.objs.size = some PySem.W.emptyDict := Heap.get?_push_size s.heap rfl
  have e2 : ((s.heap.push PySem.W.emptyDict).push (PySem.W.instObj C s.heap.objs.size)).get? (s.heap.objs.size + 1) = some (PySem.W.instObj C s.heap.objs.size) := by
    have := Heap.get?_push_size (s.heap.push PySem.W.emptyDict) (o := PySem.W.instObj C s.heap.objs.size) rfl
    rwa [Heap.size_push] at this
  have e3 : (s.heap.push PySem.W.emptyDict).Ns s.heap.objs.size (fun _ => none) := ⟨PySem.W.emptyDict, #[], _, e1, rfl, (fun e he => absurd he (by simp)), fun _ => rfl⟩
  have I1 := I.laid (a := s.heap.objs.size) (o := .own (s.heap.objs.size + 1)) (h' := s.heap.push PySem.W.emptyDict) (t' := s.toks) (fun b u q => Heap.get?_push_of_some _ q) (Nat.le_refl _) ⟨_, e1⟩
  refine I1.laid (a := s.heap.objs.size + 1) (o := .ins C s.heap.objs.size []) (t' := s.toks) (fun b u q => Heap.get?_push_of_some _ q) (Nat.le_of_eq (Heap.size_push _ _)) ?_
  have ne : s.heap.objs.size ≠ s.heap.objs.size + 1 := Nat.ne_of_lt (Nat.lt_succ_self _)
  refine ⟨by rw [upd_ne ne, upd_same], Nat.zero_le _, ne, e2, fun _ => none, (Heap.Ns1.of_empty e3).at fun o q => Heap.get?_push_of_some _ q, fun _ => True.intro, fun y hy => absurd rfl hy⟩

/-- e.f where nothing but the object is asked: through attributeBase (super) and the last hold -/
theorem attr_of {prog : Program} {w : World} {env : Env} {e : Expr} {f : Str} {pos : Pos} {s : Shared} {Q : Value → Shared → Prop} (hb : attributeBase e f env (eval e env) = eval e env)
    (h : wpAny (model prog w) A (eval e env) (fun o s₁ => wpAny (model prog w) A (getAttr o f true) Q E s₁) E s) : wpAny (model prog w) A (eval (.Attribute e f pos) env) Q E s :=
  Attribute_any_ h (by rw [arm_eval_Attribute, hb])
end

/-! ### readings and rules -/
/-- e.f, an attribute of the instance -/
def tFld (K : PySem.W.Frag) (ta : TE) (f : Str) : TE := fun σ H Q => ta σ H fun x H1 => ∃ a C dx fs v, x = .ref a ∧ H1 a = some (.ins C dx fs) ∧ Cls K C ∧ NoAttr K C f ∧ fs.lookup f = some v ∧ Q v H1
/-- e.f, a constant of the class -/
def tCon (K : PySem.W.Frag) (ta : TE) (f : Str) : TE := fun σ H Q => ta σ H fun x H1 => ∃ a C dx fs v u, x = .ref a ∧ H1 a = some (.ins C dx fs) ∧ Cls K C ∧ Con K C f v u ∧ fs.lookup f = none ∧ Q v H1
/-- e.f = value -/
def sFld (K : PySem.W.Frag) (ta tv : TE) (f : Str) : TS := fun D σ H => tv σ H fun y H1 => ta σ H1 fun x H2 => ∃ a C dx fs, x = .ref a ∧ H2 a = some (.ins C dx fs) ∧ Cls K C ∧ NoAttr K C f ∧ fs.length < 1000 ∧
  D.nx σ (upd H2 a (.ins C dx (putF f y fs)))
/-- an augmented operator on two values -/
def InOp (X : Cx) (op : Operator) (rd : V → V → Hp → VK → Prop) : Prop :=
  ∀ (pins : List (Addr × Obj)) (s : Shared) (σ : St) (H : Hp) (x y : V) (u v : Value) (Q : VK), Inv X pins σ H s → RelV x u → RelV y v → rd x y H Q → wpAny (model X.prog X.w) X.A (inplaceOp op u v) (EP X pins σ Q) X.xe s
/-- e.f op= value -/
def sFldAug (K : PySem.W.Frag) (ta tv : TE) (rd : V → V → Hp → VK → Prop) (f : Str) : TS := fun D σ H => ta σ H fun x H1 => ∃ a C dx fs v, x = .ref a ∧ H1 a = some (.ins C dx fs) ∧ Cls K C ∧ NoAttr K C f ∧ fs.lookup f = some v ∧
  tv σ H1 fun y H2 => rd v y H2 fun z H3 => ∃ dx' fs', H3 a = some (.ins C dx' fs') ∧ fs'.length < 1000 ∧ D.nx σ (upd H3 a (.ins C dx' (putF f z fs')))

section
variable {X : Cx} {o e value : Expr} {f : Str} {pos pos' tpos : Pos} {ta tv : TE}
theorem pe_fld (he : PE X e ta) (hb : attributeBase e f X.env (eval e X.env) = eval e X.env) : PE X (.Attribute e f pos) (tFld X.K ta f) := by
  intro pins s σ H Q I h
  refine attr_of hb (thn (he pins s σ H _ I h) fun u s1 ⟨x, H1, I1, rx, a, C, dx, fs, v, ex, ea, c, n, l, q⟩ => ?_)
  subst ex
  obtain rfl : u = Value.ref a := rx
  exact getattr_ok I1 ea c n l fun u' s2 I2 ru => ⟨v, H1, I2, ru, q⟩
theorem pe_con (he : PE X e ta) (hb : attributeBase e f X.env (eval e X.env) = eval e X.env) : PE X (.Attribute e f pos) (tCon X.K ta f) := by
  intro pins s σ H Q I h
  refine attr_of hb (thn (he pins s σ H _ I h) fun u s1 ⟨x, H1, I1, rx, a, C, dx, fs, v, u0, ex, ea, c, k, l, q⟩ => ?_)
  subst ex
  obtain rfl : u = Value.ref a := rx
  exact getcon_ok I1 ea c k l fun s2 I2 => ⟨v, H1, I2, k.rel, q⟩
theorem ps_fld (ha : PE X o ta) (hv : PE X value tv) (hs : swapsWith value (some (.Attribute o f pos')) pos.line X.env = pure false) : PS X (.Assign [.Attribute o f pos'] value pos) (sFld X.K ta tv f) := by
  intro pins s σ H D I h
  refine plainObj_wpAny_Assign_Attribute (thn (hv pins s σ H _ I h) fun u s1 ⟨y, H1, I1, ry, q⟩ => thn (ha pins s1 σ H1 _ I1 q) fun ov s2 ⟨x, H2, I2, rx, a, C, dx, fs, ex, ea, c, n, l, q2⟩ => ?_) hs
  subst ex
  obtain rfl : ov = Value.ref a := rx
  exact setattr_ok I2 ea c n l ry fun s3 I3 => ⟨σ, _, I3, q2⟩
theorem ps_fldaug {op : Operator} {rd : V → V → Hp → VK → Prop} (ha : PE X o ta) (hv : PE X value tv) (hop : InOp X op rd) : PS X (.AugAssign (.Attribute o f tpos) op value pos) (sFldAug X.K ta tv rd f) := by
  intro pins s σ H D I h
  refine wpAny_AugAssign_AttributeAny (thn (ha pins s σ H _ I h) fun ov s1 ⟨x, H1, I1, rx, a, C, dx, fs, v, ex, ea, c, n, l, q⟩ => ?_)
  subst ex
  obtain rfl : ov = Value.ref a := rx
  refine getattr_ok I1 ea c n l fun u s2 I2 ru => thn (hv pins s2 σ H1 _ I2 q) fun w3 s3 ⟨y, H2, I3, ry, q3⟩ => thn (hop pins s3 σ H2 v y u w3 _ I3 ru ry q3) fun w4 s4 ⟨z, H3, I4, rz, dx', fs', ea', l', q4⟩ => ?_
  exact setattr_ok I4 ea' c n l' rz fun s5 I5 => ⟨σ, _, I5, q4⟩
def rAdd : V → V → Hp → VK → Prop := fun x y H Q => ∃ i j, x = .int i ∧ y = .int j ∧ Q (.int (i + j)) H
def rSub : V → V → Hp → VK → Prop := fun x y H Q => ∃ i j, x = .int i ∧ y = .int j ∧ Q (.int (i - j)) H
theorem in_add : InOp X .Add rAdd := by
  rintro pins s σ H x y u v Q I rx ry ⟨i, j, rfl, rfl, q⟩
  obtain ⟨t, rfl⟩ := (show ∃ t, u = Value.int i t from rx)
  obtain ⟨t', rfl⟩ := (show ∃ t', v = Value.int j t' from ry)
  exact PyProof.Rows.iadd_int ⟨.int (i + j), H, I.tok _, ⟨_, rfl⟩, q⟩
theorem in_sub : InOp X .Sub rSub := by
  rintro pins s σ H x y u v Q I rx ry ⟨i, j, rfl, rfl, q⟩
  obtain ⟨t, rfl⟩ := (show ∃ t, u = Value.int i t from rx)
  obtain ⟨t', rfl⟩ := (show ∃ t', v = Value.int j t' from ry)
  exact PyProof.Rows.isub_int ⟨.int (i - j), H, I.tok _, ⟨_, rfl⟩, q⟩

/-- what is between an instance and its method: the tree of a method call -/
theorem methcall_of {pl : Sem Bool} {m : Str} {apos : Pos} {args : List Expr} {pins : List (Addr × Obj)} {s : Shared} {σ : St} {H : Hp} {Q : Value → Shared → Prop} {te : TE} (he : PE X e te) (I : Inv X pins σ H s)
    (h : te σ H fun x H1 => ∃ a C dx fs g, x = .ref a ∧ H1 a = some (.ins C dx fs) ∧ Cls X.K C ∧ Meth X.K C m g ∧ fs.lookup m = none ∧
      ∀ s1, Inv X pins σ H1 s1 → wpAny (model X.prog X.w) X.A (callWith pos (.ref g) [.ref a] (backTo pos (starEach args X.env)) (backToKw pos (keywordEach [] X.env))) Q X.xe s1)
    (ht : eval (.Call (.Attribute e m apos) args [] pos) X.env = (do
      let ov ← eval e X.env
      standAt apos.atName
      let (f, first) ← holding [ov] (getMethod ov m pl)
      callWith pos f first (backTo pos (starEach args X.env)) (backToKw pos (keywordEach [] X.env)))) :
    wpAny (model X.prog X.w) X.A (eval (.Call (.Attribute e m apos) args [] pos) X.env) Q X.xe s := by
  refine PySem.W.methodCall_KW (pl := pl) (thn (he pins s σ H _ I h) fun u s1 ⟨x, H1, I1, rx, a, C, dx, fs, g, ex, ea, c, k, l, q⟩ => ?_) ht
  subst ex
  obtain rfl : u = Value.ref a := rx
  exact getmeth_ok I1 ea c k l (q s1 I1)
end

/-! ### isinstance -/
section
variable {X : Cx} {pins : List (Addr × Obj)} {σ : St} {H : Hp} {s : Shared} {A : Around} {E : Value → Shared → Prop} {Q : Value → Shared → Prop} {c : Value} {b : Bool}
/-- the type of a value, as the fragment's deciders take it; for an instance its class -/
inductive TyOf (K : PySem.W.Frag) (H : Hp) : V → Value → Prop where
  | non : TyOf K H .non (.type "NoneType")
  | bl (x : Bool) : TyOf K H (.bl x) (.type "bool")
  | int (i : Int) : TyOf K H (.int i) (.type "int")
  | str (x : Str) : TyOf K H (.str x) (.type "str")
  | flt (x : UInt64) : TyOf K H (.flt x) (.type "float")
  | lst {a : Addr} {xs : List V} (e : H a = some (.lst xs)) : TyOf K H (.ref a) (.type "list")
  | frz {a : Addr} {o : Obj} {xs : List V} (e : H a = some (.frz o (.lst xs))) : TyOf K H (.ref a) (.type "list")
  | tup {a : Addr} {xs : List V} (e : H a = some (.tup xs)) : TyOf K H (.ref a) (.type "tuple")
  | dK {a : Addr} {kvs : List (Key × V)} (e : H a = some (.dK kvs)) : TyOf K H (.ref a) (.type "dict")
  | dT {a : Addr} {kvs : List (List Key × V)} (e : H a = some (.dT kvs)) : TyOf K H (.ref a) (.type "dict")
  | ins {a C dx : Addr} {fs : List (Str × V)} (e : H a = some (.ins C dx fs)) (cl : Cls K C) (ha : PySem.W.findIn K (.ref C) "__class__" = some (some (.builtin "object.__class__")))
      (hn : PySem.W.specialIn K (.builtin "object.__class__") "__get__" = some (some (.builtin "getset_descriptor.__get__"))) (htk : PySem.W.takesIn K (.builtin "object.__class__") = some true)
      (hm : PySem.W.mroIn K C (.type "object") = some true) : TyOf K H (.ref a) (.ref C)
/-- isinstance(x, c) for one class c, a built-in or an own one: kitOne's answer -/
theorem isinst_ok {x : V} {u t : Value} (I : Inv X pins σ H s) (rx : RelV x u) (ty : TyOf X.K H x t) (e : PySem.W.kitOne X.K t c = some b) (h : ∀ tk, Q (.bool b) { s with toks := tk }) :
    wpAny (model X.prog X.w) A (call (.builtin "isinstance") [u, c]) Q E s := by
  cases ty with
  | non => cases (show u = Value.none from rx); exact PySem.W.kia_one PySem.W.kitx_none I.kIn True.intro e (fun z => nomatch z) h
  | bl y => cases (show u = Value.bool y from rx); exact PySem.W.kia_one PySem.W.kitx_bool I.kIn True.intro e (fun z => nomatch z) h
  | int i => obtain ⟨t, q⟩ := (show ∃ t, u = Value.int i t from rx); cases q; exact PySem.W.kia_one PySem.W.kitx_int I.kIn True.intro e (fun z => nomatch z) h
  | str y => obtain ⟨t, q⟩ := (show ∃ t, u = Value.str y t from rx); cases q; exact PySem.W.kia_one PySem.W.kitx_str I.kIn True.intro e (fun z => nomatch z) h
  | flt y => obtain ⟨t, q⟩ := (show ∃ t, u = Value.float y t from rx); cases q; exact PySem.W.kia_one PySem.W.kitx_float I.kIn True.intro e (fun z => nomatch z) h
  | @lst a xs ea =>
    cases (show u = Value.ref a from rx)
    obtain ⟨_, _, n, _, h1⟩ := (show ObjOk X.prog X.w H s.heap a (.lst xs) from I.hok a _ ea)
    exact PySem.W.kia_one PySem.W.kitx_list I.kIn ⟨_, h1, rfl⟩ e (fun z => nomatch z) h
  | @frz a ob xs ea =>
    cases (show u = Value.ref a from rx)
    obtain ⟨_, _, _, n, _, h1⟩ := (show ObjOk X.prog X.w H s.heap a (.frz ob (.lst xs)) from I.hok a _ ea)
    exact PySem.W.kia_one PySem.W.kitx_list I.kIn ⟨_, h1, rfl⟩ e (fun z => nomatch z) h
  | @tup a xs ea =>
    cases (show u = Value.ref a from rx)
    obtain ⟨_, _, _, p⟩ := (show ObjOk X.prog X.w H s.heap a (.tup xs) from I.hok a _ ea)
    obtain ⟨o, h1, h2, _⟩ := p
    exact PySem.W.kia_one PySem.W.kitx_tuple I.kIn ⟨o, h1, h2⟩ e (fun z => nomatch z) h
  | @dK a kvs ea =>
    cases (show u = Value.ref a from rx)
    obtain ⟨_, _, vs, _, p⟩ := (show ObjOk X.prog X.w H s.heap a (.dK kvs) from I.hok a _ ea)
    obtain ⟨o, es, ep, h1, h2, _⟩ := p
    exact PySem.W.kia_one PySem.W.kitx_dict I.kIn ⟨o, h1, h2.1⟩ e (fun z => nomatch z) h
  | @dT a kvs ea =>
    cases (show u = Value.ref a from rx)
    obtain ⟨_, _, xs, _, o, es, ep, h1, h2, _⟩ := (show ObjOk X.prog X.w H s.heap a (.dT kvs) from I.hok a _ ea)
    exact PySem.W.kia_one PySem.W.kitx_dict I.kIn ⟨o, h1, h2.1⟩ e (fun z => nomatch z) h
  | @ins a C dx fs ea cl ha hn htk hm =>
    cases (show u = Value.ref a from rx)
    obtain ⟨mA, O, _⟩ := ins_get I.hok ea
    obtain ⟨od, J, _⟩ := O.look
    exact PySem.W.kia_one (PySem.W.kitx_own (cl.get _) cl.hd ha hn htk hm) I.kIn J e (fun z => nomatch z) h
end
end L2

namespace L2
open PySem PySem.Spec PyProof.Rows

/-! ### room -/
structure Room (k : Nat) (A : Around) : Prop where
  hd : A.handled = none
  dp : A.depth + 3 * k + 5 < recursionLimit
  un : A.units + 16 * k + 200 < cLine
theorem Room.mono {j k : Nat} {A : Around} (r : Room k A) (h : j ≤ k) : Room j A := ⟨r.hd, by have := r.dp; omega, by have := r.un; omega⟩
theorem Room.deeper {k : Nat} {A : Around} (r : Room (k + 1) A) (env : Env) : Room k (A.deeper env) :=
  ⟨r.hd, by have := r.dp; show A.depth + 1 + 3 * k + 5 < _; omega, by have := r.un; show A.units + 3 + 16 * k + 200 < _; omega⟩
theorem Room.in1 {k : Nat} {A : Around} (r : Room (k + 1) A) : Room k A.in1 :=
  ⟨r.hd, by have := r.dp; show A.depth + 3 * k + 5 < _; omega, by have := r.un; show A.units + 1 + 16 * k + 200 < _; omega⟩
theorem make_depth {A : Around} {C : Addr} {us : List Value} {kw : List (Str × Value)} : (A.under (.builtin "type.__call__" ⟨.ref C :: us, kw⟩)).depth = A.depth + 1 := by
  first | rfl | simp [Around.under, Code.weight, Code.isCreation, Code.isGuard, Code.isCaller, Code.frames, Code.isFrame, guardIds]
theorem make_units {A : Around} {C : Addr} {us : List Value} {kw : List (Str × Value)} : (A.under (.builtin "type.__call__" ⟨.ref C :: us, kw⟩)).units = A.units + 1 := by
  first | rfl | simp [Around.under, Code.cUnits, Code.frames, Code.isFrame]
theorem Room.make {k : Nat} {A : Around} (r : Room (k + 1) A) (C : Addr) (us : List Value) (kw : List (Str × Value)) : Room k (A.under (.builtin "type.__call__" ⟨.ref C :: us, kw⟩)) :=
  ⟨r.hd, by have := r.dp; rw [make_depth]; omega, by have := r.un; rw [make_units]; omega⟩
theorem Room.depth {k : Nat} {A : Around} (r : Room k A) : A.depth < recursionLimit := by have := r.dp; omega
theorem Room.units {k : Nat} {A : Around} (r : Room k A) : A.units + 64 < cLine := by have := r.un; omega
theorem Room.units0 {k : Nat} {A : Around} (r : Room k A) : A.units < cLine := by have := r.un; omega

/-! ### argument lists and displays -/
def tNil : TA := fun _ H Q => Q [] H
def tCons (ta : TE) (tr : TA) : TA := fun σ H Q => ta σ H fun x H1 => tr σ H1 fun xs H2 => Q (x :: xs) H2
section
variable {X : Cx} {e : Expr} {es : List Expr} {te : TE} {t : TA} {pos : Pos}
theorem pa_nil : PA X [] tNil := fun _ _ _ _ H Q I h => Calls.spliced_nil ⟨[], H, I, .nil, h⟩
theorem pa_cons (ha : PE X e te) (hr : PA X es t) (hs : starEach (e :: es) X.env = (false, eval e X.env) :: starEach es X.env := by rfl) : PA X (e :: es) (tCons te t) := by
  intro pos pins s σ H Q I h
  rw [hs]
  show wpAny _ _ (spliced ((false, eval e X.env) :: backTo pos (starEach es X.env))) _ _ s
  refine Calls.spliced_cons (thn (ha pins s σ H _ I h) fun u s1 ⟨x, H1, I1, r1, q1⟩ => ?_)
  exact thn (hr pos pins s1 σ H1 _ I1 q1) fun us s2 ⟨xs, H2, I2, r2, q2⟩ => ⟨x :: xs, H2, I2, .cons r1 r2, q2⟩

/-- a tuple, a list of written items -/
def tTup (t : TA) : TE := fun σ H Q => t σ H fun xs H1 => xs.length ≤ sizeLine ∧ ∀ p, H1 p = none → Q (.ref p) (upd H1 p (.tup xs))
def tLst (t : TA) : TE := fun σ H Q => t σ H fun xs H1 => xs.length ≤ sizeLine ∧ ∀ p, H1 p = none → Q (.ref p) (upd H1 p (.lst xs))
theorem pe_tup {x1} (h : PA X es t) : PE X (.Tuple es x1 pos) (tTup t) := by
  intro pins s σ H Q I hq
  refine wpAny_Tuple_spliced (thn (h pos pins s σ H _ I hq) fun us s1 ⟨xs, H1, I1, r, z, q⟩ => ⟨by rw [← r.length]; exact z, ?_⟩)
  have hf : H1 s1.heap.objs.size = none := I1.hok.fresh (Nat.le_refl _)
  refine ⟨.ref s1.heap.objs.size, upd H1 s1.heap.objs.size (.tup xs), I1.laid (t' := s1.toks) (fun b u e => Heap.get?_push_of_some _ e) (Nat.le_refl _) ?_, rfl, q _ hf⟩
  exact ⟨z, us, r, ⟨_, Heap.get?_push_size _ rfl, rfl, _, rfl⟩⟩
theorem pe_lst (h : PA X es t) : PE X (.List es pos) (tLst t) := by
  intro pins s σ H Q I hq
  refine wpAny_List_spliced (thn (h pos pins s σ H _ I hq) fun us s1 ⟨xs, H1, I1, r, z, q⟩ => ⟨by rw [← r.length]; exact z, ?_⟩)
  have hf : H1 s1.heap.objs.size = none := I1.hok.fresh (Nat.le_refl _)
  refine ⟨.ref s1.heap.objs.size, upd H1 s1.heap.objs.size (.lst xs), I1.laid (t' := s1.toks) (fun b u e => Heap.get?_push_of_some _ e) (Nat.le_refl _) ?_, rfl, q _ hf⟩
  exact ⟨z, us, 0, r, Heap.get?_push_size _ rfl⟩
end

/-! ### what a def promises -/
/-- a def's promise: the bound arguments in the parameters' order, the heap, the wanted end, the wanted exception -/
abbrev Sp := List V → Hp → VK → XK → Prop
/-- how an exception lies behind a call (file 08 gives it): the callers' frames, abstract heap and state ahead of the call, the wish, the exception, the state -/
abbrev CXT := List Env → Hp → Shared → XK → Value → Shared → Prop

/-- the state at a call -/
structure Env0 (P : Program) (w : World) (K : PySem.W.Frag) (mg : Str → Option Value) (base : Heap) (A : Around) (outer : List Env) (s : Shared) (H : Hp) : Prop where
  frames : A.frames = some outer
  mod : Mod K mg base
  bs : ∀ b o, base.get? b = some o → s.heap.get? b = some o ∧ H b = none
  bsz : base.objs.size ≤ s.heap.objs.size
  funs : s.heap.FunFrames base outer
  frf : ∀ b ∈ frs outer, H b = none
  hok : HOk P w H s.heap
  bare : AllBare s.gens
/-- a call's end -/
def CE (outer : List Env) (P : Program) (w : World) (H : Hp) (s : Shared) (Q : VK) (u : Value) (s' : Shared) : Prop :=
  ∃ v H', s'.os = s.os ∧ AllBare s'.gens ∧ Un (frs outer) [] H H' s.heap s'.heap ∧ HOk P w H' s'.heap ∧ RelV v u ∧ Q v H'
def CR (CX : CXT) (outer : List Env) (P : Program) (w : World) (H : Hp) (s : Shared) (Q : VK) (E : XK) (r : Result) (s' : Shared) : Prop :=
  match r with
  | .ok (.ret u) => CE outer P w H s Q u s'
  | .ok _ => False
  | .error e => CX outer H s E e s'
structure FnOk (P : Program) (w : World) (K : PySem.W.Frag) (mg : Str → Option Value) (base : Heap) (CX : CXT) (k : Nat) (f : Addr) (fd : FuncData) (ps : List Str) (sp : Sp) : Prop where
  len : ∀ vs H Q E, sp vs H Q E → vs.length = ps.length
  run : ∀ (A : Around) (outer : List Env) (s : Shared) (H : Hp) (args : Args) (us : List Value) (vs : List V) (Q : VK) (E : XK), Room k A → Env0 P w K mg base A outer s H → BindsTo s fd args (ps.zip us) → Vals vs us → sp vs H Q E →
    codeAny (model P w) A (.call (.ref f) args) (CR CX outer P w H s Q E) s
theorem FnOk.mono {P : Program} {w : World} {K : PySem.W.Frag} {mg : Str → Option Value} {base : Heap} {CX : CXT} {j k : Nat} {f : Addr} {fd : FuncData} {ps : List Str} {sp : Sp} (F : FnOk P w K mg base CX j f fd ps sp) (h : j ≤ k) :
    FnOk P w K mg base CX k f fd ps sp := ⟨F.len, fun A outer s H args us vs Q E hr => F.run A outer s H args us vs Q E (hr.mono h)⟩
/-- a weaker promise -/
theorem FnOk.imp {P : Program} {w : World} {K : PySem.W.Frag} {mg : Str → Option Value} {base : Heap} {CX : CXT} {k : Nat} {f : Addr} {fd : FuncData} {ps : List Str} {sp sp' : Sp} (F : FnOk P w K mg base CX k f fd ps sp)
    (h : ∀ vs H Q E, sp' vs H Q E → sp vs H Q E) : FnOk P w K mg base CX k f fd ps sp' :=
  ⟨fun vs H Q E q => F.len vs H Q E (h _ _ _ _ q), fun A outer s H args us vs Q E hr he hb hv hs => F.run A outer s H args us vs Q E hr he hb hv (h _ _ _ _ hs)⟩

theorem Env0.make {P : Program} {w : World} {K : PySem.W.Frag} {mg : Str → Option Value} {base : Heap} {A : Around} {outer : List Env} {s : Shared} {H : Hp} (e : Env0 P w K mg base A outer s H) (C : Addr) (us : List Value) (kw : List (Str × Value)) :
    Env0 P w K mg base (A.under (.builtin "type.__call__" ⟨.ref C :: us, kw⟩)) outer s H := ⟨by first | exact e.frames | (simpa [Around.under, Code.envs, Code.isFrame, pushEnvs] using e.frames), e.mod, e.bs, e.bsz, e.funs, e.frf, e.hok, e.bare⟩
theorem Env0.in1 {P : Program} {w : World} {K : PySem.W.Frag} {mg : Str → Option Value} {base : Heap} {A : Around} {outer : List Env} {s : Shared} {H : Hp} (e : Env0 P w K mg base A outer s H) :
    Env0 P w K mg base A.in1 outer s H := ⟨e.frames, e.mod, e.bs, e.bsz, e.funs, e.frf, e.hok, e.bare⟩

section
variable {X : Cx} {pins : List (Addr × Obj)} {σ : St} {H : Hp} {s s' : Shared}
/-- from a body: what a callee wants -/
theorem Inv.env0 (I : Inv X pins σ H s) : Env0 X.prog X.w X.K X.mg X.base X.A X.stack s H :=
  ⟨I.ok.frames, I.ok.mod, I.bs, Nat.le_trans I.ok.bsz I.sz, I.stack, I.stkFree, I.hok, I.bare⟩
/-- behind a call -/
theorem Inv.after {Q : VK} {u : Value} (I : Inv X pins σ H s) (h : CE X.stack X.prog X.w H s Q u s') : EP X pins σ Q u s' := by
  obtain ⟨v, H', os, bare, un, hok, r, q⟩ := h
  obtain ⟨hh, g, d, t, os'⟩ := s'
  obtain rfl : os' = s.os := os
  exact ⟨v, H', I.call (h' := hh) (g' := g) (d' := d) (t' := t) (ch := []) un hok bare (fun b z => absurd z (by simp)), r, q⟩
end

/-! ### calls -/
/-- f(..): the written arguments, then the defaults dvs; E: what is wanted of an exception -/
def tCall (sp : Sp) (dvs : List V) (E : XK) (t : TA) : TE := fun σ H Q => t σ H fun vs H1 => sp (vs ++ dvs) H1 Q E
/-- o.m(..) of an instance of the class at C -/
def tMeth (C : Addr) (m : Str) (sp : Sp) (dvs : List V) (E : XK) (ta : TE) (t : TA) : TE := fun σ H Q => ta σ H fun x H1 => ∃ a dx fs, x = .ref a ∧ H1 a = some (.ins C dx fs) ∧ fs.lookup m = none ∧
  t σ H1 fun vs H2 => sp (x :: (vs ++ dvs)) H2 Q E
/-- C(..): a new instance and its dict, then __init__ -/
def tMake (C : Addr) (sp : Sp) (dvs : List V) (E : XK) (t : TA) : TE := fun σ H Q => t σ H fun vs H1 => ∀ x dx, H1 x = none → H1 dx = none → dx ≠ x →
  sp (.ref x :: (vs ++ dvs)) (upd (upd H1 dx (.own x)) x (.ins C dx [])) (fun v H2 => v = .non ∧ Q (.ref x) H2) E

/-- how the parameters are bound: us the positional arguments, kw the keywords' values by name, ds the defaults that fill up -/
def Binds (K : PySem.W.Frag) (fd : FuncData) (ps : List Str) (ds : List Value) : Prop :=
  ∀ (s : Shared) (us : List Value), K.In s.heap → (us ++ ds).length = ps.length → BindsTo s fd ⟨us, []⟩ (ps.zip (us ++ ds))
/-- every parameter is given -/
theorem Binds.all {K : PySem.W.Frag} {fd : FuncData} {ps : List Str} (h : ∀ us : List Value, us.length = ps.length → bindArgs fd ⟨us, []⟩ = pure (ps.zip us)) : Binds K fd ps [] := fun s us _ hl => by
  rw [List.append_nil] at hl ⊢
  exact .of_eq (h us hl)

/-- an exception of a callee reaches what this body wants of exceptions -/
def Passes (CX : CXT) (X : Cx) (E : XK) : Prop := ∀ (pins : List (Addr × Obj)) (σ : St) (H : Hp) (s : Shared) (e : Value) (s' : Shared), Inv X pins σ H s → CX X.stack H s E e s' → X.xe e s'

section
variable {X : Cx} {CX : CXT} {k : Nat} {f C : Addr} {fd : FuncData} {ps : List Str} {sp : Sp} {dvs : List V} {ds : List Value} {E : XK} {x m : Str} {p pos apos : Pos} {e o : Expr} {es : List Expr} {ta : TE} {t : TA}

/-- the callee runs -/
theorem run_fn {pins : List (Addr × Obj)} {σ : St} {H : Hp} {s : Shared} {Q : VK} {us : List Value} {vs : List V} (F : FnOk X.prog X.w X.K X.mg X.base CX k f fd ps sp) (hr : Room k X.A) (hb : Binds X.K fd ps ds) (hd : Vals dvs ds) (hx : Passes CX X E)
    (I : Inv X pins σ H s) (r : Vals vs us) (h : sp (vs ++ dvs) H Q E) : wpAny (model X.prog X.w) X.A (call (.ref f) us) (EP X pins σ Q) X.xe s := by
  have r2 : Vals (vs ++ dvs) (us ++ ds) := r.append hd
  have hl : (us ++ ds).length = ps.length := by rw [← r2.length]; exact F.len _ _ _ _ h
  refine wpAny_call (codeAny_mono (F.run X.A X.stack s H ⟨us, []⟩ (us ++ ds) (vs ++ dvs) Q E hr I.env0 (hb s us I.kIn hl) r2 h) fun r s' hq => ?_)
  cases r with
  | error e => exact hx pins σ H s e s' I hq
  | ok fl =>
    cases fl with
    | ret u => exact I.after hq
    | next => exact False.elim hq
    | brk => exact False.elim hq
    | cont => exact False.elim hq

theorem pe_call (F : FnOk X.prog X.w X.K X.mg X.base CX k f fd ps sp) (hr : Room k X.A) (hg : Gl X x) (hm : X.mg x = some (.ref f)) (hk : PySem.W.keepIn X.K (.ref f) = true) (hb : Binds X.K fd ps ds) (hd : Vals dvs ds) (hx : Passes CX X E)
    (ha : PA X (e :: es) t) (hdb : (x == ("__debug__" : Str)) = false := by decide) (he : starEach (e :: es) X.env = (false, eval e X.env) :: starEach es X.env := by rfl) (hpl : (backTo pos (starEach es X.env)).any (·.1) = false := by rfl) :
    PE X (.Call (.Name x p) (e :: es) [] pos) (tCall sp dvs E t) := by
  intro pins s σ H Q I h
  refine wpAny_Call_Name_kw (ld_glob I hg hm ?_ hdb)
  refine PySem.W.callWith_K (h₀ := X.base) I.ok.mod.kin hk (thn (ha pos pins s σ H _ I h) fun us s1 ⟨vs, H1, I1, r, q⟩ => ⟨I1.kIn, ?_⟩) he hpl
  exact run_fn F hr hb hd hx I1 r q
theorem pe_call0 (F : FnOk X.prog X.w X.K X.mg X.base CX k f fd ps sp) (hr : Room k X.A) (hg : Gl X x) (hm : X.mg x = some (.ref f)) (hk : PySem.W.keepIn X.K (.ref f) = true) (hb : Binds X.K fd ps ds) (hd : Vals dvs ds) (hx : Passes CX X E)
    (hdb : (x == ("__debug__" : Str)) = false := by decide) : PE X (.Call (.Name x p) [] [] pos) (tCall sp dvs E tNil) := by
  intro pins s σ H Q I h
  refine wpAny_Call_Name_kw (ld_glob I hg hm ?_ hdb)
  exact PySem.W.callWith_K0 I.kIn hk (run_fn (us := []) F hr hb hd hx I .nil h)

/-- o.m(e, ..) -/
theorem pe_meth {pl : Sem Bool} (he : PE X o ta) (c : Cls X.K C) (hm : Meth X.K C m f) (F : FnOk X.prog X.w X.K X.mg X.base CX k f fd ps sp) (hr : Room k X.A) (hb : Binds X.K fd ps ds) (hd : Vals dvs ds) (hx : Passes CX X E) (ha : PA X (e :: es) t)
    (hst : starEach (e :: es) X.env = (false, eval e X.env) :: starEach es X.env := by rfl) (hpl : (backTo pos (starEach es X.env)).any (·.1) = false := by rfl)
    (ht : eval (.Call (.Attribute o m apos) (e :: es) [] pos) X.env = (do
      let ov ← eval o X.env
      standAt apos.atName
      let (f, first) ← holding [ov] (getMethod ov m pl)
      callWith pos f first (backTo pos (starEach (e :: es) X.env)) (backToKw pos (keywordEach [] X.env))) := by rfl) :
    PE X (.Call (.Attribute o m apos) (e :: es) [] pos) (tMeth C m sp dvs E ta t) := by
  intro pins s σ H Q I h
  refine PySem.W.methodCall_KW (pl := pl) (thn (he pins s σ H _ I h) fun u s1 ⟨x, H1, I1, rx, a, dx, fs, ex, ea, l, q⟩ => ?_) ht
  subst ex
  obtain rfl : u = Value.ref a := rx
  refine getmeth_ok I1 ea c hm l ?_
  refine PySem.W.callWith_K (first := [.ref a]) (h₀ := X.base) I.ok.mod.kin hm.kp (thn (ha pos pins s1 σ H1 _ I1 q) fun us s2 ⟨vs, H2, I2, r, q2⟩ => ⟨I2.kIn, ?_⟩) hst hpl
  exact run_fn (us := .ref a :: us) (vs := .ref a :: vs) F hr hb hd hx I2 (.cons rfl r) q2
/-- o.m() -/
theorem pe_meth0 {pl : Sem Bool} (he : PE X o ta) (c : Cls X.K C) (hm : Meth X.K C m f) (F : FnOk X.prog X.w X.K X.mg X.base CX k f fd ps sp) (hr : Room k X.A) (hb : Binds X.K fd ps ds) (hd : Vals dvs ds) (hx : Passes CX X E)
    (ht : eval (.Call (.Attribute o m apos) [] [] pos) X.env = (do
      let ov ← eval o X.env
      standAt apos.atName
      let (f, first) ← holding [ov] (getMethod ov m pl)
      callWith pos f first (backTo pos (starEach [] X.env)) (backToKw pos (keywordEach [] X.env))) := by rfl) :
    PE X (.Call (.Attribute o m apos) [] [] pos) (tMeth C m sp dvs E ta tNil) := by
  intro pins s σ H Q I h
  refine PySem.W.methodCall_KW (pl := pl) (thn (he pins s σ H _ I h) fun u s1 ⟨x, H1, I1, rx, a, dx, fs, ex, ea, l, q⟩ => ?_) ht
  subst ex
  obtain rfl : u = Value.ref a := rx
  refine getmeth_ok I1 ea c hm l ?_
  exact PySem.W.callWith_K0 (first := [.ref a]) I1.kIn hm.kp (run_fn (us := [.ref a]) (vs := [.ref a]) F hr hb hd hx I1 (.cons rfl .nil) q)

/-- what a class must have to be made -/
structure Mk (K : PySem.W.Frag) (C f : Addr) : Prop where
  makes : PySem.W.makesIn K C = true
  init : PySem.W.findIn K (.ref C) "__init__" = some (some (.ref f))
  fn : PySem.W.isFn K (.ref f) = true
  kp : PySem.W.keepIn K (.ref C) = true

theorem run_make {pins : List (Addr × Obj)} {σ : St} {H : Hp} {s : Shared} {Q : VK} {us : List Value} {vs : List V} (M : Mk X.K C f) (F : FnOk X.prog X.w X.K X.mg X.base CX k f fd ps sp) (hr : Room (k + 1) X.A) (hb : Binds X.K fd ps ds) (hd : Vals dvs ds)
    (hx : Passes CX X E) (I : Inv X pins σ H s) (r : Vals vs us)
    (h : ∀ x dx, H x = none → H dx = none → dx ≠ x → sp (.ref x :: (vs ++ dvs)) (upd (upd H dx (.own x)) x (.ins C dx [])) (fun v H2 => v = .non ∧ Q (.ref x) H2) E) :
    wpAny (model X.prog X.w) X.A (call (.ref C) us) (EP X pins σ Q) X.xe s := by
  have hq := h (s.heap.objs.size + 1) s.heap.objs.size (I.hok.fresh (Nat.le_succ _)) (I.hok.fresh (Nat.le_refl _)) (Nat.ne_of_lt (Nat.lt_succ_self _))
  have I2 := Inv.made (C := C) I
  have r2 : Vals (V.ref (s.heap.objs.size + 1) :: (vs ++ dvs)) (Value.ref (s.heap.objs.size + 1) :: (us ++ ds)) := .cons rfl (r.append hd)
  have hl : (Value.ref (s.heap.objs.size + 1) :: us ++ ds).length = ps.length := by
    have e := r2.length
    rw [F.len _ _ _ _ hq] at e
    exact e.symm
  refine wpAny_call (make_map (f := f) I.kIn M.makes M.init (beq_iff_eq.mp M.fn) (codeAny_mono (F.run _ X.stack _ _ ⟨Value.ref (s.heap.objs.size + 1) :: us, []⟩ (Value.ref (s.heap.objs.size + 1) :: (us ++ ds)) _ _ E (hr.make C us [])
    (I2.env0.make C us []) (hb _ (Value.ref (s.heap.objs.size + 1) :: us) I2.kIn hl) r2 hq) fun r s' hq' => ?_))
  cases r with
  | error e => exact hx pins σ _ _ e s' I2 hq'
  | ok fl =>
    cases fl with
    | ret u =>
      obtain ⟨v, H', I3, rv, ev, q3⟩ := I2.after hq'
      subst ev
      exact ⟨rv, ⟨V.ref (s.heap.objs.size + 1), H', I3, rfl, q3⟩⟩
    | next => exact False.elim hq'
    | brk => exact False.elim hq'
    | cont => exact False.elim hq'
theorem pe_make (M : Mk X.K C f) (F : FnOk X.prog X.w X.K X.mg X.base CX k f fd ps sp) (hr : Room (k + 1) X.A) (hg : Gl X x) (hm : X.mg x = some (.ref C)) (hb : Binds X.K fd ps ds) (hd : Vals dvs ds) (hx : Passes CX X E)
    (ha : PA X (e :: es) t) (hdb : (x == ("__debug__" : Str)) = false := by decide) (he : starEach (e :: es) X.env = (false, eval e X.env) :: starEach es X.env := by rfl) (hpl : (backTo pos (starEach es X.env)).any (·.1) = false := by rfl) :
    PE X (.Call (.Name x p) (e :: es) [] pos) (tMake C sp dvs E t) := by
  intro pins s σ H Q I h
  refine wpAny_Call_Name_kw (ld_glob I hg hm ?_ hdb)
  refine PySem.W.callWith_K (h₀ := X.base) I.ok.mod.kin M.kp (thn (ha pos pins s σ H _ I h) fun us s1 ⟨vs, H1, I1, r, q⟩ => ⟨I1.kIn, ?_⟩) he hpl
  exact run_make M F hr hb hd hx I1 r q
theorem pe_make0 (M : Mk X.K C f) (F : FnOk X.prog X.w X.K X.mg X.base CX k f fd ps sp) (hr : Room (k + 1) X.A) (hg : Gl X x) (hm : X.mg x = some (.ref C)) (hb : Binds X.K fd ps ds) (hd : Vals dvs ds) (hx : Passes CX X E)
    (hdb : (x == ("__debug__" : Str)) = false := by decide) : PE X (.Call (.Name x p) [] [] pos) (tMake C sp dvs E tNil) := by
  intro pins s σ H Q I h
  refine wpAny_Call_Name_kw (ld_glob I hg hm ?_ hdb)
  exact PySem.W.callWith_K0 I.kIn M.kp (run_make (us := []) M F hr hb hd hx I .nil h)
end

/-! ### keywords -/
/-- the values of the keywords, from the left -/
def PK (X : Cx) (kws : List Keyword) (t : TA) : Prop :=
  ∀ (pos : Pos) (pins : List (Addr × Obj)) (s : Shared) (σ : St) (H : Hp) (Q : List V → Hp → Prop), Inv X pins σ H s → t σ H Q → wpAny (model X.prog X.w) X.A (evalAll ((backToKw pos (keywordEach kws X.env)).map (·.2))) (AP X pins σ Q) X.xe s
section
variable {X : Cx} {CX : CXT} {k : Nat} {f C : Addr} {fd : FuncData} {ps ks : List Str} {sp : Sp} {E : XK} {x m : Str} {p pos apos kpos : Pos} {e o : Expr} {es : List Expr} {kws : List Keyword} {te ta : TE} {t tk : TA} {nm : Option Str}
theorem pk_nil : PK X [] tNil := fun _ _ _ _ H Q I h => wpAny_evalAll_nil ⟨[], H, I, .nil, h⟩
theorem pk_cons (ha : PE X e te) (hr : PK X kws t) : PK X (⟨nm, e, kpos⟩ :: kws) (tCons te t) := by
  intro pos pins s σ H Q I h
  show wpAny _ _ (evalAll ((do let v ← eval e X.env; standAt pos; pure v) :: (backToKw pos (keywordEach kws X.env)).map (·.2))) _ _ s
  refine wpAny_evalAll_cons (wpAny_bind (thn (ha pins s σ H _ I h) fun u s1 ⟨x, H1, I1, r1, q1⟩ => wpAny_bind (wpAny_standAt (wpAny_pure ?_))))
  exact thn (hr pos pins s1 σ H1 _ I1 q1) fun us s2 ⟨xs, H2, I2, r2, q2⟩ => ⟨x :: xs, H2, I2, .cons r1 r2, q2⟩

/-- how a call with keywords binds: g puts the positional values us and the keywords' values ws (names ks) in the parameters' order, defaults among them -/
structure KBinds (K : PySem.W.Frag) (fd : FuncData) (ps ks : List Str) (g : List Value → List Value → List Value) (gV : List V → List V → List V) : Prop where
  to : ∀ (s : Shared) (us ws : List Value), K.In s.heap → (g us ws).length = ps.length → BindsTo s fd ⟨us, ks.zip ws⟩ (ps.zip (g us ws))
  rel : ∀ {vs : List V} {us : List Value} {zs : List V} {ws : List Value}, Vals vs us → Vals zs ws → Vals (gV vs zs) (g us ws)
def tCallK (sp : Sp) (gV : List V → List V → List V) (E : XK) (t tk : TA) : TE := fun σ H Q => t σ H fun vs H1 => tk σ H1 fun zs H2 => sp (gV vs zs) H2 Q E
variable {g : List Value → List Value → List Value} {gV : List V → List V → List V}
theorem run_fnk {pins : List (Addr × Obj)} {σ : St} {H : Hp} {s : Shared} {Q : VK} {us ws : List Value} {vs zs : List V} (F : FnOk X.prog X.w X.K X.mg X.base CX k f fd ps sp) (hr : Room k X.A) (hb : KBinds X.K fd ps ks g gV) (hx : Passes CX X E)
    (I : Inv X pins σ H s) (r : Vals vs us) (rz : Vals zs ws) (h : sp (gV vs zs) H Q E) : wpAny (model X.prog X.w) X.A (call (.ref f) us (ks.zip ws)) (EP X pins σ Q) X.xe s := by
  have r2 := hb.rel r rz
  have hl : (g us ws).length = ps.length := by rw [← r2.length]; exact F.len _ _ _ _ h
  refine wpAny_call (codeAny_mono (F.run X.A X.stack s H ⟨us, ks.zip ws⟩ (g us ws) (gV vs zs) Q E hr I.env0 (hb.to s us ws I.kIn hl) r2 h) fun r s' hq => ?_)
  cases r with
  | error e => exact hx pins σ H s e s' I hq
  | ok fl =>
    cases fl with
    | ret u => exact I.after hq
    | next => exact False.elim hq
    | brk => exact False.elim hq
    | cont => exact False.elim hq
/-- f(e, .., k = v, ..) -/
theorem pe_callK (F : FnOk X.prog X.w X.K X.mg X.base CX k f fd ps sp) (hr : Room k X.A) (hg : Gl X x) (hm : X.mg x = some (.ref f)) (hk : PySem.W.keepIn X.K (.ref f) = true) (hb : KBinds X.K fd ps ks g gV) (hx : Passes CX X E)
    (ha : PA X (e :: es) t) (hkw : PK X kws tk) (hall : (backToKw pos (keywordEach kws X.env)).all (·.1.isSome) = true := by rfl) (hks : (backToKw pos (keywordEach kws X.env)).filterMap (·.1) = ks := by rfl)
    (hdb : (x == ("__debug__" : Str)) = false := by decide) (he : starEach (e :: es) X.env = (false, eval e X.env) :: starEach es X.env := by rfl)
    (hpl : ((backTo pos (starEach (e :: es) X.env)).any (·.1) || (backToKw pos (keywordEach kws X.env)).any (·.1.isNone)) = false := by rfl) :
    PE X (.Call (.Name x p) (e :: es) kws pos) (tCallK sp gV E t tk) := by
  intro pins s σ H Q I h
  refine wpAny_Call_Name_kw (ld_glob I hg hm ?_ hdb)
  refine PySem.W.callWith_KW (h₀ := X.base) I.ok.mod.kin hk hall (thn (ha pos pins s σ H _ I h) fun us s1 ⟨vs, H1, I1, r, q⟩ => ?_) hpl he
  refine thn (hkw pos pins s1 σ H1 _ I1 q) fun ws s2 ⟨zs, H2, I2, rz, q2⟩ => ⟨I2.kIn, ?_⟩
  rw [hks]
  exact run_fnk F hr hb hx I2 r rz q2
end

/-! ### a def's body keeps its promise -/
/-- names: the parameters first -/
structure FnScope (N P : List Str) (sc : Scope) : Prop where
  kind : sc.kind = .function
  co : sc.isCoroutine = false
  gen : sc.isGenerator = false
  nd : N.Nodup
  pre : N.take P.length = P
  par : ∀ x ∈ P, sc.names.lookup x = some .local ∨ sc.names.lookup x = some .cell
  nofree : ∀ y ∈ sc.names, y.2 ≠ .free

theorem bindL_out {kindOf : Str → Option NameKind} {x : Str} : ∀ {binds : List (Str × Value)} {m : Str → Option Value}, (∀ v, (x, v) ∉ binds) → bindL kindOf binds m x = m x
  | [], _, _ => rfl
  | (n, v) :: r, m, h => by
    unfold bindL
    rw [bindL_out fun w hw => h w (List.mem_cons_of_mem _ hw)]
    split
    · have : x ≠ n := by rintro rfl; exact h v List.mem_cons_self
      simp [this]
    · rfl
theorem bindC_out {kindOf : Str → Option NameKind} {x : Str} : ∀ {binds : List (Str × Value)} {m : Str → Option Value}, (∀ v, (x, v) ∉ binds) → bindC kindOf binds m x = m x
  | [], _, _ => rfl
  | (n, v) :: r, m, h => by
    unfold bindC
    rw [bindC_out fun w hw => h w (List.mem_cons_of_mem _ hw)]
    split
    · rfl
    · have : x ≠ n := by rintro rfl; exact h v List.mem_cons_self
      simp [this]
theorem bindL_get {kindOf : Str → Option NameKind} {x : Str} {v : Value} : ∀ {P : List Str} {vs : List Value} {i : Nat} {m : Str → Option Value}, P.Nodup → P[i]? = some x → vs[i]? = some v → kindOf x = some .local →
    bindL kindOf (P.zip vs) m x = some v
  | [], _, _, _, _, h, _, _ => by simp at h
  | _ :: _, [], _, _, _, _, h, _ => by simp at h
  | p :: P, w :: vs, 0, m, nd, h1, h2, hk => by
    simp at h1 h2; subst h1; subst h2
    show bindL kindOf ((p, w) :: P.zip vs) m p = _
    unfold bindL
    rw [bindL_out fun v hv => (List.nodup_cons.mp nd).1 (List.of_mem_zip hv).1, if_pos hk]
    simp
  | p :: P, w :: vs, i + 1, m, nd, h1, h2, hk => by
    show bindL kindOf ((p, w) :: P.zip vs) m x = _
    unfold bindL
    exact bindL_get (i := i) (List.nodup_cons.mp nd).2 (by simpa using h1) (by simpa using h2) hk
theorem bindC_get {kindOf : Str → Option NameKind} {x : Str} {v : Value} : ∀ {P : List Str} {vs : List Value} {i : Nat} {m : Str → Option Value}, P.Nodup → P[i]? = some x → vs[i]? = some v → kindOf x ≠ some .local →
    bindC kindOf (P.zip vs) m x = some v
  | [], _, _, _, _, h, _, _ => by simp at h
  | _ :: _, [], _, _, _, _, h, _ => by simp at h
  | p :: P, w :: vs, 0, m, nd, h1, h2, hk => by
    simp at h1 h2; subst h1; subst h2
    show bindC kindOf ((p, w) :: P.zip vs) m p = _
    unfold bindC
    rw [bindC_out fun v hv => (List.nodup_cons.mp nd).1 (List.of_mem_zip hv).1, if_neg hk]
    simp
  | p :: P, w :: vs, i + 1, m, nd, h1, h2, hk => by
    show bindC kindOf ((p, w) :: P.zip vs) m x = _
    unfold bindC
    exact bindC_get (i := i) (List.nodup_cons.mp nd).2 (by simpa using h1) (by simpa using h2) hk

/-- the names' values at the entry -/
def start (N : List Str) (vs : List V) : St := vs.map some ++ List.replicate (N.length - vs.length) none

/-- the context of a def's body, at its entry; an exception leaves the frame, then lies as CX says -/
def cxOf (CX : CXT) (P : Program) (w : World) (K : PySem.W.Frag) (mg : Str → Option Value) (base : Heap) (N : List Str) (qual : Str) (scope : Scope) (f : Addr) (cd : Value) (A : Around) (outer : List Env) (s : Shared) (H : Hp) (E : XK) : Cx where
  prog := P
  w := w
  K := K
  mg := mg
  base := base
  A := A.deeper (envOfC qual scope s.heap.objs.size f cd)
  N := N
  s₀ := s
  H₀ := H
  env := envOfC qual scope s.heap.objs.size f cd
  outer := outer
  stack := envOfC qual scope s.heap.objs.size f cd :: outer
  ex := []
  calm := true
  fn := fun _ => true
  pn := []
  xe := fun e s' => wpAny (model P w) (A.deeper (envOfC qual scope s.heap.objs.size f cd)) (leaving (envOfC qual scope s.heap.objs.size f cd) e) (fun _ s'' => CX outer H s E e s'') (fun e' s'' => CX outer H s E e' s'') s'

theorem cell_has {sc : Scope} {n : Nat} {x : Str} (h : sc.names.lookup x = some .cell) : ∃ c, (cellsFrom n sc.names []).lookup x = some c := by
  have q := PySem.W.cellsFrom_some sc.names n [] (.inl h)
  exact Option.isSome_iff_exists.mp q

theorem inv_start {CX : CXT} {P : Program} {w : World} {K : PySem.W.Frag} {mg : Str → Option Value} {base : Heap} {N ps : List Str} {qual : Str} {scope : Scope} {f : Addr} {cd : Value} {A : Around} {outer : List Env} {s s1 : Shared} {H : Hp} {E : XK} {us : List Value} {vs : List V}
    (S : FnScope N ps scope) (hd : A.handled = none) (e0 : Env0 P w K mg base A outer s H) (hl : vs.length = ps.length) (r : Vals vs us)
    (x : InCallC s s.heap.objs.size (bindL (envOfC qual scope s.heap.objs.size f cd).kindOf (ps.zip us) fun _ => none) (cellsFrom (s.heap.objs.size + 1) scope.names []) (bindC (envOfC qual scope s.heap.objs.size f cd).kindOf (ps.zip us) fun _ => none) s1) :
    Inv (cxOf CX P w K mg base N qual scope f cd A outer s H E) [] (start N vs) H s1 := by
  have hpl : ps.length ≤ N.length := by have := congrArg List.length S.pre; rw [List.length_take] at this; omega
  obtain ⟨h1, tk, rfl, hk⟩ := x.done
  have noA : ∀ b : Addr, b ∉ (cxOf CX P w K mg base N qual scope f cd A outer s H E).ex := fun b z => absurd (show b ∈ ([] : List Addr) from z) (by simp)
  refine ⟨⟨e0.mod, S.kind, rfl, rfl, Nat.le_refl _, fun y z c h1 h2 => ?_, fun y hy => ?_, fun y c _ h => ?_, fun _ => hd, Around.frames_deeper e0.frames, .inr ⟨rfl, rfl⟩, fun b z => absurd z (noA b), e0.bs, e0.bsz, fun b _ _ => noA b, fun b z => absurd z (noA b), e0.funs, e0.frf⟩,
    rfl, e0.bare, Un.kept hk, ⟨_, x.toInCall.ns, fun i y v h1 h2 h3 => ?_⟩, fun y c h => ⟨_, x.cell y c h⟩, e0.hok.fresh (Nat.le_refl _), fun y c h => ?_, fun p hp => absurd (show p ∈ ([] : List (Addr × Obj)) from hp) (by simp), e0.hok.kept hk, ?_⟩
  · exact name_of_addr x.apart (PySem.mem_of_lookup h1) (PySem.mem_of_lookup h2)
  · have hy : scope.names.lookup y = some .cell ∨ scope.names.lookup y = some .free := hy
    rcases hy with hy | hy
    · exact cell_has hy
    · exact absurd rfl (S.nofree _ (PySem.mem_of_lookup hy))
  · exact Nat.le_of_lt (x.above y c (PySem.mem_of_lookup h))
  · have hi : i < vs.length := by
      unfold start at h2
      by_cases hi : i < vs.length
      · exact hi
      · rw [List.getElem?_append_right (by simpa using hi)] at h2
        rw [List.getElem?_replicate] at h2
        split at h2 <;> cases h2
    have ha : vs[i]? = some v := by
      unfold start at h2
      rw [List.getElem?_append_left (by simpa using hi), List.getElem?_map] at h2
      cases e : vs[i]? with
      | none => rw [e] at h2; cases h2
      | some a => rw [e] at h2; cases h2; rfl
    obtain ⟨u, hu, rv⟩ := r.get ha
    have hp : ps[i]? = some y := by
      rw [← S.pre, List.getElem?_take_of_lt (by omega)]; exact h1
    have ndP : ps.Nodup := by rw [← S.pre]; exact S.nd.sublist (List.take_sublist _ _)
    refine ⟨u, rv, ?_⟩
    rcases S.par y (List.mem_of_getElem? hp) with k | k
    · exact .inl ⟨k, bindL_get ndP hp hu k⟩
    · obtain ⟨c, e⟩ := cell_has (n := s.heap.objs.size + 1) k
      refine .inr ⟨.inl k, c, e, ?_⟩
      have q := x.cell y c e
      rw [bindC_get ndP hp hu (by show scope.names.lookup y ≠ _; rw [k]; decide)] at q
      exact q
  · exact e0.hok.fresh (Nat.le_of_lt (x.above y c (PySem.mem_of_lookup h)))
  · unfold start
    show _ = N.length
    rw [List.length_append, List.length_map, List.length_replicate]
    omega

/-- THE RULE: a def (or a method) of the text, by its body. The body's reading t is chosen for each entry; it is run at the parameters' values -/
theorem fn_of {CX : CXT} {P : Program} {w : World} {K : PySem.W.Frag} {mg : Str → Option Value} {base : Heap} {k : Nat} {f : Addr} {name qual : Str} {params : Arguments} {body : List Stmt} {scope : Scope} {dV kV doc pm cdv ct oc : Value} {an od : Option Addr}
    {osl : Array (Option Value)} {N ps : List Str} {sp : Sp} (lk : K.lookup f = some ⟨oc, od, .func (PySem.W.fnOf name qual params body scope dV kV doc pm an cdv ct), osl⟩) (hcd : PySem.W.codeIn K cdv qual = true) (S : FnScope N ps scope)
    (len : ∀ vs H Q E, sp vs H Q E → vs.length = ps.length)
    (hbody : ∀ (A : Around) (outer : List Env) (s : Shared) (H : Hp) (vs : List V) (Q : VK) (E : XK), Room k (A.deeper (envOfC qual scope s.heap.objs.size f cdv)) → sp vs H Q E →
      ∃ t, PSs (cxOf CX P w K mg base N qual scope f cdv A outer s H E) body t ∧ t { nx := fun _ H' => Q .non H', rt := Q } (start N vs) H) :
    FnOk P w K mg base CX (k + 1) f (PySem.W.fnOf name qual params body scope dV kV doc pm an cdv ct) ps sp := by
  refine ⟨len, fun A outer s H args us vs Q E hr e0 hb r hsp => ?_⟩
  have hl := len _ _ _ _ hsp
  have KX : K.In s.heap := e0.mod.kin.keeps fun b o e => (e0.bs b o e).1
  have lim : s.heap.NoLimit := e0.mod.nolimit.keeps fun b o e => (e0.bs b o e).1
  have hkind : ∀ y ∈ ps.zip us, scope.names.lookup y.1 = some .local ∨ (scope.names.lookup y.1 = some .cell ∧ ((cellsFrom (s.heap.objs.size + 1) scope.names []).lookup y.1).isSome = true) := fun ⟨n, v⟩ hy => by
    rcases S.par n (List.of_mem_zip hy).1 with q | q
    · exact .inl q
    · exact .inr ⟨q, PySem.W.cellsFrom_some _ _ _ (.inl q)⟩
  refine codeAny_call_function hr.depth (KX _ _ lk) rfl S.co S.gen rfl (PySem.W.codeRec_of KX hcd) (hb _ _ _ _ ?_)
  refine wpAny_newFunctionEnv_cells S.kind hkind fun env he s1 x => ?_
  subst he
  refine ⟨lim.keeps x.toInCall.keep, codeAny_func ?_⟩
  obtain ⟨t, ht, hq⟩ := hbody A outer s H vs Q E (hr.deeper _) hsp
  have I : Inv (cxOf CX P w K mg base N qual scope f cdv A outer s H E) [] (start N vs) H s1 := inv_start S hr.hd e0 hl r x
  refine wpAny_mono (ht [] s1 (start N vs) H _ I hq) (fun fl s' hs => ?_) fun e s' hs => hs
  have fin : ∀ {σ' : St} {H' : Hp} {v : V} {u : Value}, Inv (cxOf CX P w K mg base N qual scope f cdv A outer s H E) [] σ' H' s' → RelV v u → Q v H' → CE outer P w H s Q u s' :=
    fun {σ' H' v u} J rv q => ⟨v, H', J.os, J.bare, J.base, J.hok, rv, q⟩
  cases fl with
  | ret u =>
    obtain ⟨v, σ', H', J, rv, q⟩ := hs
    exact fin J rv q
  | next =>
    obtain ⟨σ', H', J, q⟩ := hs
    exact fin (v := V.non) (u := Value.none) J rfl q
  | brk =>
    obtain ⟨_, _, _, q⟩ := hs
    exact False.elim q
  | cont =>
    obtain ⟨_, _, _, q⟩ := hs
    exact False.elim q
end L2

namespace L2
open PySem PySem.Spec PyProof.Rows
section
variable {X : Cx} {x : Str} {p pos : Pos} {e : Expr} {es : List Expr} {t : TA} {id T : String} {r : List V → Hp → VK → Prop}

def tCB (r : List V → Hp → VK → Prop) (t : TA) : TE := fun σ H Q => t σ H fun vs H1 => r vs H1 Q
/-- f(e, ..), f a built-in function -/
theorem pe_callB (hc : CallR X (.builtin id) r) (hg : Gl X x) (hm : X.mg x = none) (hv : bootBuiltins x = some (.builtin id)) (ha : PA X (e :: es) t) (hn : x ≠ "__name__" := by decide) (hdb : (x == ("__debug__" : Str)) = false := by decide)
    (he : starEach (e :: es) X.env = (false, eval e X.env) :: starEach es X.env := by rfl) (hpl : (backTo pos (starEach es X.env)).any (·.1) = false := by rfl) : PE X (.Call (.Name x p) (e :: es) [] pos) (tCB r t) := by
  intro pins s σ H Q I h
  refine wpAny_Call_Name_kw (ld_blt I hg hm hv ?_ hn hdb)
  exact PyProof.Rows.callWith_builtin1 (thn (ha pos pins s σ H _ I h) fun us s1 ⟨vs, H1, I1, r1, q1⟩ => hc pins s1 σ H1 vs us Q I1 r1 q1) he hpl
/-- T(e, ..), T a built-in type -/
theorem pe_callTy (hc : CallR X (.type T) r) (hg : Gl X x) (hm : X.mg x = none) (hv : bootBuiltins x = some (.type T)) (ha : PA X (e :: es) t) (hn : x ≠ "__name__" := by decide) (hdb : (x == ("__debug__" : Str)) = false := by decide)
    (he : starEach (e :: es) X.env = (false, eval e X.env) :: starEach es X.env := by rfl) (hpl : (backTo pos (starEach es X.env)).any (·.1) = false := by rfl) : PE X (.Call (.Name x p) (e :: es) [] pos) (tCB r t) := by
  intro pins s σ H Q I h
  refine wpAny_Call_Name_kw (ld_blt I hg hm hv ?_ hn hdb)
  exact PyProof.Rows.callWith_type1 (thn (ha pos pins s σ H _ I h) fun us s1 ⟨vs, H1, I1, r1, q1⟩ => hc pins s1 σ H1 vs us Q I1 r1 q1) he hpl
/-- T() -/
theorem pe_callTy0 (hc : CallR X (.type T) r) (hg : Gl X x) (hm : X.mg x = none) (hv : bootBuiltins x = some (.type T)) (hn : x ≠ "__name__" := by decide) (hdb : (x == ("__debug__" : Str)) = false := by decide) :
    PE X (.Call (.Name x p) [] [] pos) (tCB r tNil) := by
  intro pins s σ H Q I h
  refine wpAny_Call_Name_kw (ld_blt I hg hm hv ?_ hn hdb)
  exact PyProof.Rows.callWith_type0 (hc pins s σ H [] [] Q I .nil h)
end
end L2

namespace HT
open PySem PyProof.Rows

/-- t < u of tuples of ints -/
def lexLt : List Int → List Int → Bool
  | [], [] => false
  | [], _ :: _ => true
  | _ :: _, [] => false
  | x :: xs, y :: ys => if x = y then lexLt xs ys else decide (x < y)
theorem lexLt_cons (x y : Int) (xs ys : List Int) : lexLt (x :: xs) (y :: ys) = if x = y then lexLt xs ys else decide (x < y) := rfl
theorem lexLt_nil_nil : lexLt [] [] = false := rfl
theorem lexLt_nil_cons (y : Int) (ys : List Int) : lexLt [] (y :: ys) = true := rfl
theorem lexLt_cons_nil (x : Int) (xs : List Int) : lexLt (x :: xs) [] = false := rfl

theorem eqAt_int (A : Around) (s : Shared) (a : Int) (t : Tok) (c : Int) (u : Tok) : ∃ e, SeqAt.EqAt A s (.int a t) (.int c u) e ∧ (e = true ↔ a = c) :=
  ⟨(a == c), SeqAt.EqAt.int_int a t c u, by simp⟩
theorem rcLt_int (A : Around) (s : Shared) (a : Int) (t : Tok) (c : Int) (u : Tok) (prog : Program) (w : World) (E : Value → Shared → Prop) (Q : Value → Shared → Prop) (h : Q (.bool (decide (a < c))) s) :
    wpAny (model prog w) A (richCompare .Lt (.int a t) (.int c u)) Q E s :=
  (PyProof.Rows.lt_int h : wpAny (model prog w) A (compareOp .Lt (.int a t) (.int c u)) Q E s)

section
open PySem.SeqAt
open PySem.AutoSeq1 (wpAny_loadPart')
open PySem.MeetsSeq PySem.MeetsSeq2 PySem.MeetsSeq3

theorem tuple_lt_ints (l b : Addr) (items items2 : Array Value) (n n2 : Nat) (dd dd2 : Option Addr) (sl sl2 : Array (Option Value)) (ns ms : List Int) (hi : IntsAre items.toList ns) (hj : IntsAre items2.toList ms) :
    Meets (Builtin.«tuple.__lt__» ⟨[.ref l, .ref b], []⟩)
      (fun _ R s => s.heap.get? l = some { cls := .type "tuple", dict := dd, data := .seq items n, slots := sl } ∧ s.heap.get? b = some { cls := .type "tuple", dict := dd2, data := .seq items2 n2, slots := sl2 } ∧
        R (.ok (.ret (.bool (lexLt ns ms)))) s) :=
  .of_wp fun prog w A R s h => by
    obtain ⟨hp, g, d, tk, os⟩ := s; obtain ⟨hl, hb, h⟩ := h
    have f2 := AutoSeq1.sub_tuple_tuple
    have z1 : items.size = ns.length := by rw [← hi.length]; simp
    have z2 : items2.size = ms.length := by rw [← hj.length]; simp
    wp_walk using wpAny_loadPart' hl, wpAny_loadPart' hb, wpAny_forIn_list _ (fun rest b s' => b.1 = none ∧ s' = ⟨hp, g, d, tk, os⟩ ∧ ∃ (vs ws : List Value) (ns' ms' : List Int), rest = vs.zip ws ∧
      IntsAre vs ns' ∧ IntsAre ws ms' ∧ ns'.length + items2.size = ms'.length + items.size ∧ R (.ok (.ret (.bool (lexLt ns' ms')))) ⟨hp, g, d, tk, os⟩) _
    case turn =>
      rintro ⟨y, x⟩ rest b s' ⟨hb', rfl, vs, ws, ns', ms', hz, hvi, hwi, hlen, hR⟩
      cases hvi with
      | nil => rw [List.zip_nil_left] at hz; cases hz
      | cons a t hvi' =>
        cases hwi with
        | nil => rw [List.zip_nil_right] at hz; cases hz
        | cons c u hwi' =>
          rw [List.zip_cons_cons] at hz
          injection hz with hyx hrest
          injection hyx with hy hx
          subst hy hx
          rw [lexLt_cons] at hR
          simp only [List.length_cons] at hlen
          obtain ⟨e, he, hiff⟩ := eqAt_int A.in1 ⟨hp, g, d, tk, os⟩ a t c u
          refine wpAny_bind (he prog w _ _ ?_)
          cases e with
          | true =>
            rw [if_pos (hiff.mp rfl)] at hR
            wp_walk
            exact ⟨rfl, rfl, _, _, _, _, hrest, hvi', hwi', by omega, hR⟩
          | false =>
            rw [if_neg (fun q => absurd (hiff.mpr q) Bool.false_ne_true)] at hR
            have hri := rcLt_int A.in1 ⟨hp, g, d, tk, os⟩ a t c u prog w
            wp_walk using hri
            exact ⟨_, rfl, by simpa using hR⟩
    case fin =>
      rintro ⟨b1, b2⟩ s' ⟨hb', rfl, vs, ws, ns', ms', hz, hvi, hwi, hlen, hR⟩
      simp only at hb'
      subst hb'
      have hv : lexLt ns' ms' = decide (items.size < items2.size) := by
        cases hvi with
        | nil =>
          cases hwi with
          | nil =>
            simp only [List.length_nil] at hlen
            rw [lexLt_nil_nil]
            exact (decide_eq_false (by omega)).symm
          | cons c u hw =>
            simp only [List.length_nil, List.length_cons] at hlen
            rw [lexLt_nil_cons]
            exact (decide_eq_true (by omega)).symm
        | cons a t hv =>
          cases hwi with
          | nil =>
            simp only [List.length_nil, List.length_cons] at hlen
            rw [lexLt_cons_nil]
            exact (decide_eq_false (by omega)).symm
          | cons c u hw =>
            rw [List.zip_cons_cons] at hz
            cases hz
      rw [hv] at hR
      wp_walk
      exact ⟨_, rfl, by simpa [Builtin.Tuple.tupleCompareSizes] using hR⟩
    case h =>
      exact ⟨rfl, rfl, items.toList, items2.toList, ns, ms, rfl, hi, hj, by omega, h⟩
end

section
variable {prog : Program} {w : World} {A : Around} {E : Value → Shared → Prop} {s : Shared}

theorem lt_tupInts {l b : Addr} {items items2 : Array Value} {ns ms : List Int} {Q : Value → Shared → Prop} (hl : IsTup s.heap l items) (hb : IsTup s.heap b items2) (hi : IntsAre items.toList ns) (hj : IntsAre items2.toList ms)
    (hu : A.units < cLine) (h : Q (.bool (lexLt ns ms)) s) : wpAny (model prog w) A (compareOp .Lt (.ref l) (.ref b)) Q E s := by
  obtain ⟨⟨cls, dd, data, sl⟩, ho, hc, n, hd⟩ := id hl
  obtain ⟨⟨cls2, dd2, data2, sl2⟩, ho2, hc2, n2, hd2⟩ := id hb
  simp only at hc hd hc2 hd2
  subst hc hd hc2 hd2
  exact richCompare_meets_room (op := .Lt) ⟨_, ho, rfl⟩ ⟨_, ho2, rfl⟩ PySem.F.slot_tuple_lt PySem.F.entry_tuple_lt (PySem.F.args_tuple_lt_2 _ _) (tuple_lt_ints l b items items2 n n2 dd dd2 sl sl2 ns ms hi hj)
    ⟨ho, ho2, show Value.bool (lexLt ns ms) ≠ Value.notImplemented ∧ Q (.bool (lexLt ns ms)) s from ⟨(fun x => nomatch x), h⟩⟩ hu

/-- t + u, t not empty -/
theorem cat_tup {t b : Addr} {vs ws : List Value} {Q : Value → Shared → Prop} (ht : IsTup s.heap t vs.toArray) (hb : IsTup s.heap b ws.toArray) (hv : vs ≠ [])
    (h1 : ws = [] → Q (.ref t) s) (h2 : ws ≠ [] → Q (.ref s.heap.objs.size) { s with heap := s.heap.push { cls := .type "tuple", data := .seq (vs ++ ws).toArray } })
    (hsz : vs.length + ws.length ≤ sizeLine) : wpAny (model prog w) A (binaryOp .Add (.ref t) (.ref b)) Q E s := by
  obtain ⟨⟨cls, dd, data, sl⟩, ho, hc, n, hd⟩ := id ht
  obtain ⟨⟨cls2, dd2, data2, sl2⟩, ho2, hc2, n2, hd2⟩ := id hb
  simp only at hc hd hc2 hd2
  subst hc hd hc2 hd2
  have e : vs.toArray ++ ws.toArray = (vs ++ ws).toArray := by simp
  by_cases hw : ws = []
  · exact concat_meets ⟨_, ho, rfl⟩ ⟨_, ho2, rfl⟩ noFill_tuple_add seq_tuple_add PySem.F.slot_tuple_add PySem.F.entry_tuple_add (PySem.F.args_tuple_add_2 _ _)
      (tuple_addW1 t b vs.toArray ws.toArray n n2 dd dd2 sl sl2 (by simpa using hv) (by simp [hw])) ⟨ho, ho2, h1 hw⟩
  · refine concat_meets ⟨_, ho, rfl⟩ ⟨_, ho2, rfl⟩ noFill_tuple_add seq_tuple_add PySem.F.slot_tuple_add PySem.F.entry_tuple_add (PySem.F.args_tuple_add_2 _ _)
      (tuple_addW2 t b vs.toArray ws.toArray n n2 dd dd2 sl sl2 (by simpa using hv) (by simpa using hw) (by rw [List.size_toArray, List.size_toArray]; exact hsz)) ⟨ho, ho2, ?_⟩
    rw [e]
    exact h2 hw

/-! ### t[a:b], not the whole -/
/-- a slice's bound as a place among n (d where it is left out) -/
def sIx (n d : Nat) : Option Int → Nat
  | none => d
  | some v => if v < 0 then (v + (n : Int)).toNat else min v.toNat n
theorem sIx_none (n d : Nat) : sIx n d none = d := rfl
theorem sIx_nat (n d k : Nat) : sIx n d (some (k : Int)) = min k n := by
  show (if (k : Int) < 0 then ((k : Int) + (n : Int)).toNat else min (k : Int).toNat n) = min k n
  rw [if_neg (by omega), Int.toNat_natCast]
theorem sIx_le (n d : Nat) (hd : d ≤ n) (o : Option Int) : sIx n d o ≤ n := by
  cases o with
  | none => exact hd
  | some v =>
    show (if v < 0 then (v + (n : Int)).toNat else min v.toNat n) ≤ n
    by_cases hv : v < 0
    · rw [if_pos hv]; omega
    · rw [if_neg hv]; exact Nat.min_le_right _ _
theorem clip_eq (v : Int) (n d : Nat) : (if v < 0 then max (v + (n : Int)) 0 else min v (n : Int)) = ((sIx n d (some v) : Nat) : Int) := by
  show (if v < 0 then max (v + (n : Int)) 0 else min v (n : Int)) = (((if v < 0 then (v + (n : Int)).toNat else min v.toNat n) : Nat) : Int)
  by_cases hv : v < 0
  · simp only [if_pos hv]; omega
  · simp only [if_neg hv]; omega
theorem adjust_gen (lo hi : Option Int) (n : Nat) : Builtin.Slice.sliceAdjust lo hi 1 (n : Int) = (((sIx n 0 lo : Nat) : Int), ((sIx n n hi : Nat) : Int)) := by
  have h1 : ¬ ((1 : Int) < 0) := by omega
  unfold Builtin.Slice.sliceAdjust
  simp only [h1, if_false]
  refine Prod.ext ?_ ?_
  · cases lo with
    | none => rfl
    | some v => exact clip_eq v n 0
  · cases hi with
    | none => rfl
    | some v => exact clip_eq v n n
theorem places_gen (i j : Nat) : Builtin.Slice.slicePlaces (i : Int) (j : Int) 1 = j - i := by
  unfold Builtin.Slice.slicePlaces
  have h1 : (1 : Int) > 0 := by omega
  simp only [h1, if_true, Int.ediv_one]
  split <;> omega
theorem slicePart_ {v : Value} {o : Option Int} {Q : Option Int → Shared → Prop} (p : IsPart v o) (h : Q o s) : wpAny (model prog w) A (Builtin.Slice.slicePartIndex v) Q E s := by
  cases p with
  | none => exact slicePart_none h
  | int i t => exact slicePart_int h
theorem sliceApplied_gen {sl : Addr} {vl vu : Value} {lo hi : Option Int} {n : Nat} {Q : Int × Int × Nat → Shared → Prop} (hs : s.heap.IsSliceOf sl vl vu .none) (pl : IsPart vl lo) (pu : IsPart vu hi)
    (h : Q (((sIx n 0 lo : Nat) : Int), 1, sIx n n hi - sIx n 0 lo) s) : wpAny (model prog w) A (Builtin.Slice.sliceApplied (.ref sl) (pure (n : Int))) Q E s := by
  obtain ⟨os, hos, hcs, hds⟩ := id hs
  unfold Builtin.Slice.sliceApplied Builtin.Slice.sliceFields
  refine wpAny_bind (wpAny_bind (wpAny_field hos hds (x := vl) rfl (wpAny_bind (wpAny_field hos hds (x := vu) rfl (wpAny_bind (wpAny_field hos hds (x := .none) rfl (wpAny_pure ?_)))))))
  refine wpAny_bind (slicePart_none ?_)
  show wpAny _ _ (if ((1 : Int) == 0) = true then _ else _) _ _ s
  rw [if_neg (by decide)]
  refine wpAny_bind (slicePart_ pl (wpAny_bind (slicePart_ pu (wpAny_bind (wpAny_pure ?_)))))
  show wpAny _ _ (match Builtin.Slice.sliceAdjust lo hi 1 (n : Int) with | (lo, hi) => pure (lo, (1 : Int), Builtin.Slice.slicePlaces lo hi 1)) _ _ s
  rw [adjust_gen lo hi n]
  show wpAny _ _ (pure (((sIx n 0 lo : Nat) : Int), (1 : Int), Builtin.Slice.slicePlaces ((sIx n 0 lo : Nat) : Int) ((sIx n n hi : Nat) : Int) 1)) _ _ s
  rw [places_gen]
  exact wpAny_pure h
theorem pick_gen (xs : Array Value) (i k : Nat) : ((List.range k).filterMap fun (m : Nat) => xs[((i : Int) + (m : Int) * 1).toNat]?).toArray = ((xs.toList.drop i).take k).toArray := by
  have e : (fun (m : Nat) => xs[((i : Int) + (m : Int) * 1).toNat]?) = fun m => xs[i + m]? := by
    funext m
    have : ((i : Int) + (m : Int) * 1).toNat = i + m := by omega
    rw [this]
  rw [e]
  have := pick_run xs i k
  rw [List.filterMap_map] at this
  have e2 : ((fun x => xs[x]?) ∘ fun x => i + x) = fun m => xs[i + m]? := rfl
  rw [e2] at this
  rw [this]

theorem getItem_tuple_cut {t sl : Addr} {items : Array Value} {vl vu : Value} {lo hi : Option Int} {Q : Value → Shared → Prop} (ht : IsTup s.heap t items) (hs : s.heap.IsSliceOf sl vl vu .none) (pl : IsPart vl lo) (pu : IsPart vu hi)
    (hw : ¬ (sIx items.size 0 lo = 0 ∧ sIx items.size items.size hi = items.size))
    (h : Q (.ref s.heap.objs.size) { s with heap := s.heap.push { cls := .type "tuple", data := .seq ((items.toList.drop (sIx items.size 0 lo)).take (sIx items.size items.size hi - sIx items.size 0 lo)).toArray } })
    (hsz : items.size ≤ sizeLine) : wpAny (model prog w) A (getItem (.ref t) (.ref sl)) Q E s := by
  have htake : sizeOk (.seq ((items.toList.drop (sIx items.size 0 lo)).take (sIx items.size items.size hi - sIx items.size 0 lo)).toArray) := by
    show ((items.toList.drop (sIx items.size 0 lo)).take (sIx items.size items.size hi - sIx items.size 0 lo)).toArray.size ≤ sizeLine
    rw [List.size_toArray, List.length_take, List.length_drop, Array.length_toList]
    omega
  have hj : sIx items.size items.size hi ≤ items.size := sIx_le _ _ (Nat.le_refl _) hi
  obtain ⟨os, hos, hcs, hds⟩ := id hs
  have hTs : s.TypeIs (.ref sl) "slice" := ⟨os, hos, hcs⟩
  unfold getItem
  try with_reducible refine wpAny_holding ?_
  first | refine wpAny_bind (wpAny_pure ?_) | skip
  refine wpAny_bind (wpAny_sequenceKey ht.typeIs (by decide) ?_)
  refine wpAny_bind (wpAny_callSpecial?_slot (name := Str.ofString "__getitem__") ht.typeIs PyProof.Rows.slot_tuple_getitem
    (wpAny_call_entry PyProof.Rows.slot_tuple_getitem ht.typeIs entry_tuple_getitem ?_ (args_tuple_getitem _ _)))
  show wpAny _ _ (Builtin.Tuple.tupleItemsOf (.ref t) >>= _) _ _ s
  refine wpAny_bind (tupleItemsOf_ ht ?_)
  refine wpAny_bind (wpAny_typeOf hTs ?_)
  rw [if_pos (by decide)]
  refine wpAny_bind (sliceApplied_gen hs pl pu ?_)
  have hno : ¬ ((((sIx items.size 0 lo : Nat) : Int) == 0 && (1 : Int) == 1 && (sIx items.size items.size hi - sIx items.size 0 lo) == items.size) = true) := by
    intro q
    rw [Bool.and_eq_true, Bool.and_eq_true] at q
    have q1 : ((sIx items.size 0 lo : Nat) : Int) = 0 := eq_of_beq q.1.1
    have q2 : sIx items.size items.size hi - sIx items.size 0 lo = items.size := eq_of_beq q.2
    exact hw ⟨by omega, by omega⟩
  show wpAny _ _ (if (((sIx items.size 0 lo : Nat) : Int) == 0 && (1 : Int) == 1 && (sIx items.size items.size hi - sIx items.size 0 lo) == items.size) = true then _ else _) _ _ s
  rw [if_neg hno, pick_gen]
  first
    | exact wpAny_bind (m := Builtin.Tuple.tupleExact _) (wpAny_newObj_type (wpAny_pure ⟨_, rfl, wpAny_pure h⟩) htake)
    | exact wpAny_bind (m := Builtin.Tuple.tupleExact _) (wpAny_newObj_type (wpAny_bind (wpAny_pure (wpAny_pure ⟨_, rfl, wpAny_pure h⟩))) htake)
    | exact wpAny_bind (wpAny_bind (m := Builtin.Tuple.tupleExact _) (wpAny_newObj_type (wpAny_pure (wpAny_pure ⟨_, rfl, wpAny_pure h⟩)) htake))
    | exact wpAny_bind (wpAny_bind (m := Builtin.Tuple.tupleExact _) (wpAny_newObj_type (wpAny_pure ⟨_, rfl, wpAny_pure h⟩) htake))
end
end HT

namespace L2
open PySem PySem.Spec PyProof.Rows

/-! ### the parts of a slice -/
abbrev TO := St → Hp → (Option Int → Hp → Prop) → Prop
/-- a slice's part (left out, or an int) -/
def PO (X : Cx) (e : Option Expr) (t : TO) : Prop :=
  ∀ (pins : List (Addr × Obj)) (s : Shared) (σ : St) (H : Hp) (Q : Option Int → Hp → Prop), Inv X pins σ H s → t σ H Q →
    wpAny (model X.prog X.w) X.A (evalPart e X.env) (fun u s' => ∃ o H', Inv X pins σ H' s' ∧ IsPart u o ∧ Q o H') X.xe s
def tNoPart : TO := fun _ H Q => Q none H
def tPart (t : TE) : TO := fun σ H Q => t σ H fun x H1 => ∃ i, x = .int i ∧ Q (some i) H1

theorem intsAre_of {ns : List Int} : ∀ {us : List Value}, Vals (ns.map V.int) us → IntsAre us ns := by
  induction ns with
  | nil => intro us r; rw [List.map_nil] at r; cases r; exact .nil
  | cons n ns ih =>
    intro us r
    rw [List.map_cons] at r
    cases r with
    | cons r1 r2 =>
      obtain ⟨t, e⟩ := r1
      subst e
      exact .cons n t (ih r2)

section
variable {X : Cx} {e : Expr} {te : TE} {lo hi : Option Expr} {tl th : TO} {pos p2 : Pos}

theorem po_none : PO X none tNoPart := by
  intro pins s σ H Q I h
  rw [evalPart_none]
  exact wpAny_pure ⟨none, H, I, .none, h⟩
theorem po_some (h : PE X e te) : PO X (some e) (tPart te) := by
  intro pins s σ H Q I hw
  rw [evalPart_some]
  refine thn (h pins s σ H _ I hw) fun u s1 ⟨x, H1, I1, r1, q1⟩ => ?_
  obtain ⟨i, rfl, q⟩ := q1
  obtain ⟨t, rfl⟩ := r1
  exact ⟨some i, H1, I1, .int i t, q⟩

/-- what a slice of a value is, by values: the slice object stands at sl -/
def SlR (X : Cx) (r : V → Option Int → Option Int → Hp → VK → Prop) : Prop :=
  ∀ (pins : List (Addr × Obj)) (s : Shared) (σ : St) (H : Hp) (x : V) (v vl vu : Value) (lo hi : Option Int) (sl : Addr) (Q : VK), Inv X pins σ H s → RelV x v → s.heap.IsSliceOf sl vl vu .none → IsPart vl lo → IsPart vu hi → r x lo hi H Q →
    ∃ T id, typeLookup (.type T) "__getitem__" = pure (some (.builtin id)) ∧ s.TypeIs v T ∧ wpAny (model X.prog X.w) X.A (getItem v (.ref sl)) (EP X pins σ Q) X.xe s
theorem SlR.or {r r' : V → Option Int → Option Int → Hp → VK → Prop} (h : SlR X r) (h' : SlR X r') : SlR X (fun x lo hi H Q => r x lo hi H Q ∨ r' x lo hi H Q) := by
  intro pins s σ H x v vl vu lo hi sl Q I rx hs pl pu q
  rcases q with q | q
  · exact h pins s σ H x v vl vu lo hi sl Q I rx hs pl pu q
  · exact h' pins s σ H x v vl vu lo hi sl Q I rx hs pl pu q
def tSl (r : V → Option Int → Option Int → Hp → VK → Prop) (te : TE) (tl th : TO) : TE := fun σ H Q => te σ H fun x H1 => tl σ H1 fun l H2 => th σ H2 fun u H3 => r x l u H3 Q
/-- a[lo:hi], any a -/
theorem pe_slice {r : V → Option Int → Option Int → Hp → VK → Prop} (hr : SlR X r) (he : PE X e te) (hl : PO X lo tl) (hu : PO X hi th) : PE X (.Subscript e (.Slice lo hi none p2) pos) (tSl r te tl th) := by
  intro pins s σ H Q I h
  refine Subscript_ (thn (he pins s σ H _ I h) fun v s1 ⟨x, H1, I1, r1, q1⟩ => ?_)
  refine wpAny_Slice (thn (hl pins s1 σ H1 _ I1 q1) fun vl s2 ⟨l, H2, I2, pl, q2⟩ => thn (hu pins s2 σ H2 _ I2 q2) fun vu s3 ⟨u, H3, I3, pu, q3⟩ => ?_)
  rw [evalPart_none]
  refine wpAny_pure ?_
  have I4 : Inv X pins σ H3 { s3 with heap := s3.heap.push { cls := .type "slice", data := .fields #[vl, vu, .none] } } := I3.kept (t' := s3.toks) fun b ob q => Heap.get?_push_of_some _ q
  obtain ⟨T, id, hT, ht, hg⟩ := hr pins { s3 with heap := s3.heap.push { cls := .type "slice", data := .fields #[vl, vu, .none] } } σ H3 x v vl vu l u s3.heap.objs.size Q I4 r1 (Heap.IsSliceOf.new ..) pl pu q3
  show wpAny (model X.prog X.w) X.A (subscriptTail e (.Slice lo hi none p2) v (.ref s3.heap.objs.size)) (EP X pins σ Q) X.xe { s3 with heap := s3.heap.push { cls := .type "slice", data := .fields #[vl, vu, .none] } }
  exact tail_any (ops := [.ref s3.heap.objs.size, v]) ht hT hg (by with_unfolding_all rfl)

/-- the items of xs[lo:hi] -/
def cutV (xs : List V) (lo hi : Option Int) : List V := (xs.drop (HT.sIx xs.length 0 lo)).take (HT.sIx xs.length xs.length hi - HT.sIx xs.length 0 lo)
theorem cutV_length (xs : List V) (lo hi : Option Int) : (cutV xs lo hi).length ≤ xs.length := by
  unfold cutV
  rw [List.length_take, List.length_drop]
  omega
/-- t[lo:hi], not the whole of it (the whole would be t itself) -/
def rSlT (K : PySem.W.Frag) : V → Option Int → Option Int → Hp → VK → Prop := fun x lo hi H Q => ∃ a xs, x = .ref a ∧ SqT K H a xs ∧
  ¬ (HT.sIx xs.length 0 lo = 0 ∧ HT.sIx xs.length xs.length hi = xs.length) ∧ ∀ p, H p = none → Q (.ref p) (upd H p (.tup (cutV xs lo hi)))
theorem sl_tup : SlR X (rSlT X.K) := by
  intro pins s σ H x v vl vu lo hi sl Q I rx hs pl pu h
  obtain ⟨a, xs, rfl, hx, hw, q⟩ := h
  cases rx
  obtain ⟨its, r, ht, hz⟩ := I.tuple hx
  have hlen : its.toArray.size = xs.length := by rw [List.size_toArray]; exact r.length.symm
  refine ⟨"tuple", _, PyProof.Rows.slot_tuple_getitem.lookup, ht.typeIs, ?_⟩
  refine HT.getItem_tuple_cut ht hs pl pu (by rw [hlen]; exact hw) ?_ (by rw [hlen]; exact hz)
  rw [hlen]
  refine ⟨.ref s.heap.objs.size, _, I.laid (t' := s.toks) (o := .tup (cutV xs lo hi)) (fun b ob q => Heap.get?_push_of_some _ q) (Nat.le_refl _) ?_, rfl, q _ (I.hok.fresh (Nat.le_refl _))⟩
  exact ⟨Nat.le_trans (cutV_length xs lo hi) hz, _, (r.drop (HT.sIx xs.length 0 lo)).take (HT.sIx xs.length xs.length hi - HT.sIx xs.length 0 lo), IsTup.new _ _⟩

/-! ### t < u, t + u -/
def rLtT (K : PySem.W.Frag) : R2 := fun x y H Q => ∃ a b ns ms, x = .ref a ∧ y = .ref b ∧ SqT K H a (ns.map V.int) ∧ SqT K H b (ms.map V.int) ∧ Q (.bl (HT.lexLt ns ms)) H
theorem op_ltT (hu : X.A.units < cLine) : OpR X (compareOp .Lt) (rLtT X.K) := by
  intro pins s σ H x y v u Q I rx ry h
  obtain ⟨a, b, ns, ms, rfl, rfl, ha, hb, q⟩ := h
  cases rx
  cases ry
  obtain ⟨its, r1, p1, _⟩ := I.tuple ha
  obtain ⟨its2, r2, p2, _⟩ := I.tuple hb
  have i1 : IntsAre its.toArray.toList ns := intsAre_of r1
  have i2 : IntsAre its2.toArray.toList ms := intsAre_of r2
  exact HT.lt_tupInts p1 p2 i1 i2 hu ⟨.bl (HT.lexLt ns ms), H, I, rfl, q⟩
/-- t + u, t not empty: u empty gives t itself -/
def rCatT (K : PySem.W.Frag) : R2 := fun x y H Q => ∃ a b xs ys, x = .ref a ∧ y = .ref b ∧ SqT K H a xs ∧ SqT K H b ys ∧ xs ≠ [] ∧ xs.length + ys.length ≤ sizeLine ∧
  (ys = [] → Q (.ref a) H) ∧ (ys ≠ [] → ∀ p, H p = none → Q (.ref p) (upd H p (.tup (xs ++ ys))))
theorem Vals.nil_iff {xs : List V} {us : List Value} (r : Vals xs us) : us = [] ↔ xs = [] := by
  cases r with
  | nil => simp
  | cons _ _ => simp
theorem op_catT : OpR X (binaryOp .Add) (rCatT X.K) := by
  intro pins s σ H x y v u Q I rx ry h
  obtain ⟨a, b, xs, ys, rfl, rfl, ha, hb, hx, hz, q1, q2⟩ := h
  cases rx
  cases ry
  obtain ⟨its, r1, p1, _⟩ := I.tuple ha
  obtain ⟨its2, r2, p2, _⟩ := I.tuple hb
  refine HT.cat_tup p1 p2 (fun z => hx (r1.nil_iff.mp z)) (fun z => ⟨.ref a, H, I, rfl, q1 (r2.nil_iff.mp z)⟩) (fun z => ?_) (by rw [← r1.length, ← r2.length]; exact hz)
  refine ⟨.ref s.heap.objs.size, _, I.laid (t' := s.toks) (o := .tup (xs ++ ys)) (fun b ob q => Heap.get?_push_of_some _ q) (Nat.le_refl _) ?_, rfl, q2 (fun w => z (r2.nil_iff.mpr w)) _ (I.hok.fresh (Nat.le_refl _))⟩
  exact ⟨by rw [List.length_append]; exact hz, _, r1.append r2, IsTup.new _ _⟩
/-- tuple(t) -/
theorem call_tupleT : CallR X (.type "tuple") (fun xs H Q => ∃ a ys, xs = [.ref a] ∧ SqT X.K H a ys ∧ Q (.ref a) H) := by
  intro pins s σ H xs us Q I r h
  obtain ⟨a, ys, rfl, ha, q⟩ := h
  obtain ⟨u, rfl, ru⟩ := vals1 r
  cases ru
  obtain ⟨its, _, p1, _⟩ := I.tuple ha
  exact call_tuple_same (items := its.toArray) p1 ⟨.ref a, H, I, rfl, q⟩
end
end L2

namespace L2
open PySem PySem.Spec PyProof.Rows

/-! ### places -/
/-- the place that an index of any sign means -/
def ixN (n : Nat) (i : Int) : Option Nat := if 0 ≤ i then (if i < n then some i.toNat else none) else if -(n : Int) ≤ i then some (i + n).toNat else none
def atI {α : Type} (xs : List α) (i : Int) : Option α := (ixN xs.length i).bind fun j => xs[j]?
theorem ixN_seq {n : Nat} {i : Int} {j : Nat} (h : ixN n i = some j) : seqIndex? i n = some j ∧ j < n ∧ -(n : Int) ≤ i ∧ i < n := by
  unfold ixN at h
  by_cases h0 : 0 ≤ i
  · rw [if_pos h0] at h
    by_cases h1 : i < n
    · rw [if_pos h1] at h
      have e : i.toNat = j := Option.some.inj h
      exact ⟨by rw [seqIndex_of h0 h1, e], by omega, by omega, h1⟩
    · rw [if_neg h1] at h; cases h
  · rw [if_neg h0] at h
    by_cases h1 : -(n : Int) ≤ i
    · rw [if_pos h1] at h
      have e : (i + n).toNat = j := Option.some.inj h
      exact ⟨by rw [seqIndex_neg (by omega) h1, e], by omega, h1, by omega⟩
    · rw [if_neg h1] at h; cases h
theorem atI_get {α : Type} {xs : List α} {i : Int} {v : α} (h : atI xs i = some v) : ∃ j, seqIndex? i xs.length = some j ∧ xs[j]? = some v ∧ j < xs.length ∧ -(xs.length : Int) ≤ i ∧ i < xs.length := by
  unfold atI at h
  cases e : ixN xs.length i with
  | none => rw [e] at h; cases h
  | some j =>
    rw [e] at h
    obtain ⟨h1, h2, h3, h4⟩ := ixN_seq e
    exact ⟨j, h1, h, h2, h3, h4⟩
theorem atI_nat {α : Type} {xs : List α} {j : Nat} {v : α} (h : xs[j]? = some v) : atI xs (j : Int) = some v := by
  have hj : j < xs.length := (List.getElem?_eq_some_iff.mp h).1
  have e : ixN xs.length (j : Int) = some j := by
    unfold ixN
    rw [if_pos (by omega), if_pos (by omega)]; simp
  unfold atI; rw [e]; exact h
theorem atI_last {α : Type} (xs : List α) (v : α) : atI (xs ++ [v]) (-1) = some v := by
  have hl : (xs ++ [v]).length = xs.length + 1 := by simp
  have e : ixN (xs ++ [v]).length (-1) = some xs.length := by
    unfold ixN
    rw [hl, if_neg (by decide), if_pos (by omega)]
    congr 1
    omega
  unfold atI
  rw [e]
  show (xs ++ [v])[xs.length]? = some v
  simp

/-! ### what may be subscripted -/
/-- what stands as an index of a plain subscript -/
def PlainIx (b : Expr) : Prop := ∀ o i, subscripted b false o i = operate [o, i] (getItem o i)
/-- a subscript by values -/
def IxR (X : Cx) (r : R2) : Prop :=
  ∀ (value slice : Expr) (pins : List (Addr × Obj)) (s : Shared) (σ : St) (H : Hp) (x y : V) (v u : Value) (Q : VK), Inv X pins σ H s → RelV x v → RelV y u → r x y H Q →
    subscripted slice false v u = operate [v, u] (getItem v u) → wpAny (model X.prog X.w) X.A (subscriptTail value slice v u) (EP X pins σ Q) X.xe s
/-- a call of a builtin's method by values: the receiver, the arguments -/
def MtR (X : Cx) (id : String) (r : V → List V → Hp → VK → Prop) : Prop :=
  ∀ (pins : List (Addr × Obj)) (s : Shared) (σ : St) (H : Hp) (x : V) (xs : List V) (v : Value) (us : List Value) (Q : VK), Inv X pins σ H s → RelV x v → Vals xs us → r x xs H Q →
    wpAny (model X.prog X.w) X.A (call (.builtin id) (v :: us)) (EP X pins σ Q) X.xe s
section
variable {X : Cx} {a b : Expr} {ta tb : TE} {pos : Pos}
theorem IxR.or {r r' : R2} (h : IxR X r) (h' : IxR X r') : IxR X (fun x y H Q => r x y H Q ∨ r' x y H Q) := by
  intro value slice pins s σ H x y v u Q I rx ry q hs
  rcases q with q | q
  · exact h value slice pins s σ H x y v u Q I rx ry q hs
  · exact h' value slice pins s σ H x y v u Q I rx ry q hs
theorem MtR.or {id : String} {r r' : V → List V → Hp → VK → Prop} (h : MtR X id r) (h' : MtR X id r') : MtR X id (fun x xs H Q => r x xs H Q ∨ r' x xs H Q) := by
  intro pins s σ H x xs v us Q I rx rs q
  rcases q with q | q
  · exact h pins s σ H x xs v us Q I rx rs q
  · exact h' pins s σ H x xs v us Q I rx rs q
/-- a[b] -/
theorem pe_ix {r : R2} (hr : IxR X r) (ha : PE X a ta) (hb : PE X b tb) (hs : PlainIx b) : PE X (.Subscript a b pos) (tOp r ta tb) := by
  intro pins s σ H Q I h
  exact Subscript_ (binT ha hb I h fun v u s2 x y H2 I2 rx ry q => hr a b pins s2 σ H2 x y v u Q I2 rx ry q (hs _ _))

def rIxL (K : PySem.W.Frag) : R2 := fun x y H Q => ∃ p xs i v, x = .ref p ∧ y = .int i ∧ SqL K H p xs ∧ atI xs i = some v ∧ Q v H
def rIxT (K : PySem.W.Frag) : R2 := fun x y H Q => ∃ p xs i v, x = .ref p ∧ y = .int i ∧ SqT K H p xs ∧ atI xs i = some v ∧ Q v H
def rIxS : R2 := fun x y H Q => ∃ z i c, x = .str z ∧ y = .int i ∧ z.length ≤ sizeLine ∧ atI z.cps.toList i = some c ∧ Q (.str ⟨#[c]⟩) H
theorem ix_list : IxR X (rIxL X.K) := by
  intro value slice pins s σ H x y v u Q I rx ry h hs
  obtain ⟨p, xs, i, z, rfl, rfl, hq, he, q⟩ := h
  cases rx
  obtain ⟨t, rfl⟩ := ry
  obtain ⟨its, r, pl, hz⟩ := I.list hq
  obtain ⟨j, h1, h2, h3, h4, h5⟩ := atI_get he
  obtain ⟨w, ew, rw'⟩ := r.get h2
  have hl := r.length
  have hn := line63
  have fin : EP X pins σ Q w s := ⟨z, H, I, rw', q⟩
  by_cases h0 : 0 ≤ i
  · have hj : i.toNat = j := by
      rw [seqIndex_of h0 h5] at h1
      exact Option.some.inj h1
    exact item_listR pl.isList h0 (by omega) (by rw [hj]; simpa using ew) fin hs
  · have hj : (i + (its.toArray.size : Int)).toNat = j := by
      rw [seqIndex_neg (by omega) h4] at h1
      rw [List.size_toArray, ← hl]
      exact Option.some.inj h1
    exact subscriptTail_builtinR (x := w) pl.isList.typeIs slot_list_getitem.lookup
      (wpAny_getItem_list_neg (Q := fun r s' => r = w ∧ EP X pins σ Q r s') pl.isList (by omega) (by rw [List.size_toArray] <;> omega) (by omega) (by rw [hj]; simpa using ew) ⟨rfl, fin⟩) hs
theorem ix_tup : IxR X (rIxT X.K) := by
  intro value slice pins s σ H x y v u Q I rx ry h hs
  obtain ⟨p, xs, i, z, rfl, rfl, hq, he, q⟩ := h
  cases rx
  obtain ⟨t, rfl⟩ := ry
  obtain ⟨its, r, pl, hz⟩ := I.tuple hq
  obtain ⟨j, h1, h2, h3, h4, h5⟩ := atI_get he
  obtain ⟨w, ew, rw'⟩ := r.get h2
  have hl := r.length
  have hn := line63
  have fin : EP X pins σ Q w s := ⟨z, H, I, rw', q⟩
  exact subscriptTail_builtinR (x := w) pl.typeIs slot_tuple_getitem.lookup
    (getItem_tuple (j := j) (Q := fun r s' => r = w ∧ EP X pins σ Q r s') pl (by omega) (by omega) (by rw [List.size_toArray, ← hl]; exact h1) (by simpa using ew) ⟨rfl, fin⟩) hs
theorem ix_str : IxR X rIxS := by
  intro value slice pins s σ H x y v u Q I rx ry h hs
  obtain ⟨z, i, c, rfl, rfl, hz, he, q⟩ := h
  obtain ⟨t, rfl⟩ := rx
  obtain ⟨t', rfl⟩ := ry
  obtain ⟨j, h1, h2, h3, h4, h5⟩ := atI_get he
  have hl : z.cps.toList.length = z.length := by simp [Str.length]
  rw [hl] at h1 h4 h5
  have hn := line63
  exact tail_any (typeIs_str s z t) slot_str_getitem.lookup (getItem_str (c := c) (by
    have e1 : decide (i < -(2 ^ 63 : Int)) = false := decide_eq_false (by omega)
    have e2 : decide (i ≥ 2 ^ 63) = false := decide_eq_false (by omega)
    rw [e1, e2, Bool.or_false]) (by rw [h1]; simpa using h2) ⟨.str ⟨#[c]⟩, H, I.tok _, ⟨_, rfl⟩, q⟩) hs
/-- list, tuple or str -/
def rIx (K : PySem.W.Frag) : R2 := fun x y H Q => rIxL K x y H Q ∨ rIxT K x y H Q ∨ rIxS x y H Q
theorem ix_seq : IxR X (rIx X.K) := ix_list.or (ix_tup.or ix_str)

/-! ### xs[i] = v, any sign -/
/-- the list's object behind a store -/
theorem mapSeq_set (its : List Value) (n j : Nat) (u : Value) : Obj.mapSeq (·.setIfInBounds j u) { cls := .type "list", data := .seq its.toArray n } = { cls := .type "list", data := .seq (its.set j u).toArray n } := by
  simp [Obj.mapSeq]
theorem Inv.lst {pins : List (Addr × Obj)} {σ : St} {H : Hp} {s : Shared} {p : Addr} {xs : List V} (I : Inv X pins σ H s) (h : H p = some (.lst xs)) :
    ∃ (its : List Value) (n : Nat), Vals xs its ∧ s.heap.get? p = some { cls := .type "list", data := .seq its.toArray n } ∧ xs.length ≤ sizeLine := by
  obtain ⟨z, its, n, r, e⟩ := I.hok p _ h
  exact ⟨its, n, r, e, z⟩
/-- the list at p is written by an update of its object -/
theorem Inv.lstUpd {pins : List (Addr × Obj)} {σ : St} {H : Hp} {s : Shared} {p : Addr} {xs ys : List V} {its its' : List Value} {n n' : Nat} {f : Obj → Obj} (I : Inv X pins σ H s) (h : H p = some (.lst xs))
    (ho : s.heap.get? p = some { cls := .type "list", data := .seq its.toArray n }) (hf : f { cls := .type "list", data := .seq its.toArray n } = { cls := .type "list", data := .seq its'.toArray n' }) (r : Vals ys its') (hz : ys.length ≤ sizeLine) (t : Nat) :
    Inv X pins σ (upd H p (.lst ys)) { s with heap := s.heap.update p f, toks := t } := by
  have e : (s.heap.update p f).get? p = some { cls := .type "list", data := .seq its'.toArray n' } := by
    rw [Heap.get?_update_self f ho (by rw [hf] <;> rfl), hf]
  refine I.write (x := p) (e := p) (by rw [h]; trivial) (.inl rfl) (fun b u hb q => (Heap.get?_update_other _ _ (Ne.symm hb)).trans q) ⟨_, e⟩ ?_
  exact ⟨hz, its', n', r, e⟩
def rSetL : V → V → V → Hp → (Hp → Prop) → Prop := fun o i v H Q => ∃ p xs k j, o = .ref p ∧ i = .int k ∧ H p = some (.lst xs) ∧ ixN xs.length k = some j ∧ Q (upd H p (.lst (xs.set j v)))
theorem set_list : PSet X rSetL := by
  intro pins s σ H o i v ov iv u Q I ro ri rv h
  obtain ⟨p, xs, k, j, rfl, rfl, hp, hj, q⟩ := h
  cases ro
  obtain ⟨t, rfl⟩ := ri
  obtain ⟨its, n, r, ho, hz⟩ := I.lst hp
  obtain ⟨h1, h2, h3, h4⟩ := ixN_seq hj
  have hl := r.length
  have hn := line63
  have I' : Inv X pins σ (upd H p (.lst (xs.set j v))) { s with heap := s.heap.update p (Obj.mapSeq (·.setIfInBounds j u)) } :=
    I.lstUpd hp ho (mapSeq_set its n j u) (r.set rv j) (by rw [List.length_set]; exact hz) s.toks
  by_cases h0 : 0 ≤ k
  · have hk : k.toNat = j := by
      rw [seqIndex_of h0 h4] at h1
      exact Option.some.inj h1
    exact PySem.W.ki_setAt ho h0 (by omega) (by rw [List.size_toArray, ← hl]; exact h4) (by rw [hk]; exact ⟨_, I', q⟩)
  · have hk : (k + (its.toArray.size : Int)).toNat = j := by
      rw [seqIndex_neg (by omega) h3] at h1
      rw [List.size_toArray, ← hl]
      exact Option.some.inj h1
    exact PySem.W.ki_setBack ho (by omega) (by rw [List.size_toArray, ← hl]; exact h3) (by omega) (by rw [hk]; exact ⟨_, I', q⟩)

/-! ### slices -/
theorem slice_bounds (lo hi : Option Int) (n : Nat) : (sliceBounds lo hi none n).1 = ((HT.sIx n 0 lo : Nat) : Int) ∧ (sliceBounds lo hi none n).2.1 = ((HT.sIx n n hi : Nat) : Int) ∧ (sliceBounds lo hi none n).2.2 = 1 := by
  refine ⟨?_, ?_, rfl⟩
  · cases lo with
    | none => simp [sliceBounds, HT.sIx]
    | some i =>
      simp only [sliceBounds, HT.sIx, Option.getD_none, show (1 : Int) > 0 by decide, if_true]
      by_cases h : i < 0
      · simp only [h, if_true] <;> omega
      · simp only [h, if_false] <;> omega
  · cases hi with
    | none => simp [sliceBounds, HT.sIx]
    | some i =>
      simp only [sliceBounds, HT.sIx, Option.getD_none, show (1 : Int) > 0 by decide, if_true]
      by_cases h : i < 0
      · simp only [h, if_true] <;> omega
      · simp only [h, if_false] <;> omega
theorem slicePick_cut (its : List Value) (lo hi : Option Int) : slicePick its.toArray lo hi none = ((its.drop (HT.sIx its.length 0 lo)).take (HT.sIx its.length its.length hi - HT.sIx its.length 0 lo)).toArray := by
  obtain ⟨h1, h2, h3⟩ := slice_bounds lo hi its.toArray.size
  unfold slicePick
  rw [h1, h2, h3]
  simp only [sliceRange_one, pick_run, List.size_toArray] <;> rfl
/-- xs[lo:hi] of a list: a new list -/
def rSlL (K : PySem.W.Frag) : V → Option Int → Option Int → Hp → VK → Prop := fun x lo hi H Q => ∃ a xs, x = .ref a ∧ SqL K H a xs ∧ ∀ p, H p = none → Q (.ref p) (upd H p (.lst (cutV xs lo hi)))
theorem sl_list : SlR X (rSlL X.K) := by
  intro pins s σ H x v vl vu lo hi sl Q I rx hs pl pu h
  obtain ⟨a, xs, rfl, hx, q⟩ := h
  cases rx
  obtain ⟨its, r, ht, hz⟩ := I.list hx
  have hlen := r.length
  refine ⟨"list", _, slot_list_getitem.lookup, ht.isList.typeIs, ?_⟩
  refine wpAny_getItem_list_slice ht.isList hs pl pu .none (by simp) ?_ (by rw [List.size_toArray] <;> omega)
  rw [slicePick_cut, ← hlen]
  refine ⟨.ref s.heap.objs.size, _, I.laid (t' := s.toks) (o := .lst (cutV xs lo hi)) (fun b ob q => Heap.get?_push_of_some _ q) (Nat.le_refl _) ?_, rfl, q _ (I.hok.fresh (Nat.le_refl _))⟩
  exact ⟨Nat.le_trans (cutV_length xs lo hi) hz, _, 0, (r.drop (HT.sIx xs.length 0 lo)).take (HT.sIx xs.length xs.length hi - HT.sIx xs.length 0 lo), Heap.get?_push_size _ rfl⟩

/-! ### in, not in: flat items -/
def flatV : V → Bool
  | .non => true
  | .bl _ => true
  | .int _ => true
  | .str _ => true
  | _ => false
/-- == of flat values -/
def eqV : V → V → Bool
  | .non, .non => true
  | .bl a, .bl b => a == b
  | .bl a, .int b => (if a then 1 else 0) == b
  | .int a, .bl b => a == (if b then 1 else 0)
  | .int a, .int b => a == b
  | .str a, .str b => a == b
  | _, _ => false
theorem eqAt_V {A : Around} {s : Shared} {y x : V} {u v : Value} (ry : RelV y u) (rx : RelV x v) (fy : flatV y = true) (fx : flatV x = true) : SeqAt.EqAt A s u v (eqV y x) := by
  cases y with
  | non =>
    cases ry
    cases x with
    | non => cases rx; exact SeqAt.EqAt.same _
    | bl b => cases rx; exact SeqAt.EqAt.none_bool b
    | int b => obtain ⟨t, rfl⟩ := rx; exact SeqAt.EqAt.none_int b t
    | str b => obtain ⟨t, rfl⟩ := rx; exact SeqAt.EqAt.none_str b t
    | _ => exact absurd (show false = true from fx) Bool.false_ne_true
  | bl a =>
    cases ry
    cases x with
    | non => cases rx; exact SeqAt.EqAt.bool_none a
    | bl b => cases rx; exact SeqAt.EqAt.bool_bool a b
    | int b => obtain ⟨t, rfl⟩ := rx; exact SeqAt.EqAt.bool_int a b t
    | str b => obtain ⟨t, rfl⟩ := rx; exact SeqAt.EqAt.bool_str a b t
    | _ => exact absurd (show false = true from fx) Bool.false_ne_true
  | int a =>
    obtain ⟨t', rfl⟩ := ry
    cases x with
    | non => cases rx; exact SeqAt.EqAt.int_none a t'
    | bl b => cases rx; exact SeqAt.EqAt.int_bool a t' b
    | int b => obtain ⟨t, rfl⟩ := rx; exact SeqAt.EqAt.int_int a t' b t
    | str b => obtain ⟨t, rfl⟩ := rx; exact SeqAt.EqAt.int_str a t' b t
    | _ => exact absurd (show false = true from fx) Bool.false_ne_true
  | str a =>
    obtain ⟨t', rfl⟩ := ry
    cases x with
    | non => cases rx; exact SeqAt.EqAt.str_none a t'
    | bl b => cases rx; exact SeqAt.EqAt.str_bool a t' b
    | int b => obtain ⟨t, rfl⟩ := rx; exact SeqAt.EqAt.str_int a t' b t
    | str b => obtain ⟨t, rfl⟩ := rx; exact SeqAt.EqAt.str_str a t' b t
    | _ => exact absurd (show false = true from fx) Bool.false_ne_true
  | _ => exact absurd (show false = true from fy) Bool.false_ne_true
/-- the items' answers, read off the values (a value's own answer does not lean on its token) -/
def eqU (x : V) (u : Value) : Bool := match u with
  | .none => eqV .non x
  | .bool b => eqV (.bl b) x
  | .int i _ => eqV (.int i) x
  | .str z _ => eqV (.str z) x
  | _ => false
theorem eqU_of {x y : V} {u : Value} (r : RelV y u) (f : flatV y = true) : eqU x u = eqV y x := by
  cases y with
  | non => cases r; rfl
  | bl b => cases r; rfl
  | int i => obtain ⟨t, rfl⟩ := r; rfl
  | str z => obtain ⟨t, rfl⟩ := r; rfl
  | _ => exact absurd (show false = true from f) Bool.false_ne_true
theorem any_eqU {x : V} : ∀ {xs : List V} {us : List Value}, Vals xs us → xs.all flatV = true → us.any (eqU x) = xs.any fun y => eqV y x
  | _, _, .nil, _ => rfl
  | y :: xs, u :: us, .cons r t, f => by
    rw [List.all_cons, Bool.and_eq_true] at f
    rw [List.any_cons, List.any_cons, eqU_of r f.1, any_eqU t f.2]
theorem mem_eqAt {A : Around} {s : Shared} {x : V} {v : Value} (rx : RelV x v) (fx : flatV x = true) : ∀ {xs : List V} {us : List Value}, Vals xs us → xs.all flatV = true → ∀ u ∈ us, SeqAt.EqAt A s u v (eqU x u)
  | _, _, .nil, _ => fun u hu => by cases hu
  | y :: xs, u :: us, .cons r t, f => fun u' hu => by
    rw [List.all_cons, Bool.and_eq_true] at f
    rcases List.mem_cons.mp hu with rfl | hu
    · rw [eqU_of r f.1]; exact eqAt_V r rx f.1 fx
    · exact mem_eqAt rx fx t f.2 u' hu
def inV (x : V) (xs : List V) : Bool := xs.any fun y => eqV y x
/-- x in a list or tuple of flat items -/
def rIn (K : PySem.W.Frag) (neg : Bool) : R2 := fun x y H Q => ∃ p xs, y = .ref p ∧ (SqL K H p xs ∨ SqT K H p xs) ∧ flatV x = true ∧ xs.all flatV = true ∧ Q (.bl (if neg then !inV x xs else inV x xs)) H
theorem op_in_seq : OpR X (compareOp .In) (rIn X.K false) := by
  intro pins s σ H x y v u Q I rx ry h
  obtain ⟨p, xs, rfl, hq, fx, fs, q⟩ := h
  cases ry
  rcases hq with hq | hq
  · obtain ⟨its, r, pl, hz⟩ := I.list hq
    refine SeqAt.in_listAt (eqU x) pl.isList (fun w hw => mem_eqAt rx fx r fs w (by simpa using hw)) ⟨.bl _, H, I, rfl, ?_⟩
    rw [show its.toArray.any (eqU x) = its.any (eqU x) by simp, any_eqU r fs]
    exact q
  · obtain ⟨its, r, pl, hz⟩ := I.tuple hq
    refine SeqAt.in_tupleAt (eqU x) pl (fun w hw => mem_eqAt rx fx r fs w (by simpa using hw)) ⟨.bl _, H, I, rfl, ?_⟩
    rw [show its.toArray.any (eqU x) = its.any (eqU x) by simp, any_eqU r fs]
    exact q
theorem op_notIn_seq : OpR X (compareOp .NotIn) (rIn X.K true) := by
  intro pins s σ H x y v u Q I rx ry h
  obtain ⟨p, xs, rfl, hq, fx, fs, q⟩ := h
  cases ry
  rcases hq with hq | hq
  · obtain ⟨its, r, pl, hz⟩ := I.list hq
    refine SeqAt.notIn_listAt (eqU x) pl.isList (fun w hw => mem_eqAt rx fx r fs w (by simpa using hw)) ⟨.bl _, H, I, rfl, ?_⟩
    rw [show its.toArray.any (eqU x) = its.any (eqU x) by simp, any_eqU r fs]
    exact q
  · obtain ⟨its, r, pl, hz⟩ := I.tuple hq
    refine SeqAt.notIn_tupleAt (eqU x) pl (fun w hw => mem_eqAt rx fx r fs w (by simpa using hw)) ⟨.bl _, H, I, rfl, ?_⟩
    rw [show its.toArray.any (eqU x) = its.any (eqU x) by simp, any_eqU r fs]
    exact q
theorem op_notIn_str : OpR X (compareOp .NotIn) (fun x y H Q => ∃ i j, x = .str i ∧ y = .str j ∧ Q (.bl (!(!(Builtin.Str.occurrences j i 0 j.length 1).isEmpty))) H) := by
  intro pins s σ H x y v u Q I rx ry h
  obtain ⟨i, j, rfl, rfl, q⟩ := h
  obtain ⟨t, rfl⟩ := rx
  obtain ⟨t', rfl⟩ := ry
  exact notIn_str ⟨.bl _, H, I, rfl, q⟩

/-! ### len, list(x), tuple(x) of any list or tuple that is read -/
theorem call_len_seq : CallR X (.builtin "len") (fun xs H Q => ∃ p ys, xs = [.ref p] ∧ (SqL X.K H p ys ∨ SqT X.K H p ys) ∧ Q (.int ys.length) H) := by
  intro pins s σ H xs us Q I r h
  obtain ⟨p, ys, rfl, hq, q⟩ := h
  obtain ⟨u, rfl, rx⟩ := vals1 r
  cases rx
  have hn := line63
  rcases hq with hq | hq
  · obtain ⟨its, r', pl, hz⟩ := I.list hq
    have hlen := r'.length
    exact Calls.call_len_list pl.isList (by simp only [List.size_toArray] <;> omega) ⟨.int ys.length, H, I.tok _, ⟨s.toks + 1, by rw [List.size_toArray, hlen]⟩, q⟩
  · obtain ⟨its, r', pl, hz⟩ := I.tuple hq
    have hlen := r'.length
    exact len_tuple pl (by simp only [List.size_toArray] <;> omega) ⟨.int ys.length, H, I.tok _, ⟨s.toks + 1, by rw [List.size_toArray, hlen]⟩, q⟩
theorem call_len_str : CallR X (.builtin "len") (fun xs H Q => ∃ z, xs = [.str z] ∧ z.length ≤ sizeLine ∧ Q (.int z.length) H) := by
  intro pins s σ H xs us Q I r h
  obtain ⟨z, rfl, hz, q⟩ := h
  obtain ⟨u, rfl, t, rfl⟩ := vals1 r
  have hn := line63
  exact len_str (by omega) ⟨.int z.length, H, I.tok _, ⟨_, rfl⟩, q⟩
theorem CallR.or {f : Value} {r r' : List V → Hp → VK → Prop} (h : CallR X f r) (h' : CallR X f r') : CallR X f (fun xs H Q => r xs H Q ∨ r' xs H Q) := by
  intro pins s σ H xs us Q I rs q
  rcases q with q | q
  · exact h pins s σ H xs us Q I rs q
  · exact h' pins s σ H xs us Q I rs q
theorem call_list_of : CallR X (.type "list") (fun xs H Q => ∃ p ys, xs = [.ref p] ∧ (SqL X.K H p ys ∨ SqT X.K H p ys) ∧ ∀ l, H l = none → Q (.ref l) (upd H l (.lst ys))) := by
  intro pins s σ H xs us Q I r h
  obtain ⟨p, ys, rfl, hq, q⟩ := h
  obtain ⟨u, rfl, rx⟩ := vals1 r
  cases rx
  have fin : ∀ (its : List Value), Vals ys its → ys.length ≤ sizeLine → ∀ (h' : Heap) (c' : Nat), (∀ b o', s.heap.get? b = some o' → h'.get? b = some o') →
      h'.get? s.heap.objs.size = some { cls := .type "list", dict := none, data := .seq its.toArray c', slots := #[] } → EP X pins σ Q (.ref s.heap.objs.size) { s with heap := h' } := fun its r' hz h' c' kp e =>
    ⟨.ref s.heap.objs.size, _, I.laid (t' := s.toks) kp (Nat.le_refl _) (show ObjOk X.prog X.w _ h' _ (.lst ys) from ⟨hz, its, c', r', e⟩), rfl, q _ (I.hok.fresh (Nat.le_refl _))⟩
  rcases hq with hq | hq
  · obtain ⟨its, r', pl, hz⟩ := I.list hq
    have hlen := r'.length
    obtain ⟨o, ho, hc, n, hd⟩ := pl.isList
    exact call_list_seq p (.inl rfl) ho hc hd (fun h' c' kp e => fin its r' hz h' c' kp e) (by simp only [List.size_toArray] <;> omega)
  · obtain ⟨its, r', pl, hz⟩ := I.tuple hq
    have hlen := r'.length
    obtain ⟨o, ho, hc, n, hd⟩ := pl
    exact call_list_seq p (.inr rfl) ho hc hd (fun h' c' kp e => fin its r' hz h' c' kp e) (by simp only [List.size_toArray] <;> omega)
theorem call_tuple_of : CallR X (.type "tuple") (fun xs H Q => ∃ p ys, xs = [.ref p] ∧ ((SqL X.K H p ys ∧ ∀ l, H l = none → Q (.ref l) (upd H l (.tup ys))) ∨ (SqT X.K H p ys ∧ Q (.ref p) H))) := by
  intro pins s σ H xs us Q I r h
  obtain ⟨p, ys, rfl, h⟩ := h
  obtain ⟨u, rfl, rx⟩ := vals1 r
  cases rx
  rcases h with ⟨hq, q⟩ | ⟨hq, q⟩
  · obtain ⟨its, r', pl, hz⟩ := I.list hq
    have hlen := r'.length
    refine call_tuple_list pl.isList (fun h' kp => ?_) (by simp only [List.size_toArray] <;> omega)
    have I1 : Inv X pins σ H { s with heap := h' } := I.kept (t' := s.toks) kp
    have I2 : Inv X pins σ (upd H h'.objs.size (.tup ys)) { s with heap := h'.push { cls := .type "tuple", data := .seq its.toArray } } :=
      I1.laid (t' := s.toks) (fun b o e => Heap.get?_push_of_some _ e) (Nat.le_refl _) (show ObjOk X.prog X.w _ _ _ (.tup ys) from ⟨hz, its, r', IsTup.new _ _⟩)
    exact ⟨.ref h'.objs.size, _, I2, rfl, q _ (I1.hok.fresh (Nat.le_refl _))⟩
  · obtain ⟨its, r', pl, hz⟩ := I.tuple hq
    exact call_tuple_same pl ⟨.ref p, H, I, rfl, q⟩

/-! ### the call of a builtin's method: o.m(..) -/
/-- the value is of that builtin type -/
def tyV (K : PySem.W.Frag) (T : String) (x : V) (H : Hp) : Prop := match x with
  | .str _ => T = "str"
  | .int _ => T = "int"
  | .ref p => (T = "list" ∧ ∃ xs, SqL K H p xs) ∨ (T = "tuple" ∧ ∃ o, K.lookup p = some o ∧ o.cls = .type "tuple" ∧ o.dict = none) ∨
      (T = "dict" ∧ ((∃ kvs, H p = some (.dK kvs)) ∨ ∃ kvs, H p = some (.dT kvs))) ∨ (T = "set" ∧ ∃ S n, H p = some (.set S n))
  | _ => False
theorem tyV_is {pins : List (Addr × Obj)} {σ : St} {H : Hp} {s : Shared} {T : String} {x : V} {v : Value} (I : Inv X pins σ H s) (r : RelV x v) (ty : tyV X.K T x H) :
    s.TypeIs v T ∧ ∀ a, v = .ref a → ∃ ob, s.heap.get? a = some ob ∧ ob.dict = none := by
  cases x with
  | str z =>
    obtain ⟨t, rfl⟩ := r
    cases (show T = "str" from ty)
    exact ⟨typeIs_str s z t, fun _ e => nomatch e⟩
  | int i =>
    obtain ⟨t, rfl⟩ := r
    cases (show T = "int" from ty)
    exact ⟨typeIs_int s i t, fun _ e => nomatch e⟩
  | ref p =>
    cases r
    rcases ty with ⟨rfl, xs, hq⟩ | ⟨rfl, o, hk, hc, hd⟩ | ⟨rfl, hk⟩ | ⟨rfl, S, n, hk⟩
    · obtain ⟨its, _, pl, _⟩ := I.list hq
      refine ⟨pl.isList.typeIs, fun a e => ?_⟩
      cases e
      obtain ⟨o, n, e, c, hd, _⟩ := pl
      exact ⟨o, e, hd⟩
    · refine ⟨⟨o, I.kIn p o hk, hc⟩, fun a e => ?_⟩
      cases e
      exact ⟨o, I.kIn _ o hk, hd⟩
    · have z : ∃ o, s.heap.get? p = some o ∧ o.ExactDict := by
        rcases hk with ⟨kvs, hk⟩ | ⟨kvs, hk⟩
        · obtain ⟨_, _, _, _, o, _, _, e, ex, _⟩ := I.hok p _ hk
          exact ⟨o, e, ex⟩
        · obtain ⟨_, _, _, _, o, _, _, e, ex, _⟩ := I.hok p _ hk
          exact ⟨o, e, ex⟩
      obtain ⟨o, e, ex⟩ := z
      refine ⟨⟨o, e, ex.1⟩, fun a e2 => ?_⟩
      cases e2
      exact ⟨o, e, ex.2.1⟩
    · obtain ⟨o, _, _, _, e, ex, _⟩ := I.hok p _ hk
      refine ⟨⟨o, e, ex.1⟩, fun a e2 => ?_⟩
      cases e2
      exact ⟨o, e, ex.2.1⟩
  | _ => exact False.elim ty
def tBM0 (K : PySem.W.Frag) (T : String) (r : V → List V → Hp → VK → Prop) (to : TE) : TE := fun σ H Q => to σ H fun x H1 => tyV K T x H1 ∧ r x [] H1 Q
def tBM (K : PySem.W.Frag) (T : String) (r : V → List V → Hp → VK → Prop) (to : TE) (t : TA) : TE := fun σ H Q => to σ H fun x H1 => tyV K T x H1 ∧ t σ H1 fun xs H2 => r x xs H2 Q
variable {o e : Expr} {es : List Expr} {to : TE} {t : TA} {name : Str} {apos cpos : Pos} {T id : String} {r : V → List V → Hp → VK → Prop}
theorem pe_bm0 (pa : PlainAttrs T) (slot : Slot T name id) (hty : typeOf (.builtin id) = pure (.type "method_descriptor")) (hm : MtR X id r) (ho : PE X o to)
    (hbase : attributeBase o name X.env (eval o X.env) = eval o X.env := by rfl) (hline : (apos.endLine == cpos.line) = true := by rfl) : PE X (.Call (.Attribute o name apos) [] [] cpos) (tBM0 X.K T r to) := by
  intro pins s σ H Q I h
  refine wpAny_Call_method0_late hbase hline (thn (ho pins s σ H _ I h) fun v s1 ⟨x, H1, I1, r1, ty, q1⟩ => ?_)
  obtain ⟨h1, h2⟩ := tyV_is I1 r1 ty
  exact ⟨T, id, pa, slot, hty, h1, h2, Calls.callWith_builtin rfl (PySem.evalArgs_none (hm pins s1 σ H1 x [] v [] Q I1 r1 .nil q1))⟩
theorem pe_bm (pa : PlainAttrs T) (slot : Slot T name id) (hty : typeOf (.builtin id) = pure (.type "method_descriptor")) (hm : MtR X id r) (ho : PE X o to) (ha : PA X (e :: es) t)
    (hbase : attributeBase o name X.env (eval o X.env) = eval o X.env := by rfl)
    (hfew : ((backTo cpos (starEach (e :: es) X.env)).all (fun x => !x.1) && (backToKw cpos (keywordEach [] X.env)).all (fun x => x.1.isSome)
      && decide ((e :: es).length + ([] : List Keyword).length + (if ([] : List Keyword).isEmpty then 0 else 1) < 30)) = true := by rfl)
    (hline : (apos.endLine == cpos.line) = true := by rfl) (hs : starEach (e :: es) X.env = (false, eval e X.env) :: starEach es X.env := by rfl) (hplain : (backTo cpos (starEach es X.env)).any (·.1) = false := by rfl) :
    PE X (.Call (.Attribute o name apos) (e :: es) [] cpos) (tBM X.K T r to t) := by
  intro pins s σ H Q I h
  refine wpAny_Call_method_late hbase hfew hline rfl (thn (ho pins s σ H _ I h) fun v s1 ⟨x, H1, I1, r1, ty, q1⟩ => ?_)
  obtain ⟨h1, h2⟩ := tyV_is I1 r1 ty
  refine ⟨T, id, pa, slot, hty, h1, h2, ?_⟩
  have hA := ha cpos pins s1 σ H1 _ I1 q1
  rw [hs] at hA ⊢
  refine Calls.callWith_builtin (by show (false || (backTo cpos (starEach es X.env)).any (·.1)) = false; rw [hplain] <;> rfl) (Calls.evalArgs_plain ?_)
  exact thn hA fun us s2 ⟨vs, H2, I2, r2, q2⟩ => hm pins s2 σ H2 x vs v us Q I2 r1 r2 q2
/- xs.append(e), list.index on a module's tuple .. are MtR facts of 06m -/
end
end L2

namespace L2
open PySem PySem.Spec PyProof.Rows

def MtM (X : Cx) (id : String) (r : V → List V → Hp → VK → Prop) : Prop :=
  ∀ (pins : List (Addr × Obj)) (s : Shared) (σ : St) (H : Hp) (x : V) (xs : List V) (v : Value) (us : List Value) (Q : VK), Inv X pins σ H s → RelV x v → Vals xs us → r x xs H Q →
    wpAny (model X.prog X.w) X.A (call (.builtin id) (v :: us)) (EP X pins σ Q) X.xe s

/-! ### lists of values -/
theorem Vals.one : ∀ {x : V} {us : List Value}, Vals [x] us → ∃ u, us = [u] ∧ RelV x u
  | _, _, .cons r .nil => ⟨_, rfl, r⟩
theorem Vals.two : ∀ {x y : V} {us : List Value}, Vals [x, y] us → ∃ u v, us = [u, v] ∧ RelV x u ∧ RelV y v
  | _, _, _, .cons r (.cons q .nil) => ⟨_, _, rfl, r, q⟩
theorem Vals.zero : ∀ {us : List Value}, Vals [] us → us = []
  | _, .nil => rfl
theorem Vals.dropLast {xs : List V} {us : List Value} (h : Vals xs us) : Vals xs.dropLast us.dropLast := by
  induction h with
  | nil => exact .nil
  | cons r t ih =>
    cases t with
    | nil => exact .nil
    | cons q t' => exact .cons r ih
theorem Vals.eraseIdx : ∀ {xs : List V} {us : List Value} (i : Nat), Vals xs us → Vals (xs.eraseIdx i) (us.eraseIdx i)
  | _, _, _, .nil => .nil
  | _, _, 0, .cons _ t => t
  | _, _, i + 1, .cons r t => .cons r (Vals.eraseIdx i t)
theorem Vals.reverse {xs : List V} {us : List Value} (h : Vals xs us) : Vals xs.reverse us.reverse := by
  induction h with
  | nil => exact .nil
  | cons r t ih => rw [List.reverse_cons, List.reverse_cons]; exact Vals.append ih (.cons r .nil)
theorem Vals.rep {xs : List V} {us : List Value} (h : Vals xs us) : ∀ k : Nat, Vals (List.replicate k xs).flatten (List.replicate k us).flatten
  | 0 => .nil
  | k + 1 => by
    rw [List.replicate_succ, List.replicate_succ, List.flatten_cons, List.flatten_cons]
    exact Vals.append h (Vals.rep h k)
theorem erase_last {α : Type} (l : List α) : l.eraseIdx (l.length - 1) = l.dropLast := by
  induction l with
  | nil => rfl
  | cons a r ih =>
    cases r with
    | nil => rfl
    | cons b r =>
      have e : (a :: b :: r).length - 1 = ((b :: r).length - 1) + 1 := by
        have h1 : (a :: b :: r).length = r.length + 2 := rfl
        have h2 : (b :: r).length = r.length + 1 := rfl
        omega
      rw [e, List.eraseIdx_cons_succ, ih]
      all_goals rfl
theorem len_erase {α : Type} : ∀ (l : List α) (i : Nat), (l.eraseIdx i).length ≤ l.length
  | [], _ => Nat.le_refl _
  | _ :: _, 0 => Nat.le_succ _
  | _ :: r, i + 1 => Nat.succ_le_succ (len_erase r i)
theorem foldl_rep (its : List Value) : ∀ (k : Nat) (acc : List Value),
    List.foldl (fun x1 x2 => x1 ++ x2) acc.toArray (List.replicate k its.toArray) = (acc ++ (List.replicate k its).flatten).toArray
  | 0, acc => by simp
  | k + 1, acc => by
    have e : acc.toArray ++ its.toArray = (acc ++ its).toArray := by simp
    have e2 : (acc ++ its) ++ (List.replicate k its).flatten = acc ++ (List.replicate (k + 1) its).flatten := by
      rw [List.replicate_succ, List.flatten_cons, List.append_assoc]
    rw [← e2, ← foldl_rep its k (acc ++ its), ← e, List.replicate_succ, List.foldl_cons]

section
variable {X : Cx} {pins : List (Addr × Obj)} {σ : St} {H : Hp} {s : Shared} {l b : Addr} {xs ys zs : List V}

/-! ### the two steps: a tracked list is rewritten, a new list is laid -/
theorem Inv.lset {its its' : List Value} {n : Nat} {f : Array Value → Array Value} {t' : Nat} (I : Inv X pins σ H s) (hH : H l = some (.lst xs))
    (e : s.heap.get? l = some { cls := .type "list", data := .seq its.toArray n }) (hf : f its.toArray = its'.toArray) (hv : Vals ys its') (hz : ys.length ≤ sizeLine) :
    Inv X pins σ (upd H l (.lst ys)) { s with heap := s.heap.update l (Obj.mapSeq f), toks := t' } := by
  have q := PySem.IsL.update e f
  rw [hf] at q
  refine I.write (x := l) (e := l) (by rw [hH]; exact trivial) (.inl rfl) (fun b' u hb hu => (Heap.get?_update_other s.heap (Obj.mapSeq f) (Ne.symm hb)).trans hu) ⟨_, q⟩ ?_
  exact ⟨hz, its', _, hv, q⟩
theorem Inv.lnew {its : List Value} {t' : Nat} (I : Inv X pins σ H s) (hv : Vals ys its) (hz : ys.length ≤ sizeLine) :
    Inv X pins σ (upd H s.heap.objs.size (.lst ys)) { s with heap := s.heap.push { cls := .type "list", data := .seq its.toArray }, toks := t' } :=
  I.laid (fun _ _ q => Heap.get?_push_of_some _ q) (Nat.le_refl _) ⟨hz, its, 0, hv, Heap.get?_push_size _ rfl⟩
theorem Inv.fresh (I : Inv X pins σ H s) : H s.heap.objs.size = none := I.hok.fresh (Nat.le_refl _)
theorem Inv.lstM (I : Inv X pins σ H s) (hH : H l = some (.lst xs)) : xs.length ≤ sizeLine ∧ ∃ (its : List Value) (n : Nat), Vals xs its ∧ xs.length = its.length ∧ s.heap.get? l = some { cls := .type "list", data := .seq its.toArray n } := by
  obtain ⟨z, its, n, r, e⟩ := I.hok l _ hH
  exact ⟨z, its, n, r, r.length, e⟩

theorem notLongL {n : Nat} (h : n ≤ sizeLine) : Builtin.List.listTooLong n = false := by
  unfold Builtin.List.listTooLong
  exact decide_eq_false (by omega)
end

section
variable {X : Cx}

/-! ### methods -/
def rAppend : V → List V → Hp → VK → Prop := fun x vs H Q => ∃ l xs y, x = .ref l ∧ vs = [y] ∧ H l = some (.lst xs) ∧ xs.length < sizeLine ∧ Q .non (upd H l (.lst (xs ++ [y])))
theorem mt_append : MtM X "list.append" rAppend := by
  intro pins s σ H x vs v us Q I rx rv h
  obtain ⟨l, xs, y, rfl, rfl, hH, hz, q⟩ := h
  cases rx
  obtain ⟨u, rfl, ru⟩ := rv.one
  obtain ⟨z, its, n, r, hl, e⟩ := I.lstM hH
  refine call_meets F.slot_list_append ⟨_, e, rfl⟩ F.entry_list_append (F.args_list_append_2 _ _) (PySem.list_append l its.toArray n u (by rw [List.size_toArray]; omega)) ⟨e, ?_⟩
  refine ⟨.non, _, I.lset (its' := its ++ [u]) hH e (by simp) (r.append (.cons ru .nil)) ?_, rfl, q⟩
  rw [List.length_append, List.length_singleton]
  omega

def rExtend : V → List V → Hp → VK → Prop := fun x vs H Q => ∃ l b xs zs, x = .ref l ∧ vs = [.ref b] ∧ H l = some (.lst xs) ∧ H b = some (.lst zs) ∧ xs.length + zs.length ≤ sizeLine ∧ Q .non (upd H l (.lst (xs ++ zs)))
theorem mt_extend : MtM X "list.extend" rExtend := by
  intro pins s σ H x vs v us Q I rx rv h
  obtain ⟨l, b, xs, zs, rfl, rfl, hH, hB, hz, q⟩ := h
  cases rx
  obtain ⟨u, rfl, ru⟩ := rv.one
  cases ru
  obtain ⟨z, its, n, r, hl, e⟩ := I.lstM hH
  obtain ⟨z2, its2, n2, r2, hl2, e2⟩ := I.lstM hB
  have hsz : its.toArray.size + its2.toArray.size ≤ sizeLine := by rw [List.size_toArray, List.size_toArray]; omega
  have hlong : ¬ (!its.toArray.isEmpty && Builtin.List.listTooLong (its.toArray.size + its2.toArray.size)) = true := by
    rw [notLongL hsz, Bool.and_false]
    exact Bool.false_ne_true
  refine call_meets F.slot_list_extend ⟨_, e, rfl⟩ F.entry_list_extend (F.args_list_extend_2 _ _)
    (AutoSeq1.list_extend_list_list_0 l its.toArray n b its2.toArray n2 hlong (by rw [List.size_toArray]; omega) (by omega)) ⟨e, e2, ?_⟩
  refine ⟨.non, _, I.lset (its' := its ++ its2) hH e (by simp) (r.append r2) ?_, rfl, q⟩
  rw [List.length_append]
  omega

def rPop : V → List V → Hp → VK → Prop := fun x vs H Q => ∃ l xs y, x = .ref l ∧ vs = [] ∧ H l = some (.lst xs) ∧ xs[xs.length - 1]? = some y ∧ Q y (upd H l (.lst xs.dropLast))
theorem mt_pop : MtM X "list.pop" rPop := by
  intro pins s σ H x vs v us Q I rx rv h
  obtain ⟨l, xs, y, rfl, rfl, hH, hy, q⟩ := h
  cases rx
  have hus := rv.zero
  subst hus
  obtain ⟨z, its, n, r, hl, e⟩ := I.lstM hH
  obtain ⟨u, hu, ru⟩ := r.get hy
  have hy' : its.toArray[its.toArray.size - 1]? = some u := by
    show its.toArray[its.length - 1]? = some u
    rw [← Array.getElem?_toList, ← hl]
    exact hu
  refine call_meets F.slot_list_pop ⟨_, e, rfl⟩ F.entry_list_pop (F.args_list_pop_1 _) (MeetsSeq.list_pop_last l its.toArray n u hy' (by rw [List.size_toArray]; omega)) ⟨e, ?_⟩
  refine ⟨y, _, I.lset (its' := its.dropLast) hH e ?_ r.dropLast ?_, ru, q⟩
  · show its.toArray.eraseIdxIfInBounds (its.toArray.size - 1) = its.dropLast.toArray
    rw [List.size_toArray, List.eraseIdxIfInBounds_toArray, erase_last]
  · rw [List.length_dropLast]
    omega

def rPopAt : V → List V → Hp → VK → Prop := fun x vs H Q => ∃ l xs i k y, x = .ref l ∧ vs = [.int i] ∧ H l = some (.lst xs) ∧ -(2 ^ 63) ≤ i ∧ i < 2 ^ 63 ∧ seqIndex? i xs.length = some k ∧ xs[k]? = some y ∧ Q y (upd H l (.lst (xs.eraseIdx k)))
theorem mt_popAt : MtM X "list.pop" rPopAt := by
  intro pins s σ H x vs v us Q I rx rv h
  obtain ⟨l, xs, i, k, y, rfl, rfl, hH, h1, h2, hk, hy, q⟩ := h
  cases rx
  obtain ⟨u, rfl, ru⟩ := rv.one
  obtain ⟨t, rfl⟩ := ru
  obtain ⟨z, its, n, r, hl, e⟩ := I.lstM hH
  obtain ⟨w, hw, rw'⟩ := r.get hy
  refine call_meets F.slot_list_pop ⟨_, e, rfl⟩ F.entry_list_pop (F.args_list_pop_2 _ _)
    (MeetsSeq.list_pop_at l its.toArray n i t k w (fitsIndex_both h1 h2) (by rw [List.size_toArray, ← hl]; exact hk) (by rw [← Array.getElem?_toList]; exact hw) (by rw [List.size_toArray]; omega)) ⟨e, ?_⟩
  refine ⟨y, _, I.lset (its' := its.eraseIdx k) hH e ?_ (r.eraseIdx k) ?_, rw', q⟩
  · show its.toArray.eraseIdxIfInBounds k = (its.eraseIdx k).toArray
    rw [List.eraseIdxIfInBounds_toArray]
  · have := len_erase xs k
    omega

def rReverse : V → List V → Hp → VK → Prop := fun x vs H Q => ∃ l xs, x = .ref l ∧ vs = [] ∧ H l = some (.lst xs) ∧ Q .non (upd H l (.lst xs.reverse))
theorem mt_reverse : MtM X "list.reverse" rReverse := by
  intro pins s σ H x vs v us Q I rx rv h
  obtain ⟨l, xs, rfl, rfl, hH, q⟩ := h
  cases rx
  have hus := rv.zero
  subst hus
  obtain ⟨z, its, n, r, hl, e⟩ := I.lstM hH
  refine call_meets F.slot_list_reverse ⟨_, e, rfl⟩ F.entry_list_reverse (F.args_list_reverse_1 _) (AutoSeq1.list_reverse_list_0 l its.toArray n (by rw [List.size_toArray]; omega)) ⟨e, ?_⟩
  refine ⟨.non, _, I.lset (its' := its.reverse) hH e (by simp) r.reverse ?_, rfl, q⟩
  rw [List.length_reverse]
  omega

def rClear : V → List V → Hp → VK → Prop := fun x vs H Q => ∃ l xs, x = .ref l ∧ vs = [] ∧ H l = some (.lst xs) ∧ Q .non (upd H l (.lst []))
theorem mt_clear : MtM X "list.clear" rClear := by
  intro pins s σ H x vs v us Q I rx rv h
  obtain ⟨l, xs, rfl, rfl, hH, q⟩ := h
  cases rx
  have hus := rv.zero
  subst hus
  obtain ⟨z, its, n, r, hl, e⟩ := I.lstM hH
  refine call_meets F.slot_list_clear ⟨_, e, rfl⟩ F.entry_list_clear (F.args_list_clear_1 _) (AutoSeq1.list_clear_list_0 l its.toArray n (by rw [List.size_toArray]; omega)) ⟨e, ?_⟩
  exact ⟨.non, _, I.lset (its' := []) (ys := []) hH e rfl .nil (Nat.zero_le _), rfl, q⟩

/-! ### list + list, list += list, list * int -/
def rCat : R2 := fun x y H Q => ∃ l b xs zs, x = .ref l ∧ y = .ref b ∧ H l = some (.lst xs) ∧ H b = some (.lst zs) ∧ xs.length + zs.length ≤ sizeLine ∧ ∀ p, H p = none → Q (.ref p) (upd H p (.lst (xs ++ zs)))
theorem op_cat : OpR X (binaryOp .Add) rCat := by
  intro pins s σ H x y v u Q I rx ry h
  obtain ⟨l, b, xs, zs, rfl, rfl, hH, hB, hz, q⟩ := h
  cases rx
  cases ry
  obtain ⟨z, its, n, r, hl, e⟩ := I.lstM hH
  obtain ⟨z2, its2, n2, r2, hl2, e2⟩ := I.lstM hB
  refine PySem.P.add_list e e2 ?_ (by rw [List.size_toArray, List.size_toArray]; omega)
  have ea : its.toArray ++ its2.toArray = (its ++ its2).toArray := by simp
  rw [ea]
  exact ⟨.ref _, _, I.lnew (t' := s.toks) (r.append r2) (by rw [List.length_append]; omega), rfl, q _ I.fresh⟩
/-- a list times an int (a negative one is nothing) -/
def rRep : R2 := fun x y H Q => ∃ l k xs, x = .ref l ∧ y = .int k ∧ H l = some (.lst xs) ∧ -(2 ^ 63) ≤ k ∧ k < 2 ^ 63 ∧ xs.length * k.toNat ≤ sizeLine ∧
  ∀ p, H p = none → Q (.ref p) (upd H p (.lst (List.replicate k.toNat xs).flatten))
theorem len_rep {α : Type} (xs : List α) (k : Nat) : (List.replicate k xs).flatten.length = k * xs.length := by
  induction k with
  | zero => simp
  | succ k ih => rw [List.replicate_succ, List.flatten_cons, List.length_append, ih, Nat.succ_mul, Nat.add_comm]
theorem op_rep : OpR X (binaryOp .Mult) rRep := by
  intro pins s σ H x y v u Q I rx ry h
  obtain ⟨l, k, xs, rfl, rfl, hH, h1, h2, hz, q⟩ := h
  cases rx
  obtain ⟨t, rfl⟩ := ry
  obtain ⟨z, its, n, r, hl, e⟩ := I.lstM hH
  have hlen : its.toArray.size * k.toNat ≤ sizeLine := by rw [List.size_toArray, ← hl]; exact hz
  have hcap : ¬ its.toArray.size * k.toNat > (2 ^ 63 - 1) / 8 := by
    have : (sizeLine : Nat) ≤ (2 ^ 63 - 1) / 8 := by decide
    omega
  have hfit : ¬ (!Builtin.List.listFitsIndex k) = true := by
    rw [fitsIndex_both h1 h2]
    exact Bool.false_ne_true
  have hlong : ¬ Builtin.List.listTooLong (its.toArray.size * k.toNat) = true := by
    rw [notLongL hlen]
    exact Bool.false_ne_true
  have hnew : List.foldl (fun x1 x2 => x1 ++ x2) #[] (List.replicate (if its.toArray.isEmpty = true then 0 else k.toNat) its.toArray) = (List.replicate k.toNat its).flatten.toArray := by
    have f0 : ∀ m : Nat, List.foldl (fun x1 x2 => x1 ++ x2) #[] (List.replicate m its.toArray) = (List.replicate m its).flatten.toArray := fun m => by
      have := foldl_rep its m []
      rw [List.nil_append] at this
      exact this
    rw [f0]
    cases its with
    | nil => simp
    | cons a r' => rw [if_neg (by simp)]
  refine wpAny_binaryOp_repeat_ref (T := "list") (U := "int") (by decide) ⟨_, e, rfl⟩ (fun s' => typeIs_int s' k t) noFill_list_mul F.fills_int_mul F.slot_int_rmul repeat_list F.slot_int_index.lookup
    (call_meets F.slot_int_rmul (typeIs_int s k t) F.entry_int_rmul (F.args_int_rmul_2 _ _) (int___rmul___int_list k t l its.toArray n)
      ⟨e, rfl, ⟨_, e, rfl⟩, call_meets F.slot_list_mul ⟨_, e, rfl⟩ F.entry_list_mul (F.args_list_mul_2 _ _) (AutoListH.list___mul___list_int_3 l its.toArray n k t hfit hcap hlong) ⟨e, ?_⟩⟩)
  rw [hnew]
  exact ⟨.ref _, _, I.lnew (t' := s.toks) (r.rep k.toNat) (by rw [len_rep, Nat.mul_comm]; exact hz), rfl, q _ I.fresh⟩

/-! ### del xs[i] -/
theorem del_list {pins : List (Addr × Obj)} {s : Shared} {σ : St} {H : Hp} {l : Addr} {xs : List V} {i : Int} {t : Tok} {k : Nat} {Q : Unit → Shared → Prop} (I : Inv X pins σ H s) (hH : H l = some (.lst xs))
    (h1 : -(2 ^ 63) ≤ i) (h2 : i < 2 ^ 63) (hk : seqIndex? i xs.length = some k) (h : ∀ s', Inv X pins σ (upd H l (.lst (xs.eraseIdx k))) s' → Q () s') :
    wpAny (model X.prog X.w) X.A (delItem (.ref l) (.int i t)) Q X.xe s := by
  obtain ⟨z, its, n, r, hl, e⟩ := I.lstM hH
  refine PySem.P.delItem_list (k := k) e (fitsIndex_both h1 h2) (by rw [List.size_toArray, ← hl]; exact hk) (h _ ?_) (by rw [List.size_toArray]; omega)
  refine I.lset (its' := its.eraseIdx k) (t' := s.toks) hH e ?_ (r.eraseIdx k) ?_
  · show its.toArray.eraseIdxIfInBounds k = (its.eraseIdx k).toArray
    rw [List.eraseIdxIfInBounds_toArray]
  · have := len_erase xs k
    omega
end

/-! ### xs[a:b] = ys -/
section
variable {prog : Program} {w : World} {A : Around} {E : Value → Shared → Prop} {s : Shared}
theorem splice_eq (its its2 : List Value) (a c : Nat) : its.toArray.extract 0 a ++ its2.toArray ++ its.toArray.extract c its.toArray.size = (its.take a ++ its2 ++ its.drop c).toArray := by
  apply Array.toList_inj.mp
  first
    | (simp
       exact List.take_of_length_le (by simp))
    | simp [List.take_of_length_le]
    | simp
theorem bounds_run {a c n : Nat} (hac : a ≤ c) (hc : c ≤ n) : sliceBounds (some (a : Int)) (some (c : Int)) none n = ((a : Int), (c : Int), 1) := by
  simp only [sliceBounds, Option.getD_none]
  have h1 : ¬ ((a : Int) < 0) := by omega
  have h2 : ¬ ((c : Int) < 0) := by omega
  simp only [h1, h2, if_false, show (1 : Int) > 0 by decide, if_true]
  congr 1
  · omega
  · congr 1; omega
set_option maxRecDepth 100000 in
/-- list.__setitem__ with a slice of step one and another list -/
theorem setItem_slice {l b sl : Addr} {items new : Array Value} {n n2 : Nat} {vl vu : Value} {a c : Nat} {Q : Unit → Shared → Prop}
    (e : s.heap.get? l = some { cls := .type "list", data := .seq items n }) (e2 : s.heap.get? b = some { cls := .type "list", data := .seq new n2 }) (hne : l ≠ b)
    (hs : s.heap.IsSliceOf sl vl vu .none) (pl : IsPart vl (some (a : Int))) (pu : IsPart vu (some (c : Int))) (hac : a ≤ c) (hc : c ≤ items.size)
    (hsz : items.size + new.size ≤ sizeLine) (h : Q () { s with heap := s.heap.update l (Obj.mapSeq fun xs => xs.extract 0 a ++ new ++ xs.extract c xs.size) }) :
    wpAny (model prog w) A (setItem (.ref l) (.ref sl) (.ref b)) Q E s := by
  have hl : s.heap.IsList l items := PySem.IsL.isList e
  have hb : s.heap.IsList b new := PySem.IsL.isList e2
  obtain ⟨os, hos, hcs, hds⟩ := id hs
  have hTs : s.TypeIs (.ref sl) "slice" := ⟨os, hos, hcs⟩
  have hstep : ¬ ((rawPart none == rawInt 0) = true) := Bool.false_ne_true
  have hsame : Builtin.List.listSameRef (.ref l) (.ref b) = false := by
    unfold Builtin.List.listSameRef
    exact beq_eq_false_iff_ne.mpr hne
  have hmax : (max (a : Int) (c : Int)).toNat = c := by omega
  have hz' : ((fun xs : Array Value => xs.extract 0 a ++ new ++ xs.extract c xs.size) items).size ≤ sizeLine + 1 := by
    simp only [Array.size_append, Array.size_extract]
    omega
  unfold setItem
  try with_reducible refine wpAny_holding ?_
  first | refine wpAny_bind (wpAny_pure ?_) | skip
  refine wpAny_bind (wpAny_sequenceKey hl.typeIs (by decide) ?_)
  refine wpAny_bind (wpAny_callSpecial?_slot (name := Str.ofString "__setitem__") hl.typeIs slot_list_setitem
    (wpAny_call_entry slot_list_setitem hl.typeIs entry_list_setitem ?_ (args_list_setitem _ _ _)))
  show wpAny _ _ (Builtin.List.listSubscript? (.ref sl) >>= _) _ _ s
  refine wpAny_bind ?_
  unfold Builtin.List.listSubscript?
  refine wpAny_bind (wpAny_specialOf hTs slice_no_index ?_)
  simp only [Option.isNone_none, if_true]
  refine wpAny_pure ?_
  show wpAny _ _ (typeOf (.ref sl) >>= _) _ _ s
  refine wpAny_bind (wpAny_typeOf hTs ?_)
  first
    | rw [if_neg (by decide)]
    | refine PySem.W.KFB.if_not (by decide) ?_
  rw [listSliceParts_eq]
  refine wpAny_bind (wpAny_bind (wpAny_field hos hds (x := .none) rfl (wpAny_bind (wpAny_listPart .none ?_))))
  rw [if_neg hstep]
  refine wpAny_bind (wpAny_field hos hds (x := vl) rfl (wpAny_bind (wpAny_listPart pl ?_)))
  refine wpAny_bind (wpAny_field hos hds (x := vu) rfl (wpAny_bind (wpAny_listPart pu (wpAny_pure ?_))))
  first
    | simp only [hsame, Bool.false_eq_true, if_false]
    | refine PySem.W.KFB.if_not hsame ?_
    | (dsimp only
       rw [if_neg (by rw [hsame]; exact Bool.false_ne_true)])
  refine wpAny_bind (m := Builtin.List.listAllItems (.ref b) "must assign iterable to extended slice") ?_
  unfold Builtin.List.listAllItems
  refine wpAny_bind (wpAny_typeOf hb.typeIs ?_)
  first
    | refine PySem.W.KFB.if_so (by decide) ?_
    | rw [if_pos (by decide)]
    | simp only [beq_self_eq_true, Bool.true_or, if_true]
  unfold Builtin.List.listItems
  refine wpAny_bind (wpAny_seqItems e2 rfl (wpAny_pure ?_))
  refine wpAny_bind (wpAny_bind (wpAny_seqItems e rfl (wpAny_pure ?_)))
  refine wpAny_bind (wpAny_of_eq ((sliceIndices_raw (some (a : Int)) (some (c : Int)) none items.size (by simp)).trans (congrArg (pure : Int × Int × Int → Sem (Int × Int × Int)) (bounds_run hac hc))) ?_)
  show wpAny _ _ (if ((1 : Int) == 1) = true then _ else _) _ _ s
  rw [if_pos (by decide)]
  refine wpAny_bind (wpAny_rule ?_)
  first
    | simp only [notLongL hsz, Bool.false_eq_true, if_false]
    | refine PySem.W.KFB.if_not (notLongL hsz) ?_
  first | refine wpAny_bind (wpAny_pure ?_) | skip
  show wpAny _ _ (updateSeq l (fun xs => xs.extract 0 ((a : Int)).toNat ++ new ++ xs.extract (max (a : Int) (c : Int)).toNat xs.size) >>= _) _ _ s
  rw [hmax, Int.toNat_natCast]
  refine wpAny_bind (wpAny_updateSeq (hz := Nat.le_trans (Nat.le_add_right _ _) hsz) (_hz' := hz') e rfl ?_)
  refine wpAny_bind (wpAny_letGo ?_)
  first
    | exact wpAny_bind (wpAny_pure (wpAny_pure ⟨.none, rfl, wpAny_pure h⟩))
    | exact wpAny_pure ⟨.none, rfl, wpAny_pure h⟩
end

section
variable {X : Cx}
/-- xs[a:c] = ys of another list, at the value level: sl is the slice object that was just made -/
theorem set_slice {pins : List (Addr × Obj)} {s : Shared} {σ : St} {H : Hp} {l b sl : Addr} {xs ys : List V} {a c : Int} {vl vu : Value} {Q : Unit → Shared → Prop} (I : Inv X pins σ H s)
    (hH : H l = some (.lst xs)) (hB : H b = some (.lst ys)) (hne : l ≠ b) (hs : s.heap.IsSliceOf sl vl vu .none) (ra : RelV (.int a) vl) (rc : RelV (.int c) vu) (h0 : 0 ≤ a) (hac : a ≤ c) (hc : c ≤ xs.length)
    (hz : xs.length + ys.length ≤ sizeLine) (h : ∀ s', Inv X pins σ (upd H l (.lst (xs.take a.toNat ++ ys ++ xs.drop c.toNat))) s' → Q () s') :
    wpAny (model X.prog X.w) X.A (setItem (.ref l) (.ref sl) (.ref b)) Q X.xe s := by
  obtain ⟨ta, rfl⟩ := ra
  obtain ⟨tc, rfl⟩ := rc
  obtain ⟨z, its, n, r, hl, e⟩ := I.lstM hH
  obtain ⟨z2, its2, n2, r2, hl2, e2⟩ := I.lstM hB
  obtain ⟨a', rfl⟩ := Int.eq_ofNat_of_zero_le h0
  obtain ⟨c', rfl⟩ := Int.eq_ofNat_of_zero_le (Int.le_trans h0 hac)
  simp only [Int.toNat_natCast] at h
  refine setItem_slice (a := a') (c := c') e e2 hne hs (.int _ _) (.int _ _) (by omega) (by rw [List.size_toArray]; omega) (by rw [List.size_toArray, List.size_toArray]; omega) (h _ ?_)
  refine I.lset (its' := its.take a' ++ its2 ++ its.drop c') (t' := s.toks) hH e ?_ (Vals.append (Vals.append (r.take _) r2) (r.drop _)) ?_
  · exact splice_eq its its2 a' c'
  · rw [List.length_append, List.length_append, List.length_take, List.length_drop]
    omega
end
end L2

namespace Att
open PySem PySem.W PySem.Calls PyProof.Rows

/-! ### the script -/
theorem ints_of_wellAll {P : Params} {h : Heap} : ∀ (ns : List Int) (vs : List Value), WellAll P h vs (ns.map WData.int) → IntsAre vs ns := by
  intro ns
  induction ns with
  | nil =>
    intro vs w
    rw [List.map_nil] at w
    cases w
    exact .nil
  | cons n ns ih =>
    intro vs w
    rw [List.map_cons] at w
    cases w with
    | cons a b =>
      cases a
      exact .cons _ _ (ih _ b)

theorem script_of {l : OpenLaw} {n : Nat} (hn : l.most = some n) {P : Params} {h : Heap} {args : List WData} {vals : List Value}
    (hpre : l.row.toRowW.claim.pre args = true) (hwl : WellAll P h vals args) :
    ∃ a vs ns, vals = [Value.ref a] ∧ args = [WData.list (ns.map WData.int)] ∧ h.get? a = some { cls := .type "list", data := .seq vs.toArray } ∧ IntsAre vs ns ∧ ns.length ≤ n := by
  have hsh : WShape.hasAll [] args [.list .int] = true := (pre_splitW hpre).1
  have hc : l.pre.holds [] { args := args } = true := (pre_splitW hpre).2
  obtain ⟨d, r, rfl, h1, h2⟩ := hasAllW_cons hsh
  obtain rfl := hasAllW_nil h2
  obtain ⟨xs, rfl, h3⟩ := hasW_list h1
  obtain ⟨ns, rfl⟩ := items_int h3
  have hlen : ns.length ≤ n := by
    unfold OpenLaw.pre at hc
    have h4 : (WTm.not (.lt (.lit (.int (n : Int))) (.len (.arg 0)))).holds [] { args := [.list (ns.map .int)] } = true := by
      have h4 := (holds_andW hc).1
      rw [hn] at h4
      exact h4
    have h5 := condW_of h4 (w_not (w_lt w_lit (w_len_list (w_arg rfl))))
    rw [List.length_map] at h5
    refine Nat.le_of_not_lt fun q => ?_
    have q' : (n : Int) < ((ns.length : Nat) : Int) := by omega
    first
      | (rw [decide_eq_true q'] at h5; exact absurd h5 (by decide))
      | (simp at h5; omega)
  cases hwl with
  | cons w1 w2 =>
    cases w2
    cases w1 with
    | list ho hall => exact ⟨_, _, ns, rfl, rfl, ho, ints_of_wellAll ns _ hall, hlen⟩

theorem post_true (l : OpenLaw) (args : List WData) : l.row.toRowW.claim.post args (.bool true) args = true :=
  postW_of (r := l.row.toRowW) (X := (true == true))
    (show WShape.has [] (.bool true) .bool = true by first | rfl | decide | simp [WShape.has, WShape.arms, WShape.armsAll])
    (show (WTm.eq .res (.lit (.bool true))).value [] { args := args, res := some (.bool true), after := args } = some (.bool (true == true)) from w_eq_bool (w_res rfl) w_lit) rfl

/-! ### the attachment: holds_open's last premise (the goal 'hc' behind k_head) from a wpAny of the law's body -/
theorem attach {l : OpenLaw} {n : Nat} {q : Program} {loose : List Str} {XP : (Str → Option Value) → Heap → Prop} {YP : World → Heap → Prop} {d : DefRec} {x : Str}
    (hn : l.most = some n) (hdf : d.params.defaults = [])
    (hbind : ∀ pm cd doc v : Value, bindArgs (docDef d.name d.params d.body d.scope pm cd doc) ⟨[v], []⟩ = pure [(x, v)])
    (hx : d.scope.names.lookup x = some .local ∨ d.scope.names.lookup x = some .cell)
    (hk : d.scope.kind = .function) (hco : d.scope.isCoroutine = false) (hgen : d.scope.isGenerator = false)
    (body : ∀ (w : World) (s₀ s₁ s : Shared) (mg mb : Str → Option Value) (fa : Addr) (o : Obj) (pm cd doc : Value) (a : Addr) (vs : List Value) (ns : List Int),
      Ground q loose [] XP w s₀ mg mb s₁.heap → YP w s₁.heap →
      s₁.heap.get? fa = some o → o.data = .func (docDef d.name d.params d.body d.scope pm cd doc) → s₁.heap.CodeRec cd d.name → mg d.name = some (.ref fa) →
      s₁.heap.get? a = some { cls := .type "list", data := .seq vs.toArray } → IntsAre vs ns → ns.length ≤ n →
      s.gens = #[] → s.os = s₁.os →
      Fr s₁.heap s₁.heap.objs.size s.heap (bindL (envOfC d.name d.scope s₁.heap.objs.size fa cd).kindOf [(x, .ref a)] fun _ => none) →
      Cl s₁.heap.objs.size (cellsFrom (s₁.heap.objs.size + 1) d.scope.names []) s.heap (bindC (envOfC d.name d.scope s₁.heap.objs.size fa cd).kindOf [(x, .ref a)] fun _ => none) →
      wpAny (model l.prog w) (callerA.deeper (envOfC d.name d.scope s₁.heap.objs.size fa cd)) (execs d.body (envOfC d.name d.scope s₁.heap.objs.size fa cd))
        (fun f s' => f = .ret (.bool true) ∧ OldK s₁.heap s'.heap ∧ s'.os = s₁.os ∧ AllBare s'.gens) (fun _ _ => False) s) :
    WalkO q loose XP YP l.row.toRowW d [] (fun f vs => PySem.call f vs) := by
  intro w s₀ s₁ mg mb G Y fa o pm cd doc dV kV ho hd hcd hD hmg hg args vals as hpre hlay hrd hwl hlo
  obtain rfl : dV = .none := Dflts.none hD hdf
  obtain rfl : kV = .none := Dflts.noKw hD
  obtain ⟨a, vs, ns, rfl, rfl, hobj, hints, hlen⟩ := script_of hn hpre hwl
  refine enter_call ?_
  refine call_cells_ret (o := o) (by rw [depth_caller]; decide) ho (fd_plain hd) G.T.nolimit hcd (hbind pm cd doc (.ref a)) (fun y hy => ?_) (fun h₁ tk F X => ?_) hco hgen hk
  · obtain rfl : y = (x, Value.ref a) := List.mem_singleton.mp hy
    rcases hx with e | e
    · exact .inl e
    · exact .inr ⟨e, cellsFrom_some _ _ _ (.inl e)⟩
  · refine wpAny_mono (body w s₀ s₁ { s₁ with heap := h₁, toks := tk } mg mb fa o pm cd doc a vs ns G Y ho (fd_plain hd) hcd hmg hobj hints hlen hg rfl F X) (fun f s' hq => ?_) (fun _ _ hq => hq)
    obtain ⟨rfl, h2, h3, h4⟩ := hq
    exact ⟨.inl ⟨.bool true, .bool true, [], rfl, fun _ => rfl, .bool true, post_true l _, fun _ => ⟨List.Pairwise.nil, fun _ hm => (nomatch hm)⟩⟩, h2, h3, h4⟩

/-- the same from a codeAny of the CALL (for a layer whose function contracts speak of calls) -/
theorem attach_call {l : OpenLaw} {n : Nat} {q : Program} {loose : List Str} {XP : (Str → Option Value) → Heap → Prop} {YP : World → Heap → Prop} {d : DefRec}
    (hn : l.most = some n) (hdf : d.params.defaults = [])
    (call : ∀ (w : World) (s₀ s₁ : Shared) (mg mb : Str → Option Value) (fa : Addr) (o : Obj) (pm cd doc : Value) (a : Addr) (vs : List Value) (ns : List Int),
      Ground q loose [] XP w s₀ mg mb s₁.heap → YP w s₁.heap →
      s₁.heap.get? fa = some o → o.data = .func (docDef d.name d.params d.body d.scope pm cd doc) → s₁.heap.CodeRec cd d.name → mg d.name = some (.ref fa) →
      s₁.heap.get? a = some { cls := .type "list", data := .seq vs.toArray } → IntsAre vs ns → ns.length ≤ n → s₁.gens = #[] →
      codeAny (model l.prog w) callerA (.call (.ref fa) ⟨[.ref a], []⟩) (fun r s' => r = .ok (.ret (.bool true)) ∧ OldK s₁.heap s'.heap ∧ s'.os = s₁.os ∧ AllBare s'.gens) s₁) :
    WalkO q loose XP YP l.row.toRowW d [] (fun f vs => PySem.call f vs) := by
  intro w s₀ s₁ mg mb G Y fa o pm cd doc dV kV ho hd hcd hD hmg hg args vals as hpre hlay hrd hwl hlo
  obtain rfl : dV = .none := Dflts.none hD hdf
  obtain rfl : kV = .none := Dflts.noKw hD
  obtain ⟨a, vs, ns, rfl, rfl, hobj, hints, hlen⟩ := script_of hn hpre hwl
  refine enter_call (codeAny_mono (call w s₀ s₁ mg mb fa o pm cd doc a vs ns G Y ho (fd_plain hd) hcd hmg hobj hints hlen hg) fun r s' hq => ?_)
  obtain ⟨rfl, h2, h3, h4⟩ := hq
  exact ⟨.inl ⟨.bool true, .bool true, [], rfl, fun _ => rfl, .bool true, post_true l _, fun _ => ⟨List.Pairwise.nil, fun _ hm => (nomatch hm)⟩⟩, h2, h3, h4⟩

/-- the same where the top left finished generators (o_head chose holds_openN): nothing may have changed at all and no generator may be left -/
theorem attachN {l : OpenLaw} {n : Nat} {q : Program} {loose : List Str} {XP : (Str → Option Value) → Heap → Prop} {YP : World → Heap → Prop} {d : DefRec} {x : Str}
    (hn : l.most = some n) (hdf : d.params.defaults = [])
    (hbind : ∀ pm cd doc v : Value, bindArgs (docDef d.name d.params d.body d.scope pm cd doc) ⟨[v], []⟩ = pure [(x, v)])
    (hx : d.scope.names.lookup x = some .local ∨ d.scope.names.lookup x = some .cell)
    (hk : d.scope.kind = .function) (hco : d.scope.isCoroutine = false) (hgen : d.scope.isGenerator = false)
    (body : ∀ (w : World) (s₀ s₁ s : Shared) (mg mb : Str → Option Value) (fa : Addr) (o : Obj) (pm cd doc : Value) (a : Addr) (vs : List Value) (ns : List Int),
      Ground q loose [] XP w s₀ mg mb s₁.heap → YP w s₁.heap →
      s₁.heap.get? fa = some o → o.data = .func (docDef d.name d.params d.body d.scope pm cd doc) → s₁.heap.CodeRec cd d.name → mg d.name = some (.ref fa) →
      s₁.heap.get? a = some { cls := .type "list", data := .seq vs.toArray } → IntsAre vs ns → ns.length ≤ n →
      s.gens = #[] → s.os = s₁.os →
      Fr s₁.heap s₁.heap.objs.size s.heap (bindL (envOfC d.name d.scope s₁.heap.objs.size fa cd).kindOf [(x, .ref a)] fun _ => none) →
      Cl s₁.heap.objs.size (cellsFrom (s₁.heap.objs.size + 1) d.scope.names []) s.heap (bindC (envOfC d.name d.scope s₁.heap.objs.size fa cd).kindOf [(x, .ref a)] fun _ => none) →
      wpAny (model l.prog w) (callerA.deeper (envOfC d.name d.scope s₁.heap.objs.size fa cd)) (execs d.body (envOfC d.name d.scope s₁.heap.objs.size fa cd))
        (fun f s' => f = .ret (.bool true) ∧ (∀ b o, s₁.heap.get? b = some o → s'.heap.get? b = some o) ∧ s'.os = s₁.os ∧ s'.gens = #[]) (fun _ _ => False) s) :
    WalkN q loose XP YP l.row.toRowW d [] (fun f vs => PySem.call f vs) := by
  intro w s₀ s₁ mg mb G Y fa o pm cd doc dV kV ho hd hcd hD hmg hg args vals as hpre hlay hrd hwl hlo
  obtain rfl : dV = .none := Dflts.none hD hdf
  obtain rfl : kV = .none := Dflts.noKw hD
  obtain ⟨a, vs, ns, rfl, rfl, hobj, hints, hlen⟩ := script_of hn hpre hwl
  refine enter_callW ?_
  refine call_cells_ret (o := o) (by rw [depth_caller]; decide) ho (fd_plain hd) G.T.nolimit hcd (hbind pm cd doc (.ref a)) (fun y hy => ?_) (fun h₁ tk F X => ?_) hco hgen hk
  · obtain rfl : y = (x, Value.ref a) := List.mem_singleton.mp hy
    rcases hx with e | e
    · exact .inl e
    · exact .inr ⟨e, cellsFrom_some _ _ _ (.inl e)⟩
  · refine wpAny_mono (body w s₀ s₁ { s₁ with heap := h₁, toks := tk } mg mb fa o pm cd doc a vs ns G Y ho (fd_plain hd) hcd hmg hobj hints hlen hg rfl F X) (fun f s' hq => ?_) (fun _ _ hq => hq)
    obtain ⟨rfl, h2, h3, h4⟩ := hq
    exact ⟨.inl ⟨.bool true, .bool true, [], rfl, fun _ => rfl, .bool true, post_true l _, fun _ => ⟨List.Pairwise.nil, fun _ hm => (nomatch hm)⟩⟩, h2, h3, h4⟩

/-! ### rules over ANY heap (no ledger) from facts about the written part K: the library's own take a ledger (News) for what they write -/
section
variable {prog : Program} {w : World} {A : Around} {E : Value → Shared → Prop} {s : Shared} {K : Frag}

/-- a def of the module, or a method (qual 'C.m'), entered: the frame is the next address; cells behind it -/
theorem call_fn {R : Result → Shared → Prop} {name qual : Str} {params : Arguments} {body : List Stmt} {scope : Scope} {dV kV doc pm cdv ct oc : Value} {an od : Option Addr} {osl : Array (Option Value)} {f : Addr} {args : Args} {binds : List (Str × Value)}
    (X : K.In s.heap) (hlim : s.heap.NoLimit) (ho : K.lookup f = some ⟨oc, od, .func (fnOf name qual params body scope dV kV doc pm an cdv ct), osl⟩) (hcd : codeIn K cdv qual = true) (hroom : A.depth < recursionLimit)
    (hbind : BindsTo s (fnOf name qual params body scope dV kV doc pm an cdv ct) args binds)
    (hkind : (binds.all fun y => scope.names.lookup y.1 == some .local || scope.names.lookup y.1 == some .cell) = true)
    (h : ∀ s₁, InCallC s s.heap.objs.size (bindL (envOfC qual scope s.heap.objs.size f cdv).kindOf binds fun _ => none) (cellsFrom (s.heap.objs.size + 1) scope.names [])
        (bindC (envOfC qual scope s.heap.objs.size f cdv).kindOf binds fun _ => none) s₁ →
      wpAny (model prog w) (A.deeper (envOfC qual scope s.heap.objs.size f cdv)) (execs body (envOfC qual scope s.heap.objs.size f cdv))
        (fun fl s' => R (.ok (.ret (match fl with | .ret v => v | _ => .none))) s')
        (fun e s' => wpAny (model prog w) (A.deeper (envOfC qual scope s.heap.objs.size f cdv)) (leaving (envOfC qual scope s.heap.objs.size f cdv) e) (fun _ s'' => R (.error e) s'') (fun e' s'' => R (.error e') s'') s') s₁)
    (hco : scope.isCoroutine = false) (hgen : scope.isGenerator = false) (hk : scope.kind = .function) : codeAny (model prog w) A (.call (.ref f) args) R s := by
  refine codeAny_call_function hroom (X _ _ ho) rfl hco hgen rfl (codeRec_of X hcd) (hbind _ _ _ _ ?_)
  refine wpAny_newFunctionEnv_cells hk (kindsX hkind _) fun env he s₁ x => ?_
  subst he
  exact ⟨hlim.keeps x.toInCall.keep, codeAny_func (h s₁ x)⟩

/-- C(..): dict at size, instance at size + 1, then __init__ -/
theorem make_obj {R : Result → Shared → Prop} {C fI : Addr} {rest : List Value} {kw : List (Str × Value)}
    (X : K.In s.heap) (hm : makesIn K C = true) (hi : findIn K (.ref C) "__init__" = some (some (.ref fI))) (hf : isFn K (.ref fI) = true)
    (h : codeAny (model prog w) (A.under (.builtin "type.__call__" ⟨.ref C :: rest, kw⟩)) (.call (.ref fI) ⟨.ref (s.heap.objs.size + 1) :: rest, kw⟩) (InitBack (s.heap.objs.size + 1) R)
      { s with heap := (s.heap.push emptyDict).push (instObj C s.heap.objs.size) }) : codeAny (model prog w) A (.call (.ref C) ⟨rest, kw⟩) R s := by
  obtain ⟨hh, g, d, t, os⟩ := s
  exact make_core (makes_of X hm) (looks_findIn X hi) (fun self => bind_fn X self (beq_iff_eq.mp hf)) (.inl rfl) h

/-- x.name where the instance's dict holds the name and the class does not -/
theorem get_field {x C : Addr} {ox : Obj} {es : List DictEntry} {n : Nat} {name : Str} {expr : Bool} {v : Value} {Q : Value → Shared → Prop}
    (X : K.In s.heap) (I : PySem.W.InstAt s.heap x ox C (some (dictOf es n))) (hg : plainGet K C name = true) (hh : hasDictIn K C = true) (ha : findIn K (.ref C) name = some none)
    (hl : getL name es = some (some v)) (hv : handedIn v = true) (h : Q v { s with toks := s.toks + 1 }) : wpAny (model prog w) A (getAttr (.ref x) name expr) Q E s :=
  get_value X I (plainGet_of hg).1 (findObj_own hh ha rfl hl) hv h

/-- x.m(..): the method found in the class -/
theorem get_method {x C f : Addr} {ox : Obj} {es : List DictEntry} {n : Nat} {name : Str} {pl : Sem Bool} {Q : Value × List Value → Shared → Prop}
    (X : K.In s.heap) (I : PySem.W.InstAt s.heap x ox C (some (dictOf es n))) (hg : plainGet K C name = true) (hf : findIn K (.ref C) name = some (some (.ref f))) (ht : isFn K (.ref f) = true)
    (hl : getL name es = some none) (h : Q (.ref f, [.ref x]) s) : wpAny (model prog w) A (getMethod (.ref x) name pl) Q E s :=
  method_fn X I (plainGet_of hg).1 (plainGet_of hg).2 hf (beq_iff_eq.mp ht) (by show (lookIn name (dictOf es n)).map _ = _; rw [lookIn_dict, hl]; rfl) h

/-! the whole heap as the ledger: makes every rule that writes through a ledger a rule over any heap -/
def noObjs (h : Heap) : Heap := { h with objs := #[] }
theorem noObjs_get (h : Heap) (b : Addr) : (noObjs h).get? b = none := by
  cases e : (noObjs h).get? b with
  | none => rfl
  | some o => exact absurd (Heap.lt_size e) (Nat.not_lt_zero _)
def ledger (h : Heap) (L d : Addr) : List (Addr × Obj) := (List.range h.objs.size).filterMap fun a => if a = L ∨ a = d then none else (h.get? a).map fun o => (a, o)
theorem mem_ledger {h : Heap} {L d a : Addr} {o : Obj} : (a, o) ∈ ledger h L d ↔ a ≠ L ∧ a ≠ d ∧ h.get? a = some o := by
  unfold ledger
  rw [List.mem_filterMap]
  constructor
  · rintro ⟨b, _, e⟩
    split at e
    · cases e
    · rename_i hb
      obtain ⟨o', ho, e'⟩ := Option.map_eq_some_iff.mp e
      cases e'
      exact ⟨fun q => hb (.inl q), fun q => hb (.inr q), ho⟩
  · rintro ⟨n1, n2, ho⟩
    refine ⟨a, List.mem_range.mpr (Heap.lt_size ho), ?_⟩
    rw [if_neg (show ¬ (a = L ∨ a = d) from fun q => q.elim n1 n2), ho] <;> rfl
theorem news_ledger {h : Heap} {L d : Addr} {od : Obj} (hne : d ≠ L) (ho : h.get? d = some od) : News (noObjs h) L h ([] ++ (d, od) :: ledger h L d) := by
  rintro ⟨a, o⟩ hp
  rcases List.mem_cons.mp hp with e | hp
  · cases e
    exact ⟨ho, hne, noObjs_get _ _⟩
  · obtain ⟨n1, n2, e⟩ := mem_ledger.mp hp
    exact ⟨e, n1, noObjs_get _ _⟩
theorem fr_all {h : Heap} {L : Addr} {m : Str → Option Value} (n : h.Ns L m) : Fr (noObjs h) L h m :=
  ⟨n, fun b o e => (by rw [noObjs_get] at e; cases e), Nat.zero_le _⟩
/-- Upd of the head entry (for append_K, setItem_K ..) -/
theorem upd_ledger {h : Heap} {L d : Addr} {o o' : Obj} : Upd d o o' ((d, o) :: ledger h L d) ((d, o') :: ledger h L d) :=
  .head fun ⟨_, _⟩ hp => (mem_ledger.mp hp).2.1

/-- x.name = v over any heap: L is any namespace of the heap (the frame's, say): its map stays, its object is not told; all else but the dict stays -/
theorem set_field {x C dx L : Addr} {ox : Obj} {m : Str → Option Value} {es es' : List DictEntry} {n n' : Nat} {name : Str} {v : Value} {Q : Unit → Shared → Prop}
    (X : K.In s.heap) (I : PySem.W.InstAt s.heap x ox C (some (dictOf es n))) (hd : ox.dict = some dx) (hL : s.heap.Ns L m) (hne : dx ≠ L)
    (hs : findIn K (.ref C) "__setattr__" = some (some (.builtin "object.__setattr__"))) (hp : plainOver K C = true) (ht : takerIn K C name = some none) (hh : hasDictIn K C = true) (hl : (getL name es).isSome = true)
    (e : (putL name (PyData.keyHash w.params name) (.str name (s.toks + 1)) v es, putN name es n) = (es', n')) (hz : es'.length ≤ 1000)
    (h : ∀ h' : Heap, h'.Ns L m → h'.get? dx = some (dictOf es' n') → (∀ b o, b ≠ dx → b ≠ L → s.heap.get? b = some o → h'.get? b = some o) → Q () { s with heap := h', toks := s.toks + 2 }) :
    wpAny (model prog w) A (setAttr (.ref x) name v) Q E s := by
  obtain ⟨e1, e2⟩ := Prod.mk.inj e
  have hdx : s.heap.get? dx = some (dictOf es n) := by
    have := I.dict
    rw [hd] at this
    exact this
  refine set_plain X I hs (osa_dict (s := { s with toks := s.toks + 1 }) (h₀ := noObjs s.heap) (L := L) (m := m) (od := dictOf es n) (od' := dictOf es' n') (es := es') (n := n') (pre := []) (post := ledger s.heap L dx)
    (fr_all hL) (news_ledger hne hdx) X I hd hp ht hh hl (fun _ q => nomatch q) (fun ⟨_, _⟩ q => (mem_ledger.mp q).2.1) (by rw [putName_dict, e1, e2]) rfl hz fun h' F' N' => ?_)
  exact h h' F'.ns (N'.get (List.Mem.head _)) fun b o n1 n2 ho => N'.get (List.Mem.tail _ (mem_ledger.mpr ⟨n2, n1, ho⟩))
end
end Att

namespace L2
open PySem PySem.Spec PyProof.Rows

theorem vals_ints : ∀ {vs : List Value} {ns : List Int}, IntsAre vs ns → Vals (ns.map V.int) vs
  | _, _, .nil => .nil
  | _, _, .cons n t h => .cons ⟨t, rfl⟩ (vals_ints h)

/-- nothing is tracked but the script, known to the object (or it is an object of the module) -/
def Only (H : Hp) : Prop := ∀ b, H b = none ∨ ∃ o xs, H b = some (.frz o (.lst xs))

/-- THE HEAD: the law's promise, at the heap behind the top. F, the promise of the law's def, may use that base is part of the heap (so K.In base, base.Ns mainGlobals mg stand in Mod) -/
theorem law_call {P : Program} {w : World} {K : PySem.W.Frag} {mg mb : Str → Option Value} {CX : CXT} {k : Nat} {fa a : Addr} {fd : FuncData} {x : Str} {sp : Sp} {s₁ : Shared} {vs : List Value} {ns : List Int}
    (KX : K.In s₁.heap) (hns : s₁.heap.Ns mainGlobals mg) (hb : s₁.heap.Ns builtinsNs mb) (hbb : ∀ x : Str, x ≠ "__name__" → mb x = bootBuiltins x) (hlim : s₁.heap.NoLimit) (hg : s₁.gens = #[])
    (ha : s₁.heap.get? a = some { cls := .type "list", data := .seq vs.toArray }) (hi : IntsAre vs ns) (hl : ns.length ≤ sizeLine) (hr : Room k callerA)
    (F : ∀ base : Heap, K.In base → base.Ns mainGlobals mg → FnOk P w K mg base CX k fa fd [x] sp) (hbind : ∀ (s : Shared) (u : Value), BindsTo s fd ⟨[u], []⟩ [(x, u)])
    (hsp : ∀ H : Hp, Only H → SqL K H a (ns.map V.int) → sp [.ref a] H (fun v _ => v = .bl true) fun _ _ _ => False)
    (hCX : ∀ H e s', CX [] H s₁ (fun _ _ _ => False) e s' → False) :
    codeAny (model P w) callerA (.call (.ref fa) ⟨[.ref a], []⟩) (fun r s' => r = .ok (.ret (.bool true)) ∧ OldK s₁.heap s'.heap ∧ s'.os = s₁.os ∧ AllBare s'.gens) s₁ := by
  have rv := vals_ints hi
  have lenV := hi.length
  -- from an abstract heap in which nothing but the script may be tracked
  have core : ∀ H : Hp, Only H → SqL K H a (ns.map V.int) → HOk P w H s₁.heap → (∀ b, H b ≠ none → b = a) → (H a ≠ none → K.lookup a = none) →
      codeAny (model P w) callerA (.call (.ref fa) ⟨[.ref a], []⟩) (fun r s' => r = .ok (.ret (.bool true)) ∧ OldK s₁.heap s'.heap ∧ s'.os = s₁.os ∧ AllBare s'.gens) s₁ := by
    intro H hO hS hok hA hK
    have base_of : ∀ {b : Addr} {o : Obj}, s₁.heap.get? b = some o → H b = none → (hidT s₁.heap H).get? b = some o := fun e n => hidT_get e n
    have noA : ∀ {b : Addr} {o : Obj} {es : Array DictEntry} {ep : Nat}, s₁.heap.get? b = some o → o.data = .dict es ep → H b = none := fun {b o es ep} e d => by
      cases q : H b with
      | none => rfl
      | some u =>
        have e' : b = a := hA b (by rw [q]; simp)
        subst e'
        rw [ha] at e; cases e
        have d' : Data.seq vs.toArray _ = Data.dict es ep := d
        cases d'
    have nsK : ∀ {b : Addr} {m : Str → Option Value}, s₁.heap.Ns b m → (hidT s₁.heap H).Ns b m := fun {b m} ⟨o, es, ep, e, d, r⟩ => ⟨o, es, ep, base_of e (noA e d), d, r⟩
    have hKb : K.In (hidT s₁.heap H) := fun b o e => base_of (KX b o e) (by
      cases q : H b with
      | none => rfl
      | some u =>
        have e' : b = a := hA b (by rw [q]; simp)
        subst e'
        rw [hK (by rw [q]; simp)] at e; cases e)
    have hM : Mod K mg (hidT s₁.heap H) := ⟨hKb, nsK hns, ⟨mb, nsK hb, hbb⟩, let ⟨mc, h1, h2⟩ := hlim; ⟨mc, nsK h1, h2⟩⟩
    have e0 : Env0 P w K mg (hidT s₁.heap H) callerA [] s₁ H := ⟨rfl, hM, fun b o e => of_hidT e, Nat.le_of_eq (hidT_size _ _), trivial, fun b hb => absurd (show b ∈ ([] : List Addr) from hb) (by simp), hok, .of_eq hg⟩
    refine codeAny_mono ((F _ hKb (nsK hns)).run callerA [] s₁ H ⟨[.ref a], []⟩ [.ref a] [.ref a] _ _ hr e0 (hbind s₁ (.ref a)) (.cons rfl .nil) (hsp H hO hS)) fun r s' h => ?_
    cases r with
    | error e => exact (hCX H e s' h).elim
    | ok fl =>
      cases fl with
      | next => exact False.elim h
      | brk => exact False.elim h
      | cont => exact False.elim h
      | ret u =>
        obtain ⟨v, H', os, bare, un, hok', r', q⟩ := h
        have q' : v = .bl true := q
        subst q'
        obtain rfl : u = Value.bool true := r'
        refine ⟨rfl, OldK.of_keep fun b o e => ?_, os, bare⟩
        cases q : H b with
        | none => exact un.keep b o e q (by intro z; exact absurd (show b ∈ ([] : List Addr) from z) (by simp)) (by simp)
        | some u =>
          rcases hO b with z | ⟨ob, xs, z⟩
          · rw [q] at z; cases z
          · have z2 := un.frzs b ob _ z
            obtain ⟨e1, _⟩ := hok b _ z
            obtain ⟨e2, _⟩ := hok' b _ z2
            rw [e] at e1; cases e1
            exact e2
  cases hk : K.lookup a with
  | some o =>
    -- the script is one of the module's own objects
    have e := KX a o hk
    rw [ha] at e
    cases e
    refine core (fun _ => none) (fun _ => .inl rfl) (.inr ⟨_, vs.toArray, _, hk, rfl, rfl, rfl, by rw [List.size_toArray, lenV]; exact hl, by simpa using rv⟩) (fun b u z => by have z' : (none : Option HO) = some u := z; cases z') (fun b z => absurd rfl z) fun z => absurd rfl z
  | none =>
    refine core (fun b => if b = a then some (.frz { cls := .type "list", data := .seq vs.toArray } (.lst (ns.map V.int))) else none) (fun b => ?_) (.inl (.inr ⟨{ cls := .type "list", data := .seq vs.toArray }, if_pos rfl⟩)) (fun b u z => ?_) (fun b z => ?_) fun _ => hk
    · by_cases hb : b = a
      · exact .inr ⟨_, _, if_pos hb⟩
      · exact .inl (if_neg hb)
    · by_cases hb : b = a
      · have z' := (if_pos hb).symm.trans z
        cases z'
        subst hb
        exact ⟨ha, by rw [List.length_map]; exact hl, vs, _, rv, ha⟩
      · have z' := (if_neg hb).symm.trans z
        cases z'
    · by_cases hb : b = a
      · exact hb
      · exact absurd (if_neg hb) z
end L2

namespace L2
open PySem PySem.Spec PyProof.Rows

abbrev KOf {K : PySem.W.Frag} {h : Heap} (_ : K.In h) : PySem.W.Frag := K

/-- the goal that k_head leaves (case hc), from the law's promise. F gives the function object fd (K's own) once, then the promise over every base -/
theorem walk_of {l : PySem.W.OpenLaw} {n k : Nat} {q : Program} {loose : List Str} {XP : (Str → Option Value) → Heap → Prop} {YP : World → Heap → Prop} {d : DefRec} {K : Params → PySem.W.Frag} {CX : World → CXT} {sp : World → Sp} {x : Str}
    (hn : l.most = some n) (hn2 : n ≤ sizeLine) (hdf : d.params.defaults = []) (hr : Room k callerA)
    (hY : ∀ (w : World) (h : Heap), YP w h → (K w.params).In h)
    (F : ∀ (w : World) (mg : Str → Option Value) (fa : Addr) (h : Heap), (K w.params).In h → h.Ns mainGlobals mg → mg d.name = some (.ref fa) →
      ∃ fd : FuncData, (∀ (s : Shared) (u : Value), BindsTo s fd ⟨[u], []⟩ [(x, u)]) ∧
        ∀ base : Heap, (K w.params).In base → base.Ns mainGlobals mg → FnOk l.prog w (K w.params) mg base (CX w) k fa fd [x] (sp w))
    (hsp : ∀ (w : World) (H : Hp) (a : Addr) (ns : List Int), ns.length ≤ n → Only H → SqL (K w.params) H a (ns.map V.int) → sp w [.ref a] H (fun v _ => v = .bl true) fun _ _ _ => False)
    (hCX : ∀ (w : World) (H : Hp) (s : Shared) (e : Value) (s' : Shared), CX w [] H s (fun _ _ _ => False) e s' → False) :
    PySem.W.WalkO q loose XP YP l.row.toRowW d [] (fun f vs => PySem.call f vs) := by
  refine Att.attach_call hn hdf fun w s₀ s₁ mg mb fa o pm cd doc a vs ns G Y ho hd hcd hmg hobj hints hlen hg => ?_
  have KX := hY w _ Y
  obtain ⟨fd, hb, hF⟩ := F w mg fa _ KX G.T.g hmg
  exact law_call KX G.T.g G.T.b G.T.builtins G.T.nolimit hg hobj hints (Nat.le_trans hlen hn2) hr hF hb (fun H hO hS => hsp w H a ns hlen hO hS) fun H e s' => hCX w H s₁ e s'
/-- the same where the promise hangs on the written part alone: (sp := My.sp_law), no hole under a binder -/
theorem walk_ofK {l : PySem.W.OpenLaw} {n k : Nat} {q : Program} {loose : List Str} {XP : (Str → Option Value) → Heap → Prop} {YP : World → Heap → Prop} {d : DefRec} {K : Params → PySem.W.Frag} {CX : CXT} {sp : PySem.W.Frag → Sp} {x : Str}
    (hn : l.most = some n) (hn2 : n ≤ sizeLine) (hdf : d.params.defaults = []) (hr : Room k callerA)
    (hY : ∀ (w : World) (h : Heap), YP w h → (K w.params).In h)
    (F : ∀ (w : World) (mg : Str → Option Value) (fa : Addr) (h : Heap), (K w.params).In h → h.Ns mainGlobals mg → mg d.name = some (.ref fa) →
      ∃ fd : FuncData, (∀ (s : Shared) (u : Value), BindsTo s fd ⟨[u], []⟩ [(x, u)]) ∧
        ∀ base : Heap, (K w.params).In base → base.Ns mainGlobals mg → FnOk l.prog w (K w.params) mg base CX k fa fd [x] (sp (K w.params)))
    (hsp : ∀ (K : PySem.W.Frag) (H : Hp) (a : Addr) (ns : List Int), ns.length ≤ n → Only H → SqL K H a (ns.map V.int) → sp K [.ref a] H (fun v _ => v = .bl true) fun _ _ _ => False)
    (hCX : ∀ (H : Hp) (s : Shared) (e : Value) (s' : Shared), CX [] H s (fun _ _ _ => False) e s' → False) :
    PySem.W.WalkO q loose XP YP l.row.toRowW d [] (fun f vs => PySem.call f vs) :=
  walk_of (K := K) (CX := fun _ => CX) (sp := fun w => sp (K w.params)) hn hn2 hdf hr hY F (fun w H a ns h1 h2 h3 => hsp (K w.params) H a ns h1 h2 h3) fun _ H s e s' => hCX H s e s'
end L2

/- THE LAST THEOREM (shape; LID, My.* are yours):
   My.Adr: a structure of the addresses that your layer names (classes, functions); My.Txt K t: a structure (Prop) of the equations over K;
   My.txt_mk : {K} {implicit addresses ..} (e1 : nsIn K mainGlobals "law" = some (some (.ref f))) (e2 : K.lookup f = some ⟨oc, od, .func (fnOf "law" "law" params body scope dV kV doc pm an cdv ct), sl⟩) (e3 : codeIn K cdv "law" = true) .. : ∃ t, My.Txt K t

set_option maxRecDepth 100000 in
set_option maxHeartbeats 0 in
theorem PySem.Challenge.cw_LID_holds : PySem.Challenge.rw_LID.Holds := by
  w_on; o_law; k_head; (case hw => w_witness2)
  k_fill
  refine L2.walk_of (l := PySem.Challenge.rw_LID) (n := 63) (k := 40) (x := "script") (CX := fun w => ..) (sp := fun _ => My.sp_law) rfl (by decide) rfl ⟨rfl, by decide, by decide⟩ (fun w h Y => PySem.W.kIn_of Y) ?F ?S ?C
  case F =>
    intro w mg fa h KX G hmg
    have T : ∃ t, My.Txt (L2.KOf KX) t := by
      dsimp only [L2.KOf]                          -- K must stand as «<heap const> w.params» for k_is
      refine' My.txt_mk ?e1 ?e2 ?e3 ..
      (case e1 => PySem.W.k_is)                    -- in the order: a name -> its address -> its object -> its parts
      (case e2 => PySem.W.k_is)
      ..
    obtain ⟨t, T⟩ := T
    have e0 := hmg.symm.trans (PySem.W.mg_of KX G T.law)
    cases e0                                       -- fa is the law's own address
    exact ⟨_, fun s u => .of_eq rfl, fun base kb nb => My.law_fn T kb nb⟩     -- if «.of_eq rfl» comes too early: refine' ⟨_, ?b, fun base kb nb => My.law_fn T kb nb⟩; exact fun s u => .of_eq rfl
  case S => exact fun w H a ns hl hO hS => ..
  case C => exact ..
(the tactic k_is has no namespace: write k_is) -/

/-! SHORT WORDS over the layer: a def of the text, its body, what a loop and a test want. -/
namespace L2
open PySem PySem.Spec PyProof.Rows

/-! ### the text by places -/
/-- the j-th statement of a class's body -/
def inClass (s : Stmt) (j : Nat) : Stmt := match s with
  | .ClassDef _ _ _ body _ _ _ _ _ _ _ => body.getD j (.Pass ⟨0, 0, 0, 0⟩)
  | _ => .Pass ⟨0, 0, 0, 0⟩
def defArgs (s : Stmt) : Arguments := match s with
  | .FunctionDef _ a _ _ _ _ _ _ _ _ => a
  | _ => { posonlyargs := [], args := [], vararg := none, kwonlyargs := [], kw_defaults := [], kwarg := none, defaults := [] }
def defBody (s : Stmt) : List Stmt := match s with
  | .FunctionDef _ _ b _ _ _ _ _ _ _ => b
  | _ => []
def defScope (s : Stmt) : Scope := match s with
  | .FunctionDef _ _ _ _ _ _ sc _ _ _ => sc
  | _ => { kind := .function, names := [], isGenerator := false, isCoroutine := false }

/-! ### no exception leaves a def -/
abbrev CX0 : CXT := fun _ _ _ _ _ _ => False
abbrev E0 : XK := fun _ _ _ => False
theorem pass0 {X : Cx} : Passes CX0 X E0 := fun _ _ _ _ _ _ _ h => h.elim

/-! ### a def (or method) of the text as it stands behind the top -/
structure Fun (K : PySem.W.Frag) (x qual : Str) (st : Stmt) (f : Addr) (fd : FuncData) : Prop where
  ex : ∃ (oc : Value) (od : Option Addr) (kV doc pm : Value) (an : Option Addr) (cdv ct : Value) (osl : Array (Option Value)),
    fd = PySem.W.fnOf x qual (defArgs st) (defBody st) (defScope st) .none kV doc pm an cdv ct ∧ K.lookup f = some ⟨oc, od, .func fd, osl⟩ ∧ PySem.W.codeIn K cdv qual = true
  kp : PySem.W.keepIn K (.ref f) = true
section
variable {P : Program} {w : World} {K : PySem.W.Frag} {mg : Str → Option Value} {base : Heap}
/-- THE RULE for a def: its body as a term of rules, and the reading of that term -/
theorem Fun.ok {x qual : Str} {st : Stmt} {f : Addr} {fd : FuncData} {N ps : List Str} {k : Nat} {sp : Sp} (F : Fun K x qual st f fd) (S : FnScope N ps (defScope st)) (len : ∀ vs H Q E, sp vs H Q E → vs.length = ps.length)
    (hbody : ∀ (cdv : Value) (A : Around) (outer : List Env) (s : Shared) (H : Hp) (vs : List V) (Q : VK) (E : XK), Room k (A.deeper (envOfC qual (defScope st) s.heap.objs.size f cdv)) → sp vs H Q E →
      ∃ t, PSs (cxOf CX0 P w K mg base N qual (defScope st) f cdv A outer s H E).nox (defBody st) t ∧ t { nx := fun _ H' => Q .non H', rt := Q } (start N vs) H) : FnOk P w K mg base CX0 (k + 1) f fd ps sp := by
  obtain ⟨oc, od, kV, doc, pm, an, cdv, ct, osl, rfl, lk, hcd⟩ := F.ex
  refine fn_of lk hcd S len fun A outer s H vs Q E hr hsp => ?_
  obtain ⟨t, h, q⟩ := hbody cdv A outer s H vs Q E hr hsp
  exact ⟨t, h.nox, q⟩
/-- how its arguments bind (no defaults): h is «fun _ _ _ _ _ _ us hl => match us, hl with | [_, _], _ => rfl», one _ a parameter -/
theorem Fun.binds {x qual : Str} {st : Stmt} {f : Addr} {fd : FuncData} {ps : List Str} (F : Fun K x qual st f fd)
    (h : ∀ (kV doc pm : Value) (an : Option Addr) (cdv ct : Value) (us : List Value), us.length = ps.length → bindArgs (PySem.W.fnOf x qual (defArgs st) (defBody st) (defScope st) .none kV doc pm an cdv ct) ⟨us, []⟩ = pure (ps.zip us)) : Binds K fd ps [] := by
  obtain ⟨oc, od, kV, doc, pm, an, cdv, ct, osl, rfl, lk, hcd⟩ := F.ex
  exact .all (h kV doc pm an cdv ct)
theorem fun_mk {x qual : Str} {st : Stmt} {f : Addr} {oc : Value} {od an : Option Addr} {osl : Array (Option Value)} {kV doc pm cdv ct : Value} (l : K.lookup f = some ⟨oc, od, .func (PySem.W.fnOf x qual (defArgs st) (defBody st) (defScope st) .none kV doc pm an cdv ct), osl⟩)
    (c : PySem.W.codeIn K cdv qual = true) (k : PySem.W.keepIn K (.ref f) = true) : Fun K x qual st f (PySem.W.fnOf x qual (defArgs st) (defBody st) (defScope st) .none kV doc pm an cdv ct) := ⟨⟨oc, od, kV, doc, pm, an, cdv, ct, osl, rfl, l, c⟩, k⟩
end
theorem hu_of {A : Around} {k : Nat} (hr : Room k A) : A.units + 1 < cLine := Nat.lt_of_le_of_lt (Nat.add_le_add_left (by decide : 1 ≤ 64) _) hr.units
theorem small1000 {n : Nat} (h : n ≤ 1000) : n < sizeLine := Nat.lt_of_le_of_lt h (by decide)

/-! ### expressions in short: the name that stands in the i-th slot -/
section
variable {X : Cx}
theorem pv (i : Nat) {x : Str} {pos : Pos} (hN : X.N[i]? = some x := by rfl) (hv : Vis X.env.scope x := by first | exact Or.inl rfl | exact Or.inr (Or.inl rfl) | exact Or.inr (Or.inr rfl)) (hd : (x == ("__debug__" : Str)) = false := by decide)
    (hcd : (x == ("__classdict__" : Str)) = false := by decide) : PE X (.Name x pos) (tVar i) := pe_var hN hv hd hcd
end

/-! ### tests -/
theorem iteF {A B : Prop} (h : B) : if false = true then A else B := by
  rw [if_neg Bool.false_ne_true]
  exact h
theorem iteT {A B : Prop} (h : A) : if true = true then A else B := by
  rw [if_pos rfl]
  exact h
theorem ite2 {c A B : Prop} [Decidable c] (h1 : c → A) (h2 : ¬ c → B) : if c then A else B := by
  by_cases h : c
  · rw [if_pos h]
    exact h1 h
  · rw [if_neg h]
    exact h2 h
theorem iteNS {c A B : Prop} [Decidable c] (hc : c) (h : B) : if (!decide c) = true then A else B := by
  rw [decide_eq_true hc]
  exact iteF h

/-! ### heaps -/
/-- all that was tracked is as it was -/
def Same (H H' : Hp) : Prop := ∀ b o, H b = some o → H' b = some o
theorem Same.refl (H : Hp) : Same H H := fun _ _ h => h
theorem Same.trans {H H1 H2 : Hp} (a : Same H H1) (b : Same H1 H2) : Same H H2 := fun c o h => b c o (a c o h)
theorem Same.free {H H' : Hp} (e : Same H H') {l : Addr} (h : H' l = Option.none) : H l = Option.none := by
  cases q : H l with
  | none => rfl
  | some o =>
    rw [e l o q] at h
    cases h
theorem Same.seq {K : PySem.W.Frag} {H H' : Hp} {a : Addr} {xs : List V} (e : Same H H') (h : SqL K H a xs) : SqL K H' a xs := by
  rcases h with (h | ⟨o, h⟩) | h
  · exact .inl (.inl (e _ _ h))
  · exact .inl (.inr ⟨o, e _ _ h⟩)
  · exact .inr h

end L2

set_option Elab.async false
set_option linter.all false
set_option maxRecDepth 100000
namespace L2
open PySem PySem.Spec PyProof.Rows

/-! ### lists of pairs as tables -/
section
variable {κ : Type} [DecidableEq κ]
def valV (kvs : List (κ × V)) (k : κ) : Option V := (kvs.find? fun kv => decide (kv.1 = k)).map (·.2)
/-- in its place, or at the end -/
def putK (kvs : List (κ × V)) (k : κ) (v : V) : List (κ × V) :=
  if (kvs.any fun kv => decide (kv.1 = k)) = true then kvs.map (fun kv => if kv.1 = k then (kv.1, v) else kv) else kvs ++ [(k, v)]
def dropK (kvs : List (κ × V)) (k : κ) : List (κ × V) := kvs.filter fun kv => decide (kv.1 ≠ k)

theorem valV_nil {k : κ} : valV ([] : List (κ × V)) k = none := rfl
theorem valV_pos {p : κ × V} {r : List (κ × V)} {k : κ} (e : p.1 = k) : valV (p :: r) k = some p.2 := by simp [valV, List.find?_cons, e]
theorem valV_neg {p : κ × V} {r : List (κ × V)} {k : κ} (e : ¬ p.1 = k) : valV (p :: r) k = valV r k := by simp [valV, List.find?_cons, e]
theorem valV_any (k : κ) : ∀ kvs : List (κ × V), (kvs.any fun kv => decide (kv.1 = k)) = (valV kvs k).isSome
  | [] => rfl
  | p :: r => by
    rw [List.any_cons]
    by_cases e : p.1 = k
    · simp only [valV_pos e, decide_eq_true e, Bool.true_or, Option.isSome_some]
    · rw [valV_neg e, decide_eq_false e, Bool.false_or]; exact valV_any k r
theorem valV_map (k j : κ) (y : V) : ∀ kvs : List (κ × V), valV (kvs.map fun kv => if kv.1 = k then (kv.1, y) else kv) j = (valV kvs j).map fun x => if j = k then y else x
  | [] => rfl
  | p :: r => by
    have ih := valV_map k j y r
    rw [List.map_cons]
    by_cases h : p.1 = k
    · rw [if_pos h]
      by_cases e : p.1 = j
      · rw [valV_pos (p := (p.1, y)) e, valV_pos e, Option.map_some, if_pos (e.symm.trans h)]
      · rw [valV_neg (p := (p.1, y)) e, valV_neg e, ih]
    · rw [if_neg h]
      by_cases e : p.1 = j
      · rw [valV_pos (p := p) e, valV_pos e, Option.map_some, if_neg (fun z => h (e.trans z))]
      · rw [valV_neg (p := p) e, valV_neg e, ih]
theorem valV_snoc (k j : κ) (y : V) : ∀ kvs : List (κ × V), valV kvs k = none → valV (kvs ++ [(k, y)]) j = if j = k then some y else valV kvs j
  | [], _ => by
    by_cases e : k = j
    · rw [if_pos e.symm]; exact valV_pos (p := (k, y)) e
    · rw [if_neg (fun z => e z.symm)]; exact valV_neg (p := (k, y)) e
  | p :: r, hn => by
    rw [List.cons_append]
    have hk : ¬ p.1 = k := fun z => by rw [valV_pos z] at hn; cases hn
    rw [valV_neg hk] at hn
    have ih := valV_snoc k j y r hn
    by_cases e : p.1 = j
    · rw [valV_pos e, valV_pos e, if_neg (fun z => hk (e.trans z))]
    · rw [valV_neg e, valV_neg e, ih]
theorem valV_put (kvs : List (κ × V)) (k j : κ) (y : V) : valV (putK kvs k y) j = if j = k then some y else valV kvs j := by
  unfold putK
  by_cases a : (kvs.any fun kv => decide (kv.1 = k)) = true
  · rw [if_pos a, valV_map]
    rw [valV_any] at a
    by_cases e : j = k
    · obtain ⟨x, hx⟩ := Option.isSome_iff_exists.mp a
      rw [if_pos e, e, hx, Option.map_some, if_pos rfl]
    · rw [if_neg e]
      cases valV kvs j with
      | none => rfl
      | some x => rw [Option.map_some, if_neg e]
  · rw [if_neg a]
    refine valV_snoc k j y kvs ?_
    rw [valV_any] at a
    cases q : valV kvs k with
    | none => rfl
    | some x => rw [q] at a; exact (a rfl).elim
theorem length_putK (kvs : List (κ × V)) (k : κ) (v : V) : (putK kvs k v).length ≤ kvs.length + 1 := by
  unfold putK
  split
  · rw [List.length_map]; omega
  · rw [List.length_append, List.length_cons, List.length_nil]; omega
theorem putK_new {kvs : List (κ × V)} {k : κ} (v : V) (h : valV kvs k = none) : putK kvs k v = kvs ++ [(k, v)] := by
  unfold putK
  rw [valV_any, h]
  exact if_neg (by decide)

theorem RelO.isSome_eq {o : Option V} {u : Option Value} (r : RelO o u) : o.isSome = u.isSome := by
  cases o with
  | none => cases u with
    | none => rfl
    | some _ => exact (show False from r).elim
  | some _ => cases u with
    | none => exact (show False from r).elim
    | some _ => rfl
theorem RelO.getD {o : Option V} {u : Option Value} {d : V} {d' : Value} (r : RelO o u) (rd : RelV d d') : RelV (o.getD d) (u.getD d') := by
  cases o with
  | none => cases u with
    | none => exact rd
    | some _ => exact (show False from r).elim
  | some _ => cases u with
    | none => exact (show False from r).elim
    | some _ => exact r

/-- raw tables of the same keys -/
theorem KV.val {kvs : List (κ × V)} {vs : List (κ × Value)} (r : KV kvs vs) (k : κ) : RelO (valV kvs k) (valueAt vs k) := by
  unfold KV at r
  induction r with
  | nil => exact True.intro
  | @cons p q ps qs h t ih =>
    obtain ⟨h1, h2⟩ := h
    by_cases e : p.1 = k
    · have e' : q.1 = k := h1.symm.trans e
      have b : valueAt (q :: qs) k = some q.2 := by simp [valueAt, List.find?_cons, e']
      rw [valV_pos e, b]; exact h2
    · have e' : ¬ q.1 = k := fun z => e (h1.trans z)
      have b : valueAt (q :: qs) k = valueAt qs k := by simp [valueAt, List.find?_cons, e']
      rw [valV_neg e, b]; exact ih
theorem KV.any {kvs : List (κ × V)} {vs : List (κ × Value)} (r : KV kvs vs) (k : κ) : (kvs.any fun kv => decide (kv.1 = k)) = vs.any fun kv => decide (kv.1 = k) := by
  unfold KV at r
  induction r with
  | nil => rfl
  | cons h t ih => rw [List.any_cons, List.any_cons, ih, h.1]
theorem KV.repl {kvs : List (κ × V)} {vs : List (κ × Value)} (r : KV kvs vs) (k : κ) {y : V} {u : Value} (ry : RelV y u) :
    KV (kvs.map fun kv => if kv.1 = k then (kv.1, y) else kv) (vs.map fun kv => if kv.1 = k then (kv.1, u) else kv) := by
  unfold KV at r ⊢
  induction r with
  | nil => exact .nil
  | @cons p q ps qs h t ih =>
    rw [List.map_cons, List.map_cons]
    refine .cons ?_ ih
    obtain ⟨h1, h2⟩ := h
    by_cases e : p.1 = k
    · rw [if_pos e, if_pos (h1.symm.trans e)]; exact ⟨h1, ry⟩
    · rw [if_neg e, if_neg (fun z => e (h1.trans z))]; exact ⟨h1, h2⟩
theorem KV.put {kvs : List (κ × V)} {vs : List (κ × Value)} (r : KV kvs vs) (k : κ) {y : V} {u : Value} (ry : RelV y u) : KV (putK kvs k y) (stored vs k u) := by
  unfold putK stored
  rw [r.any k]
  by_cases e : (vs.any fun kv => decide (kv.1 = k)) = true
  · rw [if_pos e, if_pos e]; exact r.repl k ry
  · rw [if_neg e, if_neg e]; exact Paired.snoc r ⟨rfl, ry⟩
theorem KV.drop {kvs : List (κ × V)} {vs : List (κ × Value)} (r : KV kvs vs) (k : κ) : KV (dropK kvs k) (without vs k) := by
  unfold KV at r ⊢
  unfold dropK without
  induction r with
  | nil => exact .nil
  | @cons p q ps qs h t ih =>
    obtain ⟨h1, h2⟩ := h
    rw [List.filter_cons, List.filter_cons]
    by_cases e : p.1 = k
    · have a : ¬ decide (p.1 ≠ k) = true := by simp [e]
      have b : ¬ decide (q.1 ≠ k) = true := by simp [h1.symm.trans e]
      rw [if_neg a, if_neg b]; exact ih
    · have e' : ¬ q.1 = k := fun z => e (h1.trans z)
      have a : decide (p.1 ≠ k) = true := by simp [e]
      have b : decide (q.1 ≠ k) = true := by simp [e']
      rw [if_pos a, if_pos b]; exact .cons ⟨h1, h2⟩ ih
theorem KV.keys {kvs : List (κ × V)} {vs : List (κ × Value)} (r : KV kvs vs) : kvs.map (·.1) = vs.map (·.1) := by
  unfold KV at r
  induction r with
  | nil => rfl
  | cons h t ih => rw [List.map_cons, List.map_cons, ih, h.1]
theorem KV.length {kvs : List (κ × V)} {vs : List (κ × Value)} (r : KV kvs vs) : kvs.length = vs.length := Paired.length r
theorem dropK_le (kvs : List (κ × V)) (k : κ) : (dropK kvs k).length ≤ kvs.length := List.length_filter_le _ _
end


/-! ### a tracked dict, its keys ints and texts or tuples of these -/
theorem kV_is {P : Program} {w : World} {k : Key} {u : Value} (r : RelV (kV k) u) : (mixKind P w).is k u = true := by
  cases k with
  | inl i => obtain ⟨t, e⟩ := (show ∃ t, u = Value.int i t from r); subst e; exact mixKind_int P w i t
  | inr x => obtain ⟨t, e⟩ := (show ∃ t, u = Value.str x t from r); subst e; exact mixKind_str P w x t
theorem kV_inj {a b : Key} (e : kV a = kV b) : a = b := by
  cases a with
  | inl i => cases b with
    | inl j => have e' : V.int i = V.int j := e; injection e' with e'; rw [e']
    | inr y => exact nomatch (show V.int i = V.str y from e)
  | inr x => cases b with
    | inl j => exact nomatch (show V.str x = V.int j from e)
    | inr y => have e' : V.str x = V.str y := e; injection e' with e'; rw [e']
theorem kVs_inj : ∀ {a b : List Key}, a.map kV = b.map kV → a = b
  | [], [], _ => rfl
  | [], _ :: _, e => by simp at e
  | _ :: _, [], e => by simp at e
  | x :: xs, y :: ys, e => by
    rw [List.map_cons, List.map_cons] at e
    injection e with e1 e2
    rw [kV_inj e1, kVs_inj e2]
theorem items_are {P : Program} {w : World} : ∀ {ks : List Key} {us : List Value}, Vals (ks.map kV) us → ItemsAre (mixKind P w) ks us
  | [], _, r => by rw [List.map_nil] at r; cases r; exact .nil
  | k :: ks, _, r => by
    rw [List.map_cons] at r
    cases r with
    | cons h t => exact .cons (kV_is h) (items_are t)

/-- raw entries of a dict with tuple keys -/
abbrev KT (H : Hp) : List (List Key × V) → List (List Key × Addr × Value) → Prop := Paired fun p q => p.1 = q.1 ∧ H q.2.1 = some (.tup (p.1.map kV)) ∧ RelV p.2 q.2.2
theorem KT.val {H : Hp} {kvs : List (List Key × V)} {xs : List (List Key × Addr × Value)} (r : KT H kvs xs) (k : List Key) : RelO (valV kvs k) ((atKey xs k).map (·.2)) := by
  induction r with
  | nil => exact True.intro
  | @cons p q ps qs h t ih =>
    obtain ⟨h1, _, h2⟩ := h
    by_cases e : p.1 = k
    · have e' : q.1 = k := h1.symm.trans e
      have b : atKey (q :: qs) k = some q.2 := by simp [atKey, List.find?_cons, e']
      rw [valV_pos e, b]; exact h2
    · have e' : ¬ q.1 = k := fun z => e (h1.trans z)
      have b : atKey (q :: qs) k = atKey qs k := by simp [atKey, List.find?_cons, e']
      rw [valV_neg e, b]; exact ih
theorem KT.repl {H : Hp} {kvs : List (List Key × V)} {xs : List (List Key × Addr × Value)} (r : KT H kvs xs) (k : List Key) {y : V} {u : Value} (ry : RelV y u) :
    KT H (kvs.map fun kv => if kv.1 = k then (kv.1, y) else kv) (xs.map (putAt k u)) := by
  induction r with
  | nil => exact .nil
  | @cons p q ps qs h t ih =>
    rw [List.map_cons, List.map_cons]
    refine .cons ?_ ih
    obtain ⟨h1, h2, h3⟩ := h
    unfold putAt
    by_cases e : p.1 = k
    · rw [if_pos e, if_pos (h1.symm.trans e)]; exact ⟨h1, h2, ry⟩
    · rw [if_neg e, if_neg (fun z => e (h1.trans z))]; exact ⟨h1, h2, h3⟩
theorem KT.put {H : Hp} {kvs : List (List Key × V)} {xs : List (List Key × Addr × Value)} (r : KT H kvs xs) (k : List Key) {b : Addr} {y : V} {u : Value} (hb : H b = some (.tup (k.map kV))) (ry : RelV y u) :
    KT H (putK kvs k y) (storedH xs k b u) := by
  have e : (kvs.any fun kv => decide (kv.1 = k)) = (atKey xs k).isSome := by
    rw [valV_any, (r.val k).isSome_eq, Option.isSome_map]
  unfold putK storedH
  rw [e]
  by_cases q : (atKey xs k).isSome = true
  · rw [if_pos q, if_pos q]; exact r.repl k ry
  · rw [if_neg q, if_neg q]; exact Paired.snoc r ⟨rfl, hb, ry⟩
theorem KT.keeps {H H' : Hp} {kvs : List (List Key × V)} {xs : List (List Key × Addr × Value)} (r : KT H kvs xs) (ht : ∀ b ys, H b = some (.tup ys) → H' b = some (.tup ys)) : KT H' kvs xs :=
  Paired.mapP r fun _ _ z => ⟨z.1, ht _ _ z.2.1, z.2.2⟩

section
variable {P : Program} {w : World} {H : Hp} {h : Heap} {a : Addr}
theorem rd_of {u : HO} (ok : HOk P w H h) (e : Rd H a u) : ObjOk P w H h a u := e.ok ok
theorem dk_rd {kvs : List (Key × V)} (ok : HOk P w H h) (e : Rd H a (.dK kvs)) : kvs.length ≤ sizeLine ∧ (a == sysModules) = false ∧ ∃ vs, KV kvs vs ∧ h.DictOf (mixKind P w) a vs :=
  show ObjOk P w H h a (.dK kvs) from rd_of ok e
theorem dk_of {kvs : List (Key × V)} (ok : HOk P w H h) (e : H a = some (.dK kvs)) : kvs.length ≤ sizeLine ∧ (a == sysModules) = false ∧ ∃ vs, KV kvs vs ∧ h.DictOf (mixKind P w) a vs := dk_rd ok (.inl e)
/-- a tracked tuple of ints and texts is a key -/
theorem key_of {ks : List Key} (ok : HOk P w H h) (e : H a = some (.tup (ks.map kV))) : (tupleKind (mixKind P w)).is h ks a := by
  obtain ⟨_, its, r, o, h1, h2, n, h3⟩ := (show ObjOk P w H h a (.tup (ks.map kV)) from ok a _ e)
  exact ⟨o, its.toArray, n, h1, h2, h3, by simpa using items_are r⟩
theorem dt_rd {kvs : List (List Key × V)} (ok : HOk P w H h) (e : Rd H a (.dT kvs)) : kvs.length ≤ sizeLine ∧ (a == sysModules) = false ∧
    ∃ xs, KT H kvs xs ∧ h.DictOfH (tupleKind (mixKind P w)) a xs := by
  obtain ⟨z, y, xs, r, o, es, ep, h1, h2, h3, h4, h5⟩ := (show ObjOk P w H h a (.dT kvs) from rd_of ok e)
  refine ⟨z, y, xs, r, o, es, ep, h1, h2, h3, h4, fun x hx => ?_, h5⟩
  have all : ∀ {l : List (List Key × V)} {m : List (List Key × Addr × Value)}, KT H l m → ∀ x ∈ m, (tupleKind (mixKind P w)).is h x.1 x.2.1 := by
    intro l m q
    induction q with
    | nil => intro x hx; exact nomatch hx
    | @cons p q ps qs hq t ih =>
      intro x hx
      rcases List.mem_cons.mp hx with e | hx
      · subst e
        exact key_of ok (by rw [← hq.1]; exact hq.2.1)
      · exact ih x hx
  exact all r x hx
theorem dt_of {kvs : List (List Key × V)} (ok : HOk P w H h) (e : H a = some (.dT kvs)) : kvs.length ≤ sizeLine ∧ (a == sysModules) = false ∧
    ∃ xs, KT H kvs xs ∧ h.DictOfH (tupleKind (mixKind P w)) a xs := dt_rd ok (.inl e)
end

/-- what the dict at a holds at the key y -/
def DGet (H : Hp) (a : Addr) (y : V) (r : Option V) : Prop :=
  (∃ kvs k, Rd H a (.dK kvs) ∧ y = kV k ∧ r = valV kvs k) ∨ ∃ kvs k b, Rd H a (.dT kvs) ∧ y = .ref b ∧ H b = some (.tup (k.map kV)) ∧ r = valV kvs k
/-- the heap behind a[y] = v -/
def DPut (H : Hp) (a : Addr) (y v : V) (H' : Hp) : Prop :=
  (∃ kvs k, H a = some (.dK kvs) ∧ y = kV k ∧ kvs.length < sizeLine ∧ H' = upd H a (.dK (putK kvs k v))) ∨
  ∃ kvs k b, H a = some (.dT kvs) ∧ y = .ref b ∧ H b = some (.tup (k.map kV)) ∧ kvs.length < sizeLine ∧ H' = upd H a (.dT (putK kvs k v))
theorem DGet.k {H : Hp} {a : Addr} {kvs : List (Key × V)} {k : Key} (e : H a = some (.dK kvs)) : DGet H a (kV k) (valV kvs k) := .inl ⟨kvs, k, .inl e, rfl, rfl⟩
theorem DGet.t {H : Hp} {a b : Addr} {kvs : List (List Key × V)} {k : List Key} (e : H a = some (.dT kvs)) (eb : H b = some (.tup (k.map kV))) : DGet H a (.ref b) (valV kvs k) := .inr ⟨kvs, k, b, .inl e, rfl, eb, rfl⟩
theorem DPut.k {H : Hp} {a : Addr} {kvs : List (Key × V)} {k : Key} {v : V} (e : H a = some (.dK kvs)) (hl : kvs.length < sizeLine) : DPut H a (kV k) v (upd H a (.dK (putK kvs k v))) := .inl ⟨kvs, k, e, rfl, hl, rfl⟩
theorem DPut.t {H : Hp} {a b : Addr} {kvs : List (List Key × V)} {k : List Key} {v : V} (e : H a = some (.dT kvs)) (eb : H b = some (.tup (k.map kV))) (hl : kvs.length < sizeLine) :
    DPut H a (.ref b) v (upd H a (.dT (putK kvs k v))) := .inr ⟨kvs, k, b, e, rfl, eb, hl, rfl⟩


section
variable {X : Cx} {pins : List (Addr × Obj)} {σ : St} {H : Hp} {s : Shared} {a : Addr} {y v : V} {u r : Value} {o : Option V} {A : Around} {E : Value → Shared → Prop}

theorem Inv.big (I : Inv X pins σ H s) : sysModules < s.heap.objs.size := by
  have h : mainGlobals < s.heap.objs.size := (I.mod.glob.keeps I.bk).lt
  exact Nat.lt_trans (by decide) h

/-- d[y], there -/
theorem d_getItem {Q : Value → Shared → Prop} (hu : A.units + 1 < cLine) (I : Inv X pins σ H s) (g : DGet H a y (some v)) (ry : RelV y u) (h : ∀ w' s', Inv X pins σ H s' → RelV v w' → Q w' s') :
    wpAny (model X.prog X.w) A (getItem (.ref a) u) Q E s := by
  rcases g with ⟨kvs, k, e, ey, l⟩ | ⟨kvs, k, b, e, ey, eb, l⟩
  · subst ey
    obtain ⟨z, hd, vs, rel, dd⟩ := dk_rd I.hok e
    obtain ⟨w', hw, rw'⟩ := RelO.some_of (v := v) (o := valueAt vs k) (by rw [l]; exact rel.val k)
    exact wpAny_getItem_of (kV_is ry) dd.mapOf hw (h w' _ (I.tok _) rw')
  · subst ey
    cases (show u = Value.ref b from ry)
    obtain ⟨z, hd, xs, rel, dd⟩ := dt_rd I.hok e
    obtain ⟨w', hw, rw'⟩ := RelO.some_of (v := v) (o := (atKey xs k).map (·.2)) (by rw [l]; exact rel.val k)
    obtain ⟨p, hp, hp2⟩ := Option.map_eq_some_iff.mp hw
    refine wpAny_getItem_heap (tupleKind_room_in1 hu) (key_of I.hok eb) dd hp ?_
    rw [hp2]
    exact h w' _ (I.tok _) rw'
/-- y in d -/
theorem d_in {Q : Value → Shared → Prop} (hu : A.units + 1 < cLine) (I : Inv X pins σ H s) (g : DGet H a y o) (ry : RelV y u) (h : ∀ s', Inv X pins σ H s' → Q (.bool o.isSome) s') :
    wpAny (model X.prog X.w) A (compareOp .In u (.ref a)) Q E s := by
  rcases g with ⟨kvs, k, e, ey, l⟩ | ⟨kvs, k, b, e, ey, eb, l⟩
  · subst ey
    obtain ⟨z, hd, vs, rel, dd⟩ := dk_rd I.hok e
    refine wpAny_in_of (kV_is ry) hd dd.mapOf ?_
    rw [← (rel.val k).isSome_eq, ← l]
    exact h _ (I.tok _)
  · subst ey
    cases (show u = Value.ref b from ry)
    obtain ⟨z, hd, xs, rel, dd⟩ := dt_rd I.hok e
    refine wpAny_in_heap (tupleKind_room_in1 hu) (key_of I.hok eb) hd dd ?_
    have q := (rel.val k).isSome_eq
    rw [Option.isSome_map] at q
    rw [← q, ← l]
    exact h _ (I.tok _)
theorem d_notIn {Q : Value → Shared → Prop} (hu : A.units + 1 < cLine) (I : Inv X pins σ H s) (g : DGet H a y o) (ry : RelV y u) (h : ∀ s', Inv X pins σ H s' → Q (.bool (!o.isSome)) s') :
    wpAny (model X.prog X.w) A (compareOp .NotIn u (.ref a)) Q E s := by
  rcases g with ⟨kvs, k, e, ey, l⟩ | ⟨kvs, k, b, e, ey, eb, l⟩
  · subst ey
    obtain ⟨z, hd, vs, rel, dd⟩ := dk_rd I.hok e
    refine wpAny_notIn_of (kV_is ry) hd dd.mapOf ?_
    rw [← (rel.val k).isSome_eq, ← l]
    exact h _ (I.tok _)
  · subst ey
    cases (show u = Value.ref b from ry)
    obtain ⟨z, hd, xs, rel, dd⟩ := dt_rd I.hok e
    refine wpAny_notIn_heap (tupleKind_room_in1 hu) (key_of I.hok eb) hd dd ?_
    have q := (rel.val k).isSome_eq
    rw [Option.isSome_map] at q
    rw [← q, ← l]
    exact h _ (I.tok _)
/-- a dict's object is replaced -/
theorem d_write {h' : Heap} {t' : Nat} {ob : HO} (I : Inv X pins σ H s) (mu : Mut (H a)) (hs : Heap.SameBut a s.heap h') (he : ∃ q, h'.get? a = some q) (new : ObjOk X.prog X.w (upd H a ob) h' a ob) :
    Inv X pins σ (upd H a ob) { s with heap := h', toks := t' } :=
  I.write (x := a) (e := a) mu (.inl rfl) (fun b q hb z => (hs.2 b hb).trans z) he new
theorem dk_new {P : Program} {w : World} {H' : Hp} {h' : Heap} {kvs : List (Key × V)} {vs : List (Key × Value)} (z : kvs.length ≤ sizeLine) (hd : (a == sysModules) = false) (rel : KV kvs vs) (dd : h'.DictOf (mixKind P w) a vs) :
    ObjOk P w H' h' a (.dK kvs) := ⟨z, hd, vs, rel, dd⟩
/-- d[y] = v -/
theorem d_setItem {H' : Hp} {Q : Unit → Shared → Prop} (hu : A.units + 1 < cLine) (I : Inv X pins σ H s) (g : DPut H a y v H') (ry : RelV y u) (rv : RelV v r) (h : ∀ s', Inv X pins σ H' s' → Q () s') :
    wpAny (model X.prog X.w) A (setItem (.ref a) u r) Q E s := by
  rcases g with ⟨kvs, k, e, ey, l, eH⟩ | ⟨kvs, k, b, e, ey, eb, l, eH⟩
  · subst ey eH
    obtain ⟨z, hd, vs, rel, dd⟩ := dk_of I.hok e
    have hz : vs.length ≤ sizeLine := by rw [← rel.length]; exact z
    have hl : (putK kvs k v).length ≤ sizeLine := by have := length_putK kvs k v; omega
    refine wpAny_setItem_pairs (hsz := hz) (kV_is ry) dd fun h' dd' hs => h _ ?_
    have he : ∃ q, h'.get? a = some q := let ⟨q, _, _, hq, _⟩ := dd'; ⟨q, hq⟩
    exact d_write I (by rw [e]; exact True.intro) hs he (dk_new hl hd (rel.put k rv) dd')
  · subst ey eH
    cases (show u = Value.ref b from ry)
    obtain ⟨z, hd, xs, rel, dd⟩ := dt_of I.hok e
    have hz : xs.length ≤ sizeLine := by rw [← Paired.length rel]; exact z
    have hl : (putK kvs k v).length ≤ sizeLine := by have := length_putK kvs k v; omega
    refine wpAny_setItem_heap (hsz := hz) (tupleKind_room_in1 hu) (key_of I.hok eb) dd fun h' dd' hs => h _ ?_
    obtain ⟨q, es, ep, hq, h2, h3, h4, _, h5⟩ := dd'
    refine d_write I (by rw [e]; exact True.intro) hs ⟨q, hq⟩ ⟨hl, hd, _, (rel.put k eb rv).keeps fun c ys ec => ?_, q, es, ep, hq, h2, h3, h4, h5⟩
    rw [upd_ne (ne_of ec e (fun z => nomatch z))]
    exact ec
end

section
variable {X : Cx} {pins : List (Addr × Obj)} {σ : St} {H : Hp} {s : Shared} {a : Addr} {kvs : List (Key × V)} {k : Key} {u : Value} {A : Around} {E : Value → Shared → Prop}
/-- del d[k] -/
theorem d_delItem {Q : Unit → Shared → Prop} (I : Inv X pins σ H s) (e : H a = some (.dK kvs)) (ry : RelV (kV k) u) (l : (valV kvs k).isSome = true) (h : ∀ s', Inv X pins σ (upd H a (.dK (dropK kvs k))) s' → Q () s') :
    wpAny (model X.prog X.w) A (delItem (.ref a) u) Q E s := by
  obtain ⟨z, hd, vs, rel, dd⟩ := dk_of I.hok e
  refine wpAny_delItem_slot dd.typeIs (by decide) PySem.F.slot_dict_delitem
    (call_meetsIn PySem.F.slot_dict_delitem dd.typeIs PySem.F.entry_dict_delitem (PySem.F.args_dict_delitem_2 _ _) (meets_dict_delitem_pairs (mixKind X.prog X.w) a (kV_is ry)) ⟨vs, dd, by rw [← rel.length]; exact z, by rw [← (rel.val k).isSome_eq]; exact l, fun h' dd' hs => h _ ?_⟩)
  have he : ∃ q, h'.get? a = some q := let ⟨q, _, _, hq, _⟩ := dd'; ⟨q, hq⟩
  exact d_write I (by rw [e]; exact True.intro) hs he (dk_new (Nat.le_trans (dropK_le kvs k) z) hd (rel.drop k) dd')
/-- d.pop(k[, x]), there -/
theorem d_pop {v : V} {more : List Value} {Q : Value → Shared → Prop} (I : Inv X pins σ H s) (e : H a = some (.dK kvs)) (ry : RelV (kV k) u) (l : valV kvs k = some v) (hm : more = [] ∨ ∃ x, more = [x])
    (h : ∀ w' s', Inv X pins σ (upd H a (.dK (dropK kvs k))) s' → RelV v w' → Q w' s') : wpAny (model X.prog X.w) A (call (.builtin "dict.pop") (.ref a :: u :: more)) Q E s := by
  obtain ⟨z, hd, vs, rel, dd⟩ := dk_of I.hok e
  obtain ⟨w', hw, rw'⟩ := RelO.some_of (v := v) (o := valueAt vs k) (by rw [← l]; exact rel.val k)
  have hp : (keyPart u).isSome = true := by
    cases k with
    | inl i => obtain ⟨t, q⟩ := (show ∃ t, u = Value.int i t from ry); subst q; rfl
    | inr x => obtain ⟨t, q⟩ := (show ∃ t, u = Value.str x t from ry); subst q; rfl
  have ha : argsOk "dict.pop" ⟨.ref a :: u :: more, []⟩ := by
    rcases hm with q | ⟨x, q⟩
    · subst q; exact PySem.F.args_dict_pop_2 _ _
    · subst q; exact PySem.F.args_dict_pop_3 _ _ _
  refine call_meetsIn PySem.F.slot_dict_pop dd.typeIs PySem.F.entry_dict_pop ha (meets_dict_pop_there (mixKind X.prog X.w) a (kV_is ry) more hm hp)
    ⟨vs, w', dd, by rw [← rel.length]; exact z, hw, fun h' dd' hs => h w' _ ?_ rw'⟩
  have he : ∃ q, h'.get? a = some q := let ⟨q, _, _, hq, _⟩ := dd'; ⟨q, hq⟩
  exact d_write I (by rw [e]; exact True.intro) hs he (dk_new (Nat.le_trans (dropK_le kvs k) z) hd (rel.drop k) dd')
/-- d.pop(k, x), not there -/
theorem d_popD {r : Value} {Q : Value → Shared → Prop} (I : Inv X pins σ H s) (e : H a = some (.dK kvs)) (ry : RelV (kV k) u) (l : valV kvs k = none) (h : ∀ s', Inv X pins σ H s' → Q r s') :
    wpAny (model X.prog X.w) A (call (.builtin "dict.pop") [.ref a, u, r]) Q E s := by
  obtain ⟨z, hd, vs, rel, dd⟩ := dk_of I.hok e
  have hn : valueAt vs k = none := RelO.none_of (by rw [← l]; exact rel.val k)
  have hp : (keyPart u).isSome = true := by
    cases k with
    | inl i => obtain ⟨t, q⟩ := (show ∃ t, u = Value.int i t from ry); subst q; rfl
    | inr x => obtain ⟨t, q⟩ := (show ∃ t, u = Value.str x t from ry); subst q; rfl
  exact call_meetsIn PySem.F.slot_dict_pop dd.typeIs PySem.F.entry_dict_pop (PySem.F.args_dict_pop_3 _ _ _) (meets_dict_pop_default (mixKind X.prog X.w) a (kV_is ry) hd hp r) ⟨vs, dd, hn, h _ (I.tok _)⟩
/-- d.clear() -/
theorem d_clear {Q : Value → Shared → Prop} (I : Inv X pins σ H s) (e : H a = some (.dK kvs)) (h : ∀ s', Inv X pins σ (upd H a (.dK [])) s' → Q .none s') : wpAny (model X.prog X.w) A (call (.builtin "dict.clear") [.ref a]) Q E s := by
  obtain ⟨z, hd, vs, rel, dd⟩ := dk_of I.hok e
  refine call_meetsIn PySem.F.slot_dict_clear dd.typeIs PySem.F.entry_dict_clear (PySem.F.args_dict_clear_1 _) (meets_dict_clear (mixKind X.prog X.w) a) ⟨vs, dd, by rw [← rel.length]; exact z, fun h' dd' hs => h _ ?_⟩
  have he : ∃ q, h'.get? a = some q := let ⟨q, _, _, hq, _⟩ := dd'; ⟨q, hq⟩
  exact d_write (t' := s.toks) I (by rw [e]; exact True.intro) hs he (dk_new (Nat.zero_le _) hd .nil dd')
/-- len(d) -/
theorem d_len {Q : Value → Shared → Prop} (I : Inv X pins σ H s) (e : Rd H a (.dK kvs)) (h : ∀ t s', Inv X pins σ H s' → Q (.int kvs.length t) s') : wpAny (model X.prog X.w) A (call (.builtin "len") [.ref a]) Q E s := by
  obtain ⟨z, hd, vs, rel, dd⟩ := dk_rd I.hok e
  refine call_len_dict hd dd (by rw [← rel.length]; rw [sizeLine_eq] at z; omega) ?_
  rw [← rel.length]
  exact h _ _ (I.tok _)
/-- if d -/
theorem d_truth {Q : Bool → Shared → Prop} (I : Inv X pins σ H s) (e : Rd H a (.dK kvs)) (h : ∀ s', Inv X pins σ H s' → Q (!kvs.isEmpty) s') : wpAny (model X.prog X.w) A (truthy (.ref a)) Q E s := by
  obtain ⟨z, hd, vs, rel, dd⟩ := dk_rd I.hok e
  refine wpAny_truthy_dict hd dd (by rw [← rel.length]; rw [sizeLine_eq] at z; omega) ?_
  have q : kvs.isEmpty = vs.isEmpty := by cases rel <;> rfl
  rw [← q]
  exact h _ (I.tok _)
end


/-! ### readings and rules -/
/-- the element of a subscription, not a slice -/
def NoSl (i : Expr) : Prop := ∀ ov iv, subscripted i false ov iv = operate [ov, iv] (getItem ov iv)
theorem subD_of {prog : Program} {w : World} {A : Around} {E : Value → Shared → Prop} {s : Shared} {env : Env} {value slice : Expr} {pos : Pos} {T id : String} {Q : Value → Shared → Prop}
    (hl : typeLookup (.type T) "__getitem__" = pure (some (.builtin id))) (hs : NoSl slice)
    (h : wpAny (model prog w) A (eval value env) (fun o s₁ => wpAny (model prog w) A (eval slice env) (fun i s₂ => s₂.TypeIs o T ∧ wpAny (model prog w) A (getItem o i) Q E s₂) E s₁) E s) :
    wpAny (model prog w) A (eval (.Subscript value slice pos) env) Q E s := by
  refine Subscript_ (wpAny_mono h (fun o s₁ h₁ => wpAny_mono h₁ (fun i s₂ h₂ => ?_) fun _ _ x => x) fun _ _ x => x)
  obtain ⟨hT, h₂⟩ := h₂
  unfold subscriptTail
  refine wpAny_bind ?_
  rw [getitemInPython_of_ne hT.not_modules]
  refine wpAny_bind (wpAny_specialOf hT hl ?_)
  have fin : wpAny (model prog w) A (subscripted slice false o i) (fun r s₃ => wpAny (model prog w) A (letTemporaryGo value o r >>= fun _ => pure r) Q E s₃) E s₂ := by
    rw [hs o i]
    exact wpAny_operating (wpAny_mono h₂ (fun r s₃ h₃ => wpAny_bind (wpAny_letTemporaryGo (wpAny_pure h₃))) fun _ _ x => x)
  first
    | exact wpAny_pure (wpAny_bind fin)
    | exact wpAny_bind (wpAny_pure (wpAny_bind fin))
    | exact wpAny_bind fin

theorem dict_typeIs {X : Cx} {pins : List (Addr × Obj)} {σ : St} {H : Hp} {s : Shared} {a : Addr} {y : V} {o : Option V} (I : Inv X pins σ H s) (g : DGet H a y o) : s.TypeIs (.ref a) "dict" := by
  rcases g with ⟨kvs, k, e, _, _⟩ | ⟨kvs, k, b, e, _, _, _⟩
  · obtain ⟨_, _, vs, _, dd⟩ := dk_rd I.hok e
    exact dd.typeIs
  · obtain ⟨_, _, xs, _, dd⟩ := dt_rd I.hok e
    exact dd.typeIs
theorem dict_noDict {X : Cx} {pins : List (Addr × Obj)} {σ : St} {H : Hp} {s : Shared} {a : Addr} {y : V} {o : Option V} (I : Inv X pins σ H s) (g : DGet H a y o) :
    ∀ b, Value.ref a = .ref b → ∃ ob, s.heap.get? b = some ob ∧ ob.dict = none := fun b q => by
  cases q
  rcases g with ⟨kvs, k, e, _, _⟩ | ⟨kvs, k, b, e, _, _, _⟩
  · obtain ⟨_, _, vs, _, ob, _, _, h1, h2, _⟩ := dk_rd I.hok e
    exact ⟨ob, h1, h2.2.1⟩
  · obtain ⟨_, _, xs, _, ob, _, _, h1, h2, _⟩ := dt_rd I.hok e
    exact ⟨ob, h1, h2.2.1⟩

/-- d[y] -/
def tDGet (td ty : TE) : TE := fun σ H Q => td σ H fun x H1 => ty σ H1 fun y H2 => ∃ a v, x = .ref a ∧ DGet H2 a y (some v) ∧ Q v H2
/-- y in d, y not in d -/
def tDIn (ty td : TE) : TE := fun σ H Q => ty σ H fun y H1 => td σ H1 fun x H2 => ∃ a o, x = .ref a ∧ DGet H2 a y o ∧ Q (.bl o.isSome) H2
def tDNotIn (ty td : TE) : TE := fun σ H Q => ty σ H fun y H1 => td σ H1 fun x H2 => ∃ a o, x = .ref a ∧ DGet H2 a y o ∧ Q (.bl (!o.isSome)) H2
/-- d[y] = v -/
def sDPut (td ty tv : TE) : TS := fun D σ H => tv σ H fun v H1 => td σ H1 fun x H2 => ty σ H2 fun y H3 => ∃ a H4, x = .ref a ∧ DPut H3 a y v H4 ∧ D.nx σ H4
/-- d[y] op= v -/
def sDAug (td ty tv : TE) (rd : V → V → Hp → VK → Prop) : TS := fun D σ H => td σ H fun x H1 => ty σ H1 fun y H2 => ∃ a v, x = .ref a ∧ DGet H2 a y (some v) ∧
  tv σ H2 fun y2 H3 => rd v y2 H3 fun z H4 => ∃ H5, DPut H4 a y z H5 ∧ D.nx σ H5
/-- del d[y] -/
def sDDel (td ty : TE) : TS := fun D σ H => td σ H fun x H1 => ty σ H1 fun y H2 => ∃ a kvs k, x = .ref a ∧ H2 a = some (.dK kvs) ∧ y = kV k ∧ (valV kvs k).isSome = true ∧ D.nx σ (upd H2 a (.dK (dropK kvs k)))

section
variable {X : Cx} {o i e value : Expr} {pos pos' tpos : Pos} {td ty tv : TE}
theorem pe_dget (hu : X.A.units + 1 < cLine) (ho : PE X o td) (hi : PE X i ty) (hs : NoSl i) : PE X (.Subscript o i pos) (tDGet td ty) := by
  intro pins s σ H Q I h
  refine subD_of PySem.F.slot_dict_getitem.lookup hs (thn (ho pins s σ H _ I h) fun u s1 ⟨x, H1, I1, rx, q1⟩ => thn (hi pins s1 σ H1 _ I1 q1) fun iv s2 ⟨y, H2, I2, ry, a, v, ex, g, q2⟩ => ?_)
  subst ex
  obtain rfl : u = Value.ref a := rx
  exact ⟨dict_typeIs I2 g, d_getItem hu I2 g ry fun w' s3 I3 rw' => ⟨v, H2, I3, rw', q2⟩⟩
theorem pc_din (hu : X.A.units + 1 < cLine) (hi : PE X i ty) (ho : PE X o td) : PC X .In i o (tDIn ty td) := by
  intro pins s σ H Q I h
  refine thn (hi pins s σ H _ I h) fun iv s1 ⟨y, H1, I1, ry, q1⟩ => thn (ho pins s1 σ H1 _ I1 q1) fun u s2 ⟨x, H2, I2, rx, a, ov, ex, g, q2⟩ => ?_
  subst ex
  obtain rfl : u = Value.ref a := rx
  exact d_in hu I2 g ry fun s3 I3 => ⟨.bl ov.isSome, H2, I3, rfl, q2⟩
theorem pc_dnotin (hu : X.A.units + 1 < cLine) (hi : PE X i ty) (ho : PE X o td) : PC X .NotIn i o (tDNotIn ty td) := by
  intro pins s σ H Q I h
  refine thn (hi pins s σ H _ I h) fun iv s1 ⟨y, H1, I1, ry, q1⟩ => thn (ho pins s1 σ H1 _ I1 q1) fun u s2 ⟨x, H2, I2, rx, a, ov, ex, g, q2⟩ => ?_
  subst ex
  obtain rfl : u = Value.ref a := rx
  exact d_notIn hu I2 g ry fun s3 I3 => ⟨.bl (!ov.isSome), H2, I3, rfl, q2⟩
theorem ps_dput (hu : X.A.units + 1 < cLine) (ho : PE X o td) (hi : PE X i ty) (hv : PE X value tv) (hs : swapsWith value (some (.Subscript o i pos')) pos.line X.env = pure false) :
    PS X (.Assign [.Subscript o i pos'] value pos) (sDPut td ty tv) := by
  intro pins s σ H D I h
  refine wpAny_Assign_Subscript (thn (hv pins s σ H _ I h) fun r s1 ⟨v, H1, I1, rv, q1⟩ => thn (ho pins s1 σ H1 _ I1 q1) fun u s2 ⟨x, H2, I2, rx, q2⟩ => thn (hi pins s2 σ H2 _ I2 q2) fun iv s3 ⟨y, H3, I3, ry, a, H4, ex, g, q3⟩ => ?_) hs
  subst ex
  obtain rfl : u = Value.ref a := rx
  exact d_setItem hu I3 g ry rv fun s4 I4 => ⟨σ, H4, I4, q3⟩
theorem ps_daug {op : Operator} {rd : V → V → Hp → VK → Prop} (hu : X.A.units + 1 < cLine) (ho : PE X o td) (hi : PE X i ty) (hv : PE X value tv) (hop : InOp X op rd)
    (ha : ∀ ov iv new, augStore i ov iv new = (do holding [new, ov, iv] (setItem ov iv new); release [new, ov, iv] []; pure .next)) : PS X (.AugAssign (.Subscript o i tpos) op value pos) (sDAug td ty tv rd) := by
  intro pins s σ H D I h
  refine wpAny_AugAssign_SubscriptAny (thn (ho pins s σ H _ I h) fun u s1 ⟨x, H1, I1, rx, q1⟩ => thn (hi pins s1 σ H1 _ I1 q1) fun iv s2 ⟨y, H2, I2, ry, a, v, ex, g, q2⟩ => ?_) ha
  subst ex
  obtain rfl : u = Value.ref a := rx
  refine d_getItem hu I2 g ry fun w' s3 I3 rw' => thn (hv pins s3 σ H2 _ I3 q2) fun w2 s4 ⟨y2, H3, I4, ry2, q3⟩ => thn (hop pins s4 σ H3 v y2 w' w2 _ I4 rw' ry2 q3) fun w3 s5 ⟨z, H4, I5, rz, H5, g5, q4⟩ => ?_
  exact d_setItem hu I5 g5 ry rz fun s6 I6 => ⟨σ, H5, I6, q4⟩
theorem ps_ddel (ho : PE X o td) (hi : PE X i ty) : PS X (.Delete [.Subscript o i tpos] pos) (sDDel td ty) := by
  intro pins s σ H D I h
  refine wpAny_Delete (wpAny_deleteEach_cons (wpAny_delete_Subscript (thn (ho pins s σ H _ I h) fun u s1 ⟨x, H1, I1, rx, q1⟩ => thn (hi pins s1 σ H1 _ I1 q1) fun iv s2 ⟨y, H2, I2, ry, a, kvs, k, ex, e, ey, l, q2⟩ => ?_)))
  subst ex ey
  obtain rfl : u = Value.ref a := rx
  exact d_delItem I2 e ry l fun s3 I3 => wpAny_deleteEach_nil ⟨σ, _, I3, q2⟩
end


/-! ### displays -/
theorem dk_empty {P : Program} {w : World} {H : Hp} (h : Heap) (hb : sysModules < h.objs.size) : ObjOk P w H (h.push { cls := .type "dict", data := .dict #[] }) h.objs.size (.dK []) :=
  ⟨Nat.zero_le _, beq_eq_false_iff_ne.mpr (Ne.symm (Nat.ne_of_lt hb)), [], .nil, Heap.DictOf.new h⟩
theorem dt_empty {P : Program} {w : World} {H : Hp} (h : Heap) (hb : sysModules < h.objs.size) : ObjOk P w H (h.push { cls := .type "dict", data := .dict #[] }) h.objs.size (.dT []) :=
  ⟨Nat.zero_le _, beq_eq_false_iff_ne.mpr (Ne.symm (Nat.ne_of_lt hb)), [], .nil, _, #[], 0, Heap.get?_push_size _ rfl, ⟨rfl, rfl, rfl⟩, rfl, rfl, List.nodup_nil⟩
/-- {}, to be a dict of the kind that is wanted -/
def tDNewK : TE := fun _ H Q => ∀ p, H p = none → Q (.ref p) (upd H p (.dK []))
def tDNewT : TE := fun _ H Q => ∀ p, H p = none → Q (.ref p) (upd H p (.dT []))
section
variable {X : Cx} {pos : Pos}
theorem pe_dnewK : PE X (.Dict [] [] pos) tDNewK := fun pins s σ H Q I h =>
  wpAny_Dict_empty ⟨.ref s.heap.objs.size, _, I.laid (a := s.heap.objs.size) (o := .dK []) (t' := s.toks) (fun _ _ q => Heap.get?_push_of_some _ q) (Nat.le_refl _) (dk_empty s.heap I.big), rfl, h _ (I.hok.fresh (Nat.le_refl _))⟩
theorem pe_dnewT : PE X (.Dict [] [] pos) tDNewT := fun pins s σ H Q I h =>
  wpAny_Dict_empty ⟨.ref s.heap.objs.size, _, I.laid (a := s.heap.objs.size) (o := .dT []) (t' := s.toks) (fun _ _ q => Heap.get?_push_of_some _ q) (Nat.le_refl _) (dt_empty s.heap I.big), rfl, h _ (I.hok.fresh (Nat.le_refl _))⟩
end

/-- the pairs of a display, from the left -/
def tPairs : List (TE × TE) → St → Hp → (List (V × V) → Hp → Prop) → Prop
  | [], _, H, Q => Q [] H
  | (tk, tv) :: r, σ, H, Q => tk σ H fun x H1 => tv σ H1 fun y H2 => tPairs r σ H2 fun ps H3 => Q ((x, y) :: ps) H3
abbrev VV : List (V × V) → List (Value × Value) → Prop := Paired fun p q => RelV p.1 q.1 ∧ RelV p.2 q.2
def PPs (X : Cx) (pos : Pos) (keys : List (Option Expr)) (values : List Expr) (trs : List (TE × TE)) : Prop :=
  ∀ (pins : List (Addr × Obj)) (s : Shared) (σ : St) (H : Hp) (Q : List (V × V) → Hp → Prop), Inv X pins σ H s → tPairs trs σ H Q →
    wpAny (model X.prog X.w) X.A (evalPairs (pairTrees keys values X.env pos)) (fun vs s' => ∃ ps H', Inv X pins σ H' s' ∧ VV ps vs ∧ Q ps H') X.xe s
theorem pps_nil {X : Cx} {pos : Pos} : PPs X pos [] [] [] := fun pins s σ H Q I h => pairTrees_nil_walk ⟨[], H, I, .nil, h⟩
theorem pps_cons {X : Cx} {pos : Pos} {k v : Expr} {ks : List (Option Expr)} {vs : List Expr} {tk tv : TE} {trs : List (TE × TE)} (hk : PE X k tk) (hv : PE X v tv) (hr : PPs X pos ks vs trs) :
    PPs X pos (some k :: ks) (v :: vs) ((tk, tv) :: trs) := fun pins s σ H Q I h =>
  pairTrees_cons_walk (thn (hk pins s σ H _ I h) fun u s1 ⟨x, H1, I1, rx, q1⟩ => thn (hv pins s1 σ H1 _ I1 q1) fun w2 s2 ⟨y, H2, I2, ry, q2⟩ =>
    thn (hr pins s2 σ H2 _ I2 q2) fun ws s3 ⟨ps, H3, I3, rel, q3⟩ => ⟨(x, y) :: ps, H3, I3, .cons ⟨rx, ry⟩ rel, q3⟩)

def mergeK (kvs more : List (Key × V)) : List (Key × V) := more.foldl (fun acc kv => putK acc kv.1 kv.2) kvs
theorem KV.merge : ∀ {more : List (Key × V)} {rs : List (Key × Value)} {kvs : List (Key × V)} {vs : List (Key × Value)}, KV more rs → KV kvs vs → KV (mergeK kvs more) (merged vs rs) := by
  intro more rs kvs vs r
  unfold KV at r
  induction r generalizing kvs vs with
  | nil => intro q; exact q
  | @cons p q ps qs h t ih =>
    intro r0
    have e : KV (putK kvs p.1 p.2) (stored vs q.1 q.2) := by
      have := r0.put p.1 h.2
      rw [← h.1]; exact this
    exact ih e
theorem length_mergeK : ∀ (more kvs : List (Key × V)), (mergeK kvs more).length ≤ kvs.length + more.length
  | [], kvs => by show kvs.length ≤ kvs.length + 0; omega
  | p :: r, kvs => by
    have h1 := length_mergeK r (putK kvs p.1 p.2)
    have h2 := length_putK kvs p.1 p.2
    show (mergeK (putK kvs p.1 p.2) r).length ≤ _
    rw [List.length_cons]; omega
theorem carries_of {P : Program} {w : World} : ∀ {kvs : List (Key × V)} {ws : List (Value × Value)}, VV (kvs.map fun kv => (kV kv.1, kv.2)) ws → ∃ rs, Carries (mixKind P w) ws rs ∧ KV kvs rs
  | [], _, r => by rw [List.map_nil] at r; cases r; exact ⟨[], True.intro, .nil⟩
  | p :: kvs, _, r => by
    rw [List.map_cons] at r
    cases r with
    | @cons a b as bs h t =>
      obtain ⟨rs, c, q⟩ := carries_of (P := P) (w := w) t
      obtain ⟨b1, b2⟩ := b
      exact ⟨(p.1, b2) :: rs, ⟨kV_is h.1, rfl, c⟩, .cons ⟨rfl, h.2⟩ q⟩
/-- {k: v, ..} with keys ints and texts; the new dict stands empty while the pairs are made -/
def tDisp (trs : List (TE × TE)) : TE := fun σ H Q => ∀ p, H p = none → tPairs trs σ (upd H p (.dK [])) fun ps H2 => H2 p = some (.dK []) ∧ ∃ kvs : List (Key × V), ps = kvs.map (fun kv => (kV kv.1, kv.2)) ∧ kvs.length ≤ 15 ∧ Q (.ref p) (upd H2 p (.dK (mergeK [] kvs)))
theorem pe_disp {X : Cx} {pos : Pos} {keys : List (Option Expr)} {values : List Expr} {trs : List (TE × TE)} (h : PPs X pos keys values trs) (hall : keys.all (·.isSome) = true) (hl : keys.length = values.length) (h0 : keys ≠ [])
    (h15 : keys.length ≤ 15) : PE X (.Dict keys values pos) (tDisp trs) := by
  intro pins s σ H Q I q
  have hn := I.hok.fresh (Nat.le_refl s.heap.objs.size)
  have I1 := I.laid (a := s.heap.objs.size) (o := .dK []) (h' := s.heap.push { cls := .type "dict", data := .dict #[] }) (t' := s.toks) (fun _ _ q => Heap.get?_push_of_some _ q) (Nat.le_refl _) (dk_empty s.heap I.big)
  refine wpAny_Dict_walk (knd := mixKind X.prog X.w) hall hl h0 h15 (thn (h pins _ σ _ _ I1 (q _ hn)) fun ws s2 ⟨ps, H2, I2, rel, e, kvs, ep, lk, q2⟩ => ?_)
  subst ep
  obtain ⟨rs, c, rk⟩ := carries_of (P := X.prog) (w := X.w) rel
  obtain ⟨z, hd, vs0, r0, dd⟩ := dk_of I2.hok e
  cases r0
  refine ⟨rs, c, dd, fun h' dd' hs => ⟨.ref s.heap.objs.size, _, ?_, rfl, q2⟩⟩
  have hz : (mergeK [] kvs).length ≤ sizeLine := by
    have h1 := length_mergeK kvs []
    rw [List.length_nil] at h1
    rw [sizeLine_eq]; omega
  have he : ∃ q, h'.get? s.heap.objs.size = some q := let ⟨q, _, _, hq, _⟩ := dd'; ⟨q, hq⟩
  exact d_write I2 (by rw [e]; exact True.intro) hs he (dk_new hz hd (rk.merge .nil) dd')


/-! ### methods -/
/-- a method call o.m(e) of a built-in, with one argument: what must be seen of the text -/
structure M1 (X : Cx) (o : Expr) (m : Str) (apos : Pos) (e : Expr) (cpos : Pos) : Prop where
  base : attributeBase o m X.env (eval o X.env) = eval o X.env
  few : ((backTo cpos (starEach [e] X.env)).all (fun x => !x.1) && (backToKw cpos (keywordEach [] X.env)).all (fun x => x.1.isSome)
    && decide (([e] : List Expr).length + ([] : List Keyword).length + (if ([] : List Keyword).isEmpty then 0 else 1) < 30)) = true
  line : (apos.endLine == cpos.line) = true
  trees : backTo cpos (starEach [e] X.env) = [(false, eval e X.env)]
structure M2 (X : Cx) (o : Expr) (m : Str) (apos : Pos) (e f : Expr) (cpos : Pos) : Prop where
  base : attributeBase o m X.env (eval o X.env) = eval o X.env
  few : ((backTo cpos (starEach [e, f] X.env)).all (fun x => !x.1) && (backToKw cpos (keywordEach [] X.env)).all (fun x => x.1.isSome)
    && decide (([e, f] : List Expr).length + ([] : List Keyword).length + (if ([] : List Keyword).isEmpty then 0 else 1) < 30)) = true
  line : (apos.endLine == cpos.line) = true
  trees : backTo cpos (starEach [e, f] X.env) = [(false, eval e X.env), (false, eval f X.env)]

/-- a is a dict, whatever its keys -/
def IsD (H : Hp) (a : Addr) : Prop := (∃ kvs, Rd H a (.dK kvs)) ∨ ∃ kvs, Rd H a (.dT kvs)
theorem isD_at {X : Cx} {pins : List (Addr × Obj)} {σ : St} {H : Hp} {s : Shared} {a : Addr} (I : Inv X pins σ H s) (d : IsD H a) :
    s.TypeIs (.ref a) "dict" ∧ (∀ b, Value.ref a = .ref b → ∃ ob, s.heap.get? b = some ob ∧ ob.dict = none) ∧ (a == sysModules) = false := by
  rcases d with ⟨kvs, e⟩ | ⟨kvs, e⟩
  · obtain ⟨_, hd, vs, _, dd⟩ := dk_rd I.hok e
    refine ⟨dd.typeIs, fun b q => ?_, hd⟩
    cases q
    obtain ⟨ob, _, _, h1, h2, _⟩ := dd
    exact ⟨ob, h1, h2.2.1⟩
  · obtain ⟨_, hd, xs, _, dd⟩ := dt_rd I.hok e
    refine ⟨dd.typeIs, fun b q => ?_, hd⟩
    cases q
    obtain ⟨ob, _, _, h1, h2, _⟩ := dd
    exact ⟨ob, h1, h2.2.1⟩

section
variable {X : Cx} {pins : List (Addr × Obj)} {σ : St} {H : Hp} {s : Shared} {a : Addr} {y d : V} {u r : Value} {o : Option V} {A : Around} {E : Value → Shared → Prop}
/-- d.get(y) -/
theorem d_get1 {Q : Value → Shared → Prop} (hu : A.units + 1 < cLine) (I : Inv X pins σ H s) (g : DGet H a y o) (ry : RelV y u) (h : ∀ w' s', Inv X pins σ H s' → RelV (o.getD .non) w' → Q w' s') :
    wpAny (model X.prog X.w) A (call (.builtin "dict.get") [.ref a, u]) Q E s := by
  rcases g with ⟨kvs, k, e, ey, l⟩ | ⟨kvs, k, b, e, ey, eb, l⟩
  · subst ey
    obtain ⟨z, hd, vs, rel, dd⟩ := dk_rd I.hok e
    refine call_meetsIn PySem.F.slot_dict_get dd.typeIs PySem.F.entry_dict_get (PySem.F.args_dict_get_2 _ _) (meets_dict_get (mixKind X.prog X.w) a (kV_is ry) hd) ⟨_, dd.mapOf, h _ _ (I.tok _) ?_⟩
    rw [l]
    exact (rel.val k).getD rfl
  · subst ey
    cases (show u = Value.ref b from ry)
    obtain ⟨z, hd, xs, rel, dd⟩ := dt_rd I.hok e
    refine call_meetsIn PySem.F.slot_dict_get dd.typeIs PySem.F.entry_dict_get (PySem.F.args_dict_get_2 _ _) (meetsH_dict_get (tupleKind (mixKind X.prog X.w)) a b hd) ⟨tupleKind_room_in1 hu, k, xs, key_of I.hok eb, dd, h _ _ (I.tok _) ?_⟩
    rw [l]
    exact (rel.val k).getD rfl
/-- d.get(y, x) -/
theorem d_get2 {Q : Value → Shared → Prop} (hu : A.units + 1 < cLine) (I : Inv X pins σ H s) (g : DGet H a y o) (ry : RelV y u) (rd : RelV d r) (h : ∀ w' s', Inv X pins σ H s' → RelV (o.getD d) w' → Q w' s') :
    wpAny (model X.prog X.w) A (call (.builtin "dict.get") [.ref a, u, r]) Q E s := by
  rcases g with ⟨kvs, k, e, ey, l⟩ | ⟨kvs, k, b, e, ey, eb, l⟩
  · subst ey
    obtain ⟨z, hd, vs, rel, dd⟩ := dk_rd I.hok e
    refine call_meetsIn PySem.F.slot_dict_get dd.typeIs PySem.F.entry_dict_get (PySem.F.args_dict_get_3 _ _ _) (meets_dict_get_default (mixKind X.prog X.w) a (kV_is ry) hd r) ⟨_, dd.mapOf, h _ _ (I.tok _) ?_⟩
    rw [l]
    exact (rel.val k).getD rd
  · subst ey
    cases (show u = Value.ref b from ry)
    obtain ⟨z, hd, xs, rel, dd⟩ := dt_rd I.hok e
    refine call_meetsIn PySem.F.slot_dict_get dd.typeIs PySem.F.entry_dict_get (PySem.F.args_dict_get_3 _ _ _) (meetsH_dict_get_default (tupleKind (mixKind X.prog X.w)) a b hd r) ⟨tupleKind_room_in1 hu, k, xs, key_of I.hok eb, dd, h _ _ (I.tok _) ?_⟩
    rw [l]
    exact (rel.val k).getD rd
end

def tDGet1 (td ty : TE) : TE := fun σ H Q => td σ H fun x H1 => ∃ a, x = .ref a ∧ IsD H1 a ∧ ty σ H1 fun y H2 => ∃ o, DGet H2 a y o ∧ Q (o.getD .non) H2
def tDGet2 (td ty tx : TE) : TE := fun σ H Q => td σ H fun x H1 => ∃ a, x = .ref a ∧ IsD H1 a ∧ ty σ H1 fun y H2 => tx σ H2 fun z H3 => ∃ o, DGet H3 a y o ∧ Q (o.getD z) H3
/-- d.pop(k): there; d.pop(k, x): there or not -/
def tDPop1 (td ty : TE) : TE := fun σ H Q => td σ H fun x H1 => ∃ a, x = .ref a ∧ IsD H1 a ∧ ty σ H1 fun y H2 => ∃ kvs k v, H2 a = some (.dK kvs) ∧ y = kV k ∧ valV kvs k = some v ∧ Q v (upd H2 a (.dK (dropK kvs k)))
def tDPop2 (td ty tx : TE) : TE := fun σ H Q => td σ H fun x H1 => ∃ a, x = .ref a ∧ IsD H1 a ∧ ty σ H1 fun y H2 => tx σ H2 fun z H3 => ∃ kvs k, H3 a = some (.dK kvs) ∧ y = kV k ∧
  (∀ v, valV kvs k = some v → Q v (upd H3 a (.dK (dropK kvs k)))) ∧ (valV kvs k = none → Q z H3)
section
variable {X : Cx} {o e f : Expr} {apos cpos : Pos} {td ty tx : TE}
theorem pe_dget1 (hu : X.A.units + 1 < cLine) (ho : PE X o td) (he : PE X e ty) (m : M1 X o "get" apos e cpos) : PE X (.Call (.Attribute o "get" apos) [e] [] cpos) (tDGet1 td ty) := by
  intro pins s σ H Q I h
  refine wpAny_Call_method m.base m.few m.line PySem.F.plainAttrs_dict PySem.F.slot_dict_get PySem.F.type_dict_get (thn (ho pins s σ H _ I h) fun u s1 ⟨x, H1, I1, rx, a, ex, d, q1⟩ => ?_)
  subst ex
  obtain rfl : u = Value.ref a := rx
  obtain ⟨t1, t2, _⟩ := isD_at I1 d
  refine ⟨t1, t2, ?_⟩
  rw [m.trees]
  refine Calls.callWith_builtin rfl (Calls.evalArgs_plain (Calls.spliced_cons (thn (he pins s1 σ H1 _ I1 q1) fun iv s2 ⟨y, H2, I2, ry, ov, g, q2⟩ => Calls.spliced_nil ?_)))
  exact d_get1 hu I2 g ry fun w' s3 I3 rw' => ⟨_, H2, I3, rw', q2⟩
theorem pe_dget2 (hu : X.A.units + 1 < cLine) (ho : PE X o td) (he : PE X e ty) (hf : PE X f tx) (m : M2 X o "get" apos e f cpos) : PE X (.Call (.Attribute o "get" apos) [e, f] [] cpos) (tDGet2 td ty tx) := by
  intro pins s σ H Q I h
  refine wpAny_Call_method m.base m.few m.line PySem.F.plainAttrs_dict PySem.F.slot_dict_get PySem.F.type_dict_get (thn (ho pins s σ H _ I h) fun u s1 ⟨x, H1, I1, rx, a, ex, d, q1⟩ => ?_)
  subst ex
  obtain rfl : u = Value.ref a := rx
  obtain ⟨t1, t2, _⟩ := isD_at I1 d
  refine ⟨t1, t2, ?_⟩
  rw [m.trees]
  refine Calls.callWith_builtin rfl (Calls.evalArgs_plain (Calls.spliced_cons (thn (he pins s1 σ H1 _ I1 q1) fun iv s2 ⟨y, H2, I2, ry, q2⟩ =>
    Calls.spliced_cons (thn (hf pins s2 σ H2 _ I2 q2) fun fv s3 ⟨z, H3, I3, rz, ov, g, q3⟩ => Calls.spliced_nil ?_))))
  exact d_get2 hu I3 g ry rz fun w' s4 I4 rw' => ⟨_, H3, I4, rw', q3⟩
theorem pe_dpop1 (ho : PE X o td) (he : PE X e ty) (m : M1 X o "pop" apos e cpos) : PE X (.Call (.Attribute o "pop" apos) [e] [] cpos) (tDPop1 td ty) := by
  intro pins s σ H Q I h
  refine wpAny_Call_method m.base m.few m.line PySem.F.plainAttrs_dict PySem.F.slot_dict_pop PySem.F.type_dict_pop (thn (ho pins s σ H _ I h) fun u s1 ⟨x, H1, I1, rx, a, ex, d, q1⟩ => ?_)
  subst ex
  obtain rfl : u = Value.ref a := rx
  obtain ⟨t1, t2, _⟩ := isD_at I1 d
  refine ⟨t1, t2, ?_⟩
  rw [m.trees]
  refine Calls.callWith_builtin rfl (Calls.evalArgs_plain (Calls.spliced_cons (thn (he pins s1 σ H1 _ I1 q1) fun iv s2 ⟨y, H2, I2, ry, kvs, k, v, ea, ey, l, q2⟩ => Calls.spliced_nil ?_)))
  subst ey
  exact d_pop I2 ea ry l (.inl rfl) fun w' s3 I3 rw' => ⟨v, _, I3, rw', q2⟩
theorem pe_dpop2 (ho : PE X o td) (he : PE X e ty) (hf : PE X f tx) (m : M2 X o "pop" apos e f cpos) : PE X (.Call (.Attribute o "pop" apos) [e, f] [] cpos) (tDPop2 td ty tx) := by
  intro pins s σ H Q I h
  refine wpAny_Call_method m.base m.few m.line PySem.F.plainAttrs_dict PySem.F.slot_dict_pop PySem.F.type_dict_pop (thn (ho pins s σ H _ I h) fun u s1 ⟨x, H1, I1, rx, a, ex, d, q1⟩ => ?_)
  subst ex
  obtain rfl : u = Value.ref a := rx
  obtain ⟨t1, t2, _⟩ := isD_at I1 d
  refine ⟨t1, t2, ?_⟩
  rw [m.trees]
  refine Calls.callWith_builtin rfl (Calls.evalArgs_plain (Calls.spliced_cons (thn (he pins s1 σ H1 _ I1 q1) fun iv s2 ⟨y, H2, I2, ry, q2⟩ =>
    Calls.spliced_cons (thn (hf pins s2 σ H2 _ I2 q2) fun fv s3 ⟨z, H3, I3, rz, kvs, k, ea, ey, q3, q4⟩ => Calls.spliced_nil ?_))))
  subst ey
  cases l : valV kvs k with
  | some v => exact d_pop I3 ea ry l (.inr ⟨fv, rfl⟩) fun w' s4 I4 rw' => ⟨v, _, I4, rw', q3 v l⟩
  | none => exact d_popD I3 ea ry l fun s4 I4 => ⟨z, H3, I4, rz, q4 l⟩
end

/-! ### dict(d): a copy -/
section
variable {X : Cx} {pins : List (Addr × Obj)} {σ : St} {H : Hp} {s : Shared} {a : Addr} {kvs : List (Key × V)} {A : Around} {E : Value → Shared → Prop}
theorem d_copyOf {Q : Value → Shared → Prop} (I : Inv X pins σ H s) (e : Rd H a (.dK kvs)) (h : ∀ p s', H p = none → Inv X pins σ (upd H p (.dK kvs)) s' → Q (.ref p) s') : wpAny (model X.prog X.w) A (call (.type "dict") [.ref a]) Q E s := by
  obtain ⟨z, hd, vs, rel, dd⟩ := dk_rd I.hok e
  refine kt_call_dict hd dd (by rw [← rel.length]; exact z) fun h' dd' hs => ?_
  refine h _ _ (I.hok.fresh (Nat.le_refl _)) (I.laid (a := s.heap.objs.size) (o := .dK kvs) (t' := s.toks) (fun b q hq => ?_) (Nat.le_refl _) (dk_new z (beq_eq_false_iff_ne.mpr (Ne.symm (Nat.ne_of_lt I.big))) rel dd'))
  exact (hs.2 b (Nat.ne_of_lt (Heap.lt_size hq))).trans (Heap.get?_push_of_some _ hq)
end


section
variable {X : Cx} {pins : List (Addr × Obj)} {σ : St} {H : Hp} {s : Shared} {a : Addr} {y : V} {u : Value} {A : Around} {E : Value → Shared → Prop}
/-- d[y], not there: a KeyError -/
theorem d_missing {Q : Value → Shared → Prop} (hu : A.units + 1 < cLine) (hh : A.handled = none) (I : Inv X pins σ H s) (g : DGet H a y none) (ry : RelV y u)
    (h : ∀ h' e t', Heap.NewExc s.heap h' e "KeyError" → E (.ref e) { s with heap := h', toks := t' }) : wpAny (model X.prog X.w) A (getItem (.ref a) u) Q E s := by
  rcases g with ⟨kvs, k, e, ey, l⟩ | ⟨kvs, k, b, e, ey, eb, l⟩
  · subst ey
    obtain ⟨z, hd, vs, rel, dd⟩ := dk_rd I.hok e
    have hn : valueAt vs k = none := RelO.none_of (by rw [l]; exact rel.val k)
    exact wpAny_getItem_missing_of (kV_is ry) hd hh dd.mapOf hn fun h' ex ne => h h' ex _ ne
  · subst ey
    cases (show u = Value.ref b from ry)
    obtain ⟨z, hd, xs, rel, dd⟩ := dt_rd I.hok e
    have hn : (atKey xs k).map (·.2) = none := RelO.none_of (by rw [l]; exact rel.val k)
    exact wpAny_getItem_missing_heap (tupleKind_room_in1 hu) (key_of I.hok eb) hd hh dd (Option.map_eq_none_iff.mp hn) fun h' ex ne => h h' ex _ ne
end
end L2

set_option Elab.async false
set_option linter.all false
set_option maxRecDepth 100000
/-! Tokens only grow: so a text made behind a first token has another one than none. -/
namespace L2
open PySem PyProof.Rows
open Sem (wp)
theorem setGen_toks (s : Shared) (g : Nat) (x : GenState) : (s.setGen g x).toks = s.toks := rfl
theorem runs_toks {M : Model} {Γ : Ctx} {p : Pos} {t : Sem Fin} {fs : List Frame} {s s' : Shared} {e : End} (h : Runs M Γ p t fs s e s') : s.toks ≤ s'.toks := by
  induction h
  all_goals first
    | exact Nat.le_refl _
    | assumption
    | (simp only [setGen_toks] at *; omega)
    | omega
    | (dsimp only at *; omega)
    | trace_state
theorem wakes_toks {M : Model} {Γ : Ctx} {p : Pos} {g : Nat} {r : Resume} {s s' : Shared} {res : GenResult} (h : Wakes M Γ p g r s res s') : s.toks ≤ s'.toks := by
  unfold Wakes at h
  split at h
  · exact h.elim
  · split at h
    · obtain ⟨e₁, s₁, h1, _, _, rfl⟩ := h
      have := runs_toks h1
      simpa only [setGen_toks] using this
    · obtain ⟨_, rfl⟩ := h; exact Nat.le_refl _
    · obtain ⟨_, rfl⟩ := h; exact Nat.le_refl _
  · obtain ⟨e₁, s₁, h1, _, _, rfl⟩ := h
    have := runs_toks h1
    simpa only [setGen_toks] using this
  · obtain ⟨_, rfl⟩ := h; exact Nat.le_refl _
  · obtain ⟨_, rfl⟩ := h; exact Nat.le_refl _
theorem wp_toks {α : Type} (M : Model) (Γ : Ctx) : ∀ (t : Sem α) (Q : α → Pos → Shared → Prop) (E : Value → Pos → Shared → Prop) (p : Pos) (s : Shared), wp M Γ t Q E p s →
    wp M Γ t (fun a p' s' => Q a p' s' ∧ s.toks ≤ s'.toks) (fun e p' s' => E e p' s' ∧ s.toks ≤ s'.toks) p s := by
  have mono : ∀ {t : Sem α} {Q : α → Pos → Shared → Prop} {E : Value → Pos → Shared → Prop} {p : Pos} {s s0 : Shared}, s0.toks ≤ s.toks → wp M Γ t (fun a p' s' => Q a p' s' ∧ s.toks ≤ s'.toks) (fun e p' s' => E e p' s' ∧ s.toks ≤ s'.toks) p s →
      wp M Γ t (fun a p' s' => Q a p' s' ∧ s0.toks ≤ s'.toks) (fun e p' s' => E e p' s' ∧ s0.toks ≤ s'.toks) p s := by
    intro t Q E p s s0 h0 h
    exact Sem.wp_mono M Γ t (fun _ _ _ q => ⟨q.1, Nat.le_trans h0 q.2⟩) (fun _ _ _ q => ⟨q.1, Nat.le_trans h0 q.2⟩) p s h
  intro t
  induction t with
  | pure a => intro Q E p s h; rw [wp] at h ⊢; exact ⟨h, Nat.le_refl _⟩
  | raise e => intro Q E p s h; rw [wp] at h ⊢; exact ⟨h, Nat.le_refl _⟩
  | unsupported w => intro Q E p s h; rw [wp] at h; exact h.elim
  | finish w => intro Q E p s h; rw [wp] at h; exact h.elim
  | rule _ k ih => intro Q E p s h; rw [wp] at h ⊢; exact ih () Q E p s h
  | «at» p' k ih => intro Q E p s h; rw [wp] at h ⊢; exact ih () Q E p' s h
  | load a _ k ih => intro Q E p s h; rw [wp] at h ⊢; obtain ⟨o, e, h⟩ := h; exact ⟨o, e, ih o Q E p s h⟩
  | update a _ f k ih => intro Q E p s h; rw [wp] at h ⊢; exact ⟨h.1, mono (Nat.le_refl _) (ih () Q E p _ h.2)⟩
  | loadIfAlive a k ih => intro Q E p s h; rw [wp] at h ⊢; exact ih _ Q E p s h
  | point _ k ih => intro Q E p s h; rw [wp] at h ⊢; exact ih () Q E p s h
  | register _ _ => intro Q E p s h; rw [wp] at h; exact h.elim
  | alloc o k ih => intro Q E p s h; rw [wp] at h ⊢; exact mono (Nat.le_refl _) (ih _ Q E p _ h)
  | fresh k ih => intro Q E p s h; rw [wp] at h ⊢; exact mono (Nat.le_succ _) (ih _ Q E p _ h)
  | ask k ih => intro Q E p s h; rw [wp] at h ⊢; exact ih _ Q E p s h
  | choose src n k ih => intro Q E p s h; rw [wp] at h ⊢; exact ⟨h.1, mono (Nat.le_refl _) (ih _ Q E p _ h.2)⟩
  | os q _ k ih => intro Q E p s h; rw [wp] at h ⊢; exact mono (Nat.le_refl _) (ih _ Q E p _ h)
  | call c hd _ _ k ih =>
    intro Q E p s h
    rw [wp] at h ⊢
    obtain ⟨r, s', hr, h⟩ := h
    exact ⟨r, s', hr, mono (runs_toks hr) (ih r Q E p s' h)⟩
  | handled own k ih => intro Q E p s h; rw [wp] at h ⊢; exact ih _ Q E p s h
  | genState g k ih => intro Q E p s h; rw [wp] at h ⊢; obtain ⟨st, e, h⟩ := h; exact ⟨st, e, ih _ Q E p s h⟩
  | newGen c k ih => intro Q E p s h; rw [wp] at h ⊢; exact mono (Nat.le_refl _) (ih _ Q E p _ h)
  | resume g r _ k ih =>
    intro Q E p s h
    rw [wp] at h ⊢
    obtain ⟨res, s', hr, h⟩ := h
    exact ⟨res, s', hr, mono (wakes_toks hr) (ih res Q E p s' h)⟩
  | yield => intro Q E p s h; rw [wp] at h; exact h.elim
  | stack k ih => intro Q E p s h; rw [wp] at h ⊢; exact ih _ Q E p s h
  | fork => intro Q E p s h; rw [wp] at h; exact h.elim
  | thread k ih => intro Q E p s h; rw [wp] at h ⊢; exact ih _ Q E p s h
  | await => intro Q E p s h; rw [wp] at h; exact h.elim
theorem wpAny_toks {α : Type} {M : Model} {A : Around} {t : Sem α} {Q : α → Shared → Prop} {E : Value → Shared → Prop} {s : Shared} (h : wpAny M A t Q E s) : wpAny M A t (fun a s' => Q a s' ∧ s.toks ≤ s'.toks) E s :=
  fun Γ p hΓ => Sem.wp_mono M Γ t (fun _ _ _ q => q) (fun _ _ _ q => q.1) p s (wp_toks M Γ t _ _ p s (h Γ p hΓ))
end L2

set_option Elab.async false
set_option linter.all false
set_option maxRecDepth 100000
namespace L2
open PySem PyProof.Rows
open Sem (wp)
theorem excMatches_own {M : Model} {A : Around} {E : Value → Shared → Prop} {nm q nm' q' : Str} {C N D N' : Addr} {bs bm bs' bm' : List Value} {hdct hdct' : Bool} {sn sn' : List Str} {sub sub' : List Value} {ab ab' : Bool} {col col' : Option Bool} {dd dd' : Option Addr}
    {k0 k1 k2 k3 k5 k0' k1' k2' k3' k5' : Option Value} {newId newId' : String} {h : Heap} {g : Array GenState} {d : Drawn} {t : Nat} {os : OsState} {e : Addr} {oe : Obj} {b : Bool} {Q : Bool → Shared → Prop}
    (hC : h.get? C = some (excClassObj nm q C N bs bm hdct sn sub ab col dd k0 k1 k2 k3 k5 newId)) (hD : h.get? D = some (excClassObj nm' q' D N' bs' bm' hdct' sn' sub' ab' col' dd' k0' k1' k2' k3' k5' newId'))
    (he : h.get? e = some oe) (hcls : oe.cls = .ref C) (hbase : bm'.contains (.type "BaseException") = true) (hb : (Value.ref C :: bm).contains (.ref D) = b)
    (hq : Q b ⟨h, g, d, t, os⟩) : wpAny M A (excMatches (.ref e) (.ref D)) Q E ⟨h, g, d, t, os⟩ := by
  have hcB : (Value.ref D :: bm').contains (.type "BaseException") = true := by rw [List.contains_cons, hbase, Bool.or_true]
  have f := tc_notTuple
  unfold excMatches
  repeat (first | (with_reducible refine wpAny_loadPart_at he ?_; rw [hcls]) | with_reducible refine wpAny_loadPart_at hD ?_ | (with_reducible refine wpAny_isSubtype_exc hD ?_; rw [hcB]) | (with_reducible refine wpAny_isSubtype_exc hC ?_; rw [hb]) | wp_step)
  all_goals (cases b <;> (try wp_walk) <;> exact hq)
end L2

set_option Elab.async false
set_option linter.all false
set_option maxRecDepth 100000
/-! Exceptions that fly, over the hand layer: a record, its newest entry, what of the state stays. -/
namespace L2
open PySem PySem.Spec PyProof.Rows

/-- an exception of class C at a; T: its newest traceback entry (none: it has none yet) -/
def Fl (h : Heap) (a : Addr) (C : Value) (T : Option Addr) : Prop :=
  ∃ oe vs a0, h.get? a = some oe ∧ oe.cls = C ∧ oe.data = .fields vs ∧ vs[0]? = some a0 ∧ 1 < vs.size ∧
    (match T with
    | none => vs[1]? = some Value.none
    | some t => vs[1]? = some (Value.ref t) ∧ t ≠ a ∧ ∃ oT ts, h.get? t = some oT ∧ oT.data = .fields ts ∧ 3 < ts.size)

theorem frameOf_congr {e1 e2 : Env} (h : e1.frame = e2.frame) : PySem.frameOf e1 = PySem.frameOf e2 := by
  unfold PySem.frameOf; rw [h]
theorem noteFrame_congr {e : Value} {e1 e2 : Env} (h : e1.frame = e2.frame) : noteFrame e e1 = noteFrame e e2 := by
  unfold noteFrame; rw [h, frameOf_congr h]

/-- the records at l were written, of the frames at fs the slots; all else stays -/
structure Wr (l fs : List Addr) (h h' : Heap) : Prop where
  keep : ∀ b o, b ∉ l → b ∉ fs → h.get? b = some o → h'.get? b = some o
  slot : ∀ b o, b ∉ l → b ∈ fs → h.get? b = some o → ∃ sl, h'.get? b = some { o with slots := sl }
theorem Wr.any {l fs : List Addr} {h h' : Heap} (W : Wr l fs h h') {b : Addr} {o : Obj} (hb : b ∉ l) (e : h.get? b = some o) : ∃ sl, h'.get? b = some { o with slots := sl } := by
  by_cases hf : b ∈ fs
  · exact W.slot b o hb hf e
  · exact ⟨o.slots, W.keep b o hb hf e⟩

theorem ObjOk.there {P : Program} {w : World} {H : Hp} {h : Heap} {a : Addr} {o : HO} (x : ObjOk P w H h a o) : ∃ ob, h.get? a = some ob := by
  cases o with
  | lst xs => obtain ⟨_, _, _, _, e⟩ := x; exact ⟨_, e⟩
  | tup xs => obtain ⟨_, _, _, ob, e, _⟩ := x; exact ⟨_, e⟩
  | dK kvs => obtain ⟨_, _, _, _, o, _, _, e, _⟩ := x; exact ⟨_, e⟩
  | dT kvs => obtain ⟨_, _, _, _, o, _, _, e, _⟩ := x; exact ⟨_, e⟩
  | set S n => obtain ⟨o, _, _, _, e, _⟩ := x; exact ⟨_, e⟩
  | ins C dx fs => obtain ⟨_, _, _, e, _⟩ := x; exact ⟨_, e⟩
  | own y => obtain ⟨_, e⟩ := x; exact ⟨_, e⟩
  | xd fs => obtain ⟨_, ⟨_, _, _, e, _⟩, _⟩ := x; exact ⟨_, e⟩
  | rng lo hi => obtain ⟨_, _, _, e⟩ := x; exact ⟨_, e⟩
  | frz ob u => obtain ⟨e, _⟩ := x; exact ⟨_, e⟩
  | tbl ps => exact ⟨_, (show h.get? a = some _ from x)⟩
  | met f y => exact ⟨_, (show h.get? a = some _ from x)⟩
  | ext φ => obtain ⟨_, ⟨_, e⟩, _⟩ := x; exact ⟨_, e⟩

section
variable {M : Model} {A : Around} {E : Value → Shared → Prop} {s : Shared} {base : Heap} {env top : Env} {outer : List Env} {L a : Addr} {C : Value} {T : Option Addr}

/-- a frame is noted in the exception: a new entry, or the one that is there already -/
theorem note_any {Q : Unit → Shared → Prop} (hfr : A.frames = some (top :: outer)) (ht : top.frame = some L) (hf : env.frame = some L) (hl : s.heap.FunFrames base (top :: outer)) (fl : Fl s.heap a C T)
    (h : ∀ h' T', Wr (a :: T.toList) (frs (top :: outer)) s.heap h' → Fl h' a C (some T') → (T = some T' ∨ s.heap.get? T' = none) → Q () { s with heap := h' }) :
    wpAny M A (noteFrame (.ref a) env) Q E s := by
  rw [noteFrame_congr (e1 := env) (e2 := top) (hf.trans ht.symm)]
  have fl0 := fl
  obtain ⟨oe, vs, a0, he, hc, hd, h0, hsz, hT⟩ := fl
  subst hc
  generalize hB : PySem.W.hideAll s.heap (a :: (T.toList ++ frs (top :: outer))) = B
  have hkb : B.StaysIn s.heap := fun b o e => by rw [← hB] at e; exact PySem.W.of_hideAll _ e
  have hen : B.get? a = none := by rw [← hB]; exact PySem.W.hideAll_none _ (List.mem_cons_self ..)
  have hl' : s.heap.FunFrames B (top :: outer) := by
    rw [← hB]
    refine PySem.W.funFrames_hide hl fun env' he' b hb => ?_
    exact List.mem_cons_of_mem _ (List.mem_append_right _ (List.mem_filterMap.mpr ⟨env', he', hb⟩))
  have nf : ∀ b, b ∈ frs (top :: outer) → ∀ o, s.heap.get? b = some o → ∀ vs, o.data ≠ .fields vs := fun b hb o e => by
    obtain ⟨_, o', ho', hnf⟩ := hl.mem hb
    rw [e] at ho'; cases ho'; exact hnf
  have unhid : ∀ b o, b ∉ a :: T.toList → b ∉ frs (top :: outer) → s.heap.get? b = some o → B.get? b = some o := fun b o hb hfb e => by
    rw [← hB]
    refine PySem.W.hideAll_get _ e fun z => ?_
    rcases List.mem_cons.mp z with z | z
    · exact hb (z ▸ List.mem_cons_self ..)
    · rcases List.mem_append.mp z with z | z
      · exact hb (List.mem_cons_of_mem _ z)
      · exact hfb z
  have fin : ∀ h', Heap.NotedW B (top :: outer) a oe.cls a0 (rawInt L) s.heap h' → Q () { s with heap := h' } := fun h' hN => by
    obtain ⟨n1, n2, ⟨oe', vs', T', oT', ts', g1, ⟨g2, g3⟩, g4, g5, g6, g7, g8, g9, g10⟩, n4⟩ := hN
    have slot : ∀ b o, b ∈ frs (top :: outer) → s.heap.get? b = some o → ∃ sl, h'.get? b = some { o with slots := sl } := fun b o hb e => n4 b o e (nf b hb o e)
    refine h h' T' ⟨fun b o hb hfb e => n1 b o (unhid b o hb hfb e), fun b o _ hb e => slot b o hb e⟩ ⟨oe', vs', a0, g1, g2, g4, g3, (Array.getElem?_eq_some_iff.mp g5).1, g5, g7, oT', ts', g8, g9, (Array.getElem?_eq_some_iff.mp g10).1⟩ ?_
    by_cases q1 : T' ∈ a :: T.toList
    · rcases List.mem_cons.mp q1 with z | z
      · exact absurd z g7
      · left
        cases T with
        | none => simp at z
        | some t => have z' : T' = t := by simpa using z
                    rw [z']
    · right
      cases e : s.heap.get? T' with
      | none => rfl
      | some o =>
        exfalso
        by_cases q2 : T' ∈ frs (top :: outer)
        · obtain ⟨sl, q⟩ := slot T' o q2 e
          rw [g8] at q
          have q' : oT' = { o with slots := sl } := Option.some.inj q
          rw [q'] at g9
          exact nf T' q2 o e _ g9
        · have := unhid T' o q1 q2 e
          rw [g6] at this; cases this
  cases T with
  | none =>
    unfold noteFrame
    simp only [ht]
    refine wpAny_bind (wpAny_field he hd hT ?_)
    rw [if_neg (by decide)]
    exact wpAny_entryW hfr hl' ht he hkb hen hd hsz h0 fin
  | some t =>
    obtain ⟨h1, hta, oT, ts, hoT, hdT, hs3⟩ := hT
    obtain ⟨fl3, h3⟩ : ∃ v, ts[3]? = some v := ⟨ts[3], by simp [hs3]⟩
    have hnT : B.get? t = none := by rw [← hB]; exact PySem.W.hideAll_none _ (by simp)
    unfold noteFrame
    simp only [ht]
    refine wpAny_bind (wpAny_field he hd h1 ?_)
    rw [if_pos (show (Value.ref t != Value.none) = true from by simp)]
    refine wpAny_bind (wpAny_field hoT hdT h3 ?_)
    by_cases hfl : (fl3 == rawInt L) = true
    · rw [if_pos hfl]
      exact wpAny_pure (h s.heap t ⟨fun b o _ _ e => e, fun b o _ _ e => ⟨o.slots, e⟩⟩ fl0 (.inl rfl))
    · rw [if_neg hfl]
      refine wpAny_bind (wpAny_setField hoT hdT hs3 ?_)
      have other : ∀ b, b ≠ t → (s.heap.update t (Obj.mapFields (·.setIfInBounds 3 Value.none))).get? b = s.heap.get? b := fun b hb => Heap.get?_update_other _ _ (Ne.symm hb)
      have noRecord : ∀ b o, s.heap.get? b = some o → (∀ vs, o.data ≠ .fields vs) → b ≠ t := fun b o hb hnf q => by
        rw [q, hoT] at hb; injection hb with hb; subst hb; exact hnf ts hdT
      refine wpAny_entryW hfr (hl'.of_keeps fun b o hb hnf => ⟨o, (other b (noRecord b o hb hnf)).trans hb, rfl⟩) ht ((other a (Ne.symm hta)).trans he)
        (fun b o hbo => (other b fun q => by rw [q, hnT] at hbo; cases hbo).trans (hkb b o hbo)) hen hd hsz h0 ?_
      rintro h' ⟨x1, x2, x3, x4⟩
      exact fin h' ⟨x1, x2, x3, fun b o hb hnf => x4 b o ((other b (noRecord b o hb hnf)).trans hb) hnf⟩

/-- the entry's flight is set -/
theorem flight_any {t : Addr} {f : Option Addr} {Q : Unit → Shared → Prop} (fl : Fl s.heap a C (some t))
    (h : ∀ h', Heap.SameBut t s.heap h' → Fl h' a C (some t) → Q () { s with heap := h' }) : wpAny M A (setFlight (.ref a) f) Q E s := by
  obtain ⟨oe, vs, a0, he, hc, hd, h0, hsz, h1, hta, oT, ts, hoT, hdT, hs3⟩ := fl
  unfold setFlight
  refine wpAny_bind (wpAny_field he hd h1 ?_)
  rw [if_pos (show (Value.ref t != Value.none) = true from by simp)]
  refine wpAny_setField hoT hdT hs3 (h _ (Heap.SameBut.update ..) ?_)
  have hdT' := Obj.data_mapFields hdT (·.setIfInBounds 3 (f.elim Value.none fun f => rawInt f))
  refine ⟨oe, vs, a0, (Heap.get?_update_other _ _ hta).trans he, hc, hd, h0, hsz, h1, hta, _, _, Heap.get?_update_self _ hoT (Obj.isFreed_of_fields hdT'), hdT', ?_⟩
  simpa using hs3
/-- it has an entry -/
theorem traced_any {t : Addr} {Q : Value → Shared → Prop} (fl : Fl s.heap a C (some t)) (h : Q (.ref t) s) : wpAny M A (field (.ref a) 1) Q E s := by
  obtain ⟨oe, vs, a0, he, hc, hd, h0, hsz, h1, _⟩ := fl
  exact wpAny_field he hd h1 h
end
theorem Fl.at {h h' : Heap} {a : Addr} {C : Value} {T : Option Addr} (fl : Fl h a C T) (k : ∀ b ∈ a :: T.toList, ∀ o, h.get? b = some o → h'.get? b = some o) : Fl h' a C T := by
  obtain ⟨oe, vs, a0, he, hc, hd, h0, hsz, hT⟩ := fl
  refine ⟨oe, vs, a0, k a (by simp) _ he, hc, hd, h0, hsz, ?_⟩
  cases T with
  | none => exact hT
  | some t =>
    obtain ⟨h1, hta, oT, ts, hoT, r⟩ := hT
    exact ⟨h1, hta, oT, ts, k t (by simp) _ hoT, r⟩
theorem Fl.rec {h : Heap} {a : Addr} {C : Value} {T : Option Addr} (fl : Fl h a C T) : ∀ b ∈ a :: T.toList, ∃ o vs, h.get? b = some o ∧ o.data = .fields vs := by
  obtain ⟨oe, vs, a0, he, hc, hd, h0, hsz, hT⟩ := fl
  intro b hb
  rcases List.mem_cons.mp hb with rfl | hb
  · exact ⟨oe, vs, he, hd⟩
  · cases T with
    | none => simp at hb
    | some t =>
      have e : b = t := by simpa using hb
      subst e
      obtain ⟨h1, hta, oT, ts, hoT, hdT, _⟩ := hT
      exact ⟨oT, ts, hoT, hdT⟩

/-- a record of our own: untracked, younger than the entry, no iterator that is walked, not pinned -/
def Ow (X : Cx) (pins : List (Addr × Obj)) (H : Hp) (b : Addr) : Prop := H b = none ∧ X.s₀.heap.get? b = none ∧ b ∉ X.ex ∧ ∀ p ∈ X.pn ++ pins, p.1 ≠ b
/-- what a context must have for exceptions: the frame at hand is the stack's top; the iterators walked are pinned -/
structure XOk (X : Cx) : Prop where
  top : ∃ top outer L, X.stack = top :: outer ∧ top.frame = some L ∧ X.env.frame = some L
  ex : ∀ b ∈ X.ex, ∃ o, (b, o) ∈ X.pn
structure Fly (X : Cx) (pins : List (Addr × Obj)) (H : Hp) (h : Heap) (a : Addr) (C : Value) (T : Option Addr) : Prop where
  fl : Fl h a C T
  ow : ∀ b ∈ a :: T.toList, Ow X pins H b

section
variable {X : Cx} {pins : List (Addr × Obj)} {σ : List (Option V)} {H H' : Hp} {s : Shared} {h' : Heap}
/-- what was not there is a record of our own -/
theorem Inv.ow (ok : XOk X) (I : Inv X pins σ H s) (hH : H' = H ∨ True) {b : Addr} (n : s.heap.get? b = none) (hn : H' b = none) : Ow X pins H' b := by
  have nx : b ∉ X.ex := fun z => by
    obtain ⟨o, ho⟩ := ok.ex b z
    have := (I.pin (b, o) (List.mem_append_left _ ho)).1
    rw [n] at this; cases this
  refine ⟨hn, ?_, nx, fun p hp e => ?_⟩
  · cases q : X.s₀.heap.get? b with
    | none => rfl
    | some o =>
      obtain ⟨o', e⟩ := I.base.there b o q nx
      rw [n] at e; cases e
  · have := (I.pin p hp).1
    rw [e, n] at this; cases this
theorem Inv.untracked (I : Inv X pins σ H s) {b : Addr} (n : s.heap.get? b = none) : H b = none := by
  cases q : H b with
  | none => rfl
  | some o =>
    obtain ⟨ob, e⟩ := (I.hok b o q).there
    rw [n] at e; cases e

/-- records of our own were written, frames' slots changed -/
theorem Inv.wrote {l : List Addr} (I : Inv X pins σ H s) (W : Wr l (frs X.stack) s.heap h') (ow : ∀ b ∈ l, Ow X pins H b) (rec : ∀ b ∈ l, ∃ o vs, s.heap.get? b = some o ∧ o.data = .fields vs) :
    Inv X pins σ H { s with heap := h' } := by
  have lL : X.env.locals ∉ l := fun z => by
    obtain ⟨o, vs, e, d⟩ := rec _ z
    obtain ⟨m, ⟨o', es, ep, ho', hd', _⟩, _⟩ := I.loc
    rw [e] at ho'; cases ho'; rw [d] at hd'; cases hd'
  have cL : ∀ x c, X.env.cells.lookup x = some c → c ∉ l := fun x c e z => by
    obtain ⟨o, vs, e1, d⟩ := rec _ z
    obtain ⟨v, o', ho', hd'⟩ := I.cell x c e
    rw [e1] at ho'; cases ho'; rw [d] at hd'; cases hd'
  have sL : ∀ b o, X.s₀.heap.get? b = some o → b ∉ l := fun b o e z => by rw [(ow b z).2.1] at e; cases e
  have tL : ∀ b o, H b = some o → b ∉ l := fun b o e z => by rw [(ow b z).1] at e; cases e
  have nL : ∀ m, s.heap.Ns X.env.locals m → h'.Ns X.env.locals m := fun m hm => by
    obtain ⟨o, es, ep, ho, hd, r⟩ := hm
    obtain ⟨sl, q⟩ := W.any lL ho
    exact ⟨_, es, ep, q, hd, r⟩
  have cell : ∀ x c, X.env.cells.lookup x = some c → ∀ v, s.heap.IsCell c v → h'.IsCell c v := fun x c e v ⟨o, ho, hd⟩ => by
    obtain ⟨sl, q⟩ := W.any (cL x c e) ho
    exact ⟨_, q, hd⟩
  have fs0 : ∀ b, b ≠ X.env.locals → b ∉ X.fs → b ∉ frs X.stack := fun b h1 h2 z => (List.mem_cons.mp (I.stkSub b z)).elim h1 h2
  have old : ∀ b o, X.s₀.heap.get? b = some o → b ≠ X.env.locals := fun b o e => Nat.ne_of_lt (Nat.lt_of_lt_of_le (Heap.lt_size e) I.ok.above)
  refine ⟨I.ok, I.os, I.bare, ⟨fun b o e n hb hx => ?_, fun b o e n hb hx => ?_, I.base.free, fun b o e hx => ?_, I.base.tups, I.base.frzs, I.base.tbls⟩, ?_, fun x c e => ?_, I.free, I.freeC, fun p hp => ?_, fun b u e => ?_, I.len⟩
  · exact W.keep b o (sL b o e) (fs0 b (old b o e) hb) (I.base.keep b o e n hb hx)
  · obtain ⟨sl, e1⟩ := I.base.slot b o e n hb hx
    obtain ⟨sl', e2⟩ := W.any (sL b o e) e1
    exact ⟨sl', e2⟩
  · obtain ⟨o', e1⟩ := I.base.there b o e hx
    obtain ⟨sl, e2⟩ := W.any (sL b o e) e1
    exact ⟨_, e2⟩
  · obtain ⟨m, hn, hl⟩ := I.loc
    refine ⟨m, nL m hn, fun i x v e1 e2 e3 => ?_⟩
    obtain ⟨u, r, q⟩ := hl i x v e1 e2 e3
    refine ⟨u, r, ?_⟩
    rcases q with q | ⟨k, c, e, z⟩
    · exact .inl q
    · exact .inr ⟨k, c, e, cell x c e _ z⟩
  · obtain ⟨v, z⟩ := I.cell x c e
    exact ⟨v, cell x c e v z⟩
  · obtain ⟨e, n, ne, nf, d⟩ := I.pin p hp
    exact ⟨W.keep p.1 p.2 (fun z => (ow p.1 z).2.2.2 p hp rfl) (fs0 p.1 ne nf) e, n, ne, nf, d⟩
  · refine (I.hok b u e).stay (fun c v hc q => ?_) (fun _ q => q) fun _ _ q => q
    have hc' : ∃ u, H c = some u := hc.elim (fun z => ⟨u, z ▸ e⟩) fun z => ⟨_, z⟩
    obtain ⟨u', e'⟩ := hc'
    exact W.keep c v (tL c u' e') (fun z => by rw [I.stkFree c z] at e'; cases e') q

variable {M : Model} {A : Around} {E : Value → Shared → Prop} {a : Addr} {C : Value} {T : Option Addr} {env : Env}
theorem Inv.note {Q : Unit → Shared → Prop} (ok : XOk X) (I : Inv X pins σ H s) (F : Fly X pins H s.heap a C T) (hfr : A.frames = some X.stack) (hen : env.frame = X.env.frame)
    (h : ∀ h' T', Inv X pins σ H { s with heap := h' } → Fly X pins H h' a C (some T') → Q () { s with heap := h' }) : wpAny M A (noteFrame (.ref a) env) Q E s := by
  obtain ⟨top, outer, L, e1, e2, e3⟩ := ok.top
  have hst := I.stack
  rw [e1] at hfr hst
  refine note_any hfr e2 (hen.trans e3) hst F.fl fun h' T' W fl' new => ?_
  rw [← e1] at W
  refine h h' T' (I.wrote W F.ow F.fl.rec) ⟨fl', fun b hb => ?_⟩
  rcases List.mem_cons.mp hb with rfl | hb
  · exact F.ow _ (List.mem_cons_self ..)
  · have e : b = T' := by simpa using hb
    subst e
    rcases new with q | q
    · exact F.ow _ (by rw [q]; simp)
    · exact I.ow ok (.inr trivial) q (I.untracked q)
theorem Inv.flight {t : Addr} {f : Option Addr} {Q : Unit → Shared → Prop} (I : Inv X pins σ H s) (F : Fly X pins H s.heap a C (some t))
    (h : ∀ h', Inv X pins σ H { s with heap := h' } → Fly X pins H h' a C (some t) → Q () { s with heap := h' }) : wpAny M A (setFlight (.ref a) f) Q E s := by
  refine flight_any F.fl fun h' sb fl' => h h' (I.wrote (l := [a, t]) ⟨fun b o hb _ e => (sb.2 b fun z => hb (by simp [z])).trans e, fun b o hb _ e => ⟨o.slots, (sb.2 b fun z => hb (by simp [z])).trans e⟩⟩ (fun b hb => F.ow b (by simpa using hb)) fun b hb => F.fl.rec b (by simpa using hb)) ⟨fl', F.ow⟩
/-- passOn: an exception with an entry goes on -/
theorem Inv.passOn {α : Type} {t : Addr} {what : String} {Q : α → Shared → Prop} (I : Inv X pins σ H s) (F : Fly X pins H s.heap a C (some t))
    (h : ∀ h', Inv X pins σ H { s with heap := h' } → Fly X pins H h' a C (some t) → E (.ref a) { s with heap := h' }) : wpAny M A (passOn what (.ref a) env : Sem α) Q E s := by
  unfold PySem.passOn
  refine wpAny_bind (traced_any F.fl ?_)
  rw [if_neg (show ¬ ((Value.ref t == Value.none) = true) from by simp)]
  exact wpAny_bind (I.flight F fun h' I' F' => wpAny_throw (h h' I' F'))
/-- cameBackBy: likewise -/
theorem Inv.cameBack {t : Addr} (I : Inv X pins σ H s) (F : Fly X pins H s.heap a C (some t))
    (h : ∀ h', Inv X pins σ H { s with heap := h' } → Fly X pins H h' a C (some t) → E (.ref a) { s with heap := h' }) : cameBackBy M A env E (.ref a) s := by
  unfold cameBackBy
  refine wpAny_bind (traced_any F.fl ?_)
  rw [if_neg (show ¬ ((Value.ref t == Value.none) = true) from by simp)]
  exact I.flight F fun h' I' F' => h h' I' F'
end

/-! ## what is wanted of an exception, and the contexts that carry it on -/
/-- by the names' values, the class, the heap -/
abbrev ZK := St → Value → Hp → Prop
def XE (X : Cx) (Z : ZK) (e : Value) (s' : Shared) : Prop := ∃ a C T σ' H', e = .ref a ∧ Inv X [] σ' H' s' ∧ Fly X [] H' s'.heap a C T ∧ Z σ' C H'
structure Thr (X : Cx) (Z : ZK) : Prop extends XOk X where
  thr : ∀ e s', XE X Z e s' → X.xe e s'
/-- how an exception lies behind a call -/
def CXs (P : Program) (w : World) : CXT := fun outer H s E e s' => ∃ a C t H', e = .ref a ∧ s'.os = s.os ∧ AllBare s'.gens ∧ Un (frs outer) [] H H' s.heap s'.heap ∧ HOk P w H' s'.heap ∧
  Fl s'.heap a C (some t) ∧ (∀ b ∈ [a, t], H' b = none ∧ s.heap.get? b = none) ∧ E C none H'

/-- a def's body: the exception leaves the frame -/
theorem thr_def {P : Program} {w : World} {K : PySem.W.Frag} {mg : Str → Option Value} {base : Heap} {N : List Str} {qual : Str} {scope : Scope} {f : Addr} {cd : Value} {A : Around} {outer : List Env} {s : Shared} {H : Hp} {E : XK} :
    Thr (cxOf (CXs P w) P w K mg base N qual scope f cd A outer s H E) (fun _ C H' => E C none H') where
  top := ⟨_, _, _, rfl, rfl, rfl⟩
  ex := fun b hb => absurd (show b ∈ ([] : List Addr) from hb) (by simp)
  thr := by
    rintro e s' ⟨a, C, T, σ', H', rfl, I, F, z⟩
    have ok : XOk (cxOf (CXs P w) P w K mg base N qual scope f cd A outer s H E) := ⟨⟨_, _, _, rfl, rfl, rfl⟩, fun b hb => absurd (show b ∈ ([] : List Addr) from hb) (by simp)⟩
    show wpAny (model P w) (A.deeper (envOfC qual scope s.heap.objs.size f cd)) (leaving (envOfC qual scope s.heap.objs.size f cd) (.ref a)) _ _ s'
    unfold leaving
    refine wpAny_bind (I.note ok F I.ok.frames rfl fun h1 t I1 F1 => ?_)
    refine I1.flight F1 fun h2 I2 F2 => ?_
    exact ⟨a, C, t, H', rfl, I2.os, I2.bare, I2.base, I2.hok, F2.fl, fun b hb => ⟨(F2.ow b (by simpa using hb)).1, (F2.ow b (by simpa using hb)).2.1⟩, z⟩

section
variable {X : Cx} {pins : List (Addr × Obj)} {σ : St} {H : Hp} {s s' : Shared}
/-- a callee's exception in the caller's context -/
theorem Inv.thrown {E : XK} {e : Value} (ok : XOk X) (I : Inv X pins σ H s) (h : CXs X.prog X.w X.stack H s E e s') : ∃ a C t H', e = .ref a ∧ Inv X pins σ H' s' ∧ Fly X pins H' s'.heap a C (some t) ∧ E C none H' := by
  obtain ⟨a, C, t, H', rfl, ho, hg, u, hok, fl, ow, q⟩ := h
  have I' : Inv X pins σ H' s' := I.call' (ch := []) ho u hok hg fun b hb => absurd hb (by simp)
  refine ⟨a, C, t, H', rfl, I', ⟨fl, fun b hb => ?_⟩, q⟩
  obtain ⟨o1, o2⟩ := ow b (by simpa using hb)
  exact I.ow ok (.inr trivial) o2 o1
theorem Inv.nopins (I : Inv X pins σ H s) : Inv X [] σ H s := I.pins_of fun p hp => absurd hp (by simp)
theorem Fly.nopins {h : Heap} {a : Addr} {C : Value} {T : Option Addr} (F : Fly X pins H h a C T) : Fly X [] H h a C T :=
  ⟨F.fl, fun b hb => ⟨(F.ow b hb).1, (F.ow b hb).2.1, (F.ow b hb).2.2.1, fun p hp => (F.ow b hb).2.2.2 p (by simp at hp; exact List.mem_append_left _ hp)⟩⟩
theorem Thr.go {Z : ZK} (th : Thr X Z) {a : Addr} {C : Value} {T : Option Addr} (I : Inv X pins σ H s) (F : Fly X pins H s.heap a C T) (z : Z σ C H) : X.xe (.ref a) s :=
  th.thr _ _ ⟨a, C, T, σ, H, rfl, I.nopins, F.nopins, z⟩
end

/-! ## calls of defs that may raise -/
/-- f(..): what is wanted of an exception may hang on the names' values -/
def tCallX (sp : Sp) (dvs : List V) (Z : ZK) (t : TA) : TE := fun σ H Q => t σ H fun vs H1 => sp (vs ++ dvs) H1 Q (fun C _ H' => Z σ C H')
section
variable {X : Cx} {k : Nat} {f C : Addr} {fd : FuncData} {ps : List Str} {sp : Sp} {dvs : List V} {ds : List Value} {Z : ZK} {x m : Str} {p pos apos : Pos} {e o : Expr} {es : List Expr} {ta : TE} {t : TA}
theorem run_fnX {pins : List (Addr × Obj)} {σ : St} {H : Hp} {s : Shared} {Q : VK} {us : List Value} {vs : List V} (F : FnOk X.prog X.w X.K X.mg X.base (CXs X.prog X.w) k f fd ps sp) (hr : Room k X.A) (hb : Binds X.K fd ps ds) (hd : Vals dvs ds) (th : Thr X Z)
    (I : Inv X pins σ H s) (r : Vals vs us) (h : sp (vs ++ dvs) H Q (fun C _ H' => Z σ C H')) : wpAny (model X.prog X.w) X.A (call (.ref f) us) (EP X pins σ Q) X.xe s := by
  have r2 : Vals (vs ++ dvs) (us ++ ds) := r.append hd
  have hl : (us ++ ds).length = ps.length := by rw [← r2.length]; exact F.len _ _ _ _ h
  refine wpAny_call (codeAny_mono (F.run X.A X.stack s H ⟨us, []⟩ (us ++ ds) (vs ++ dvs) Q _ hr I.env0 (hb s us I.kIn hl) r2 h) fun r s' hq => ?_)
  cases r with
  | error e =>
    have hq' : CXs X.prog X.w X.stack H s (fun C _ H' => Z σ C H') e s' := hq
    obtain ⟨a, C, t, H', rfl, I', F', z⟩ := I.thrown th.toXOk hq'
    exact th.go I' F' z
  | ok fl =>
    cases fl with
    | ret u => exact I.after hq
    | next => exact False.elim hq
    | brk => exact False.elim hq
    | cont => exact False.elim hq
theorem pe_callX (F : FnOk X.prog X.w X.K X.mg X.base (CXs X.prog X.w) k f fd ps sp) (hr : Room k X.A) (hg : Gl X x) (hm : X.mg x = some (.ref f)) (hk : PySem.W.keepIn X.K (.ref f) = true) (hb : Binds X.K fd ps ds) (hd : Vals dvs ds) (th : Thr X Z)
    (ha : PA X (e :: es) t) (hdb : (x == ("__debug__" : Str)) = false := by decide) (he : starEach (e :: es) X.env = (false, eval e X.env) :: starEach es X.env := by rfl) (hpl : (backTo pos (starEach es X.env)).any (·.1) = false := by rfl) :
    PE X (.Call (.Name x p) (e :: es) [] pos) (tCallX sp dvs Z t) := by
  intro pins s σ H Q I h
  refine wpAny_Call_Name_kw (ld_glob I hg hm ?_ hdb)
  refine PySem.W.callWith_K (h₀ := X.base) I.ok.mod.kin hk (thn (ha pos pins s σ H _ I h) fun us s1 ⟨vs, H1, I1, r, q⟩ => ⟨I1.kIn, ?_⟩) he hpl
  exact run_fnX F hr hb hd th I1 r q
end
end L2

set_option Elab.async false
set_option linter.all false
set_option maxRecDepth 100000
/-! List comprehensions over the hand layer: a block with its own names, captured names by their cells. -/
namespace L2
open PySem PySem.Spec PyProof.Rows

/-! ### the closure -/
def clGo (env : Env) : List (Str × NameKind) → List (Str × Addr) → List (Str × Addr)
  | [], cs => cs
  | (n, k) :: r, cs => clGo env r (if k == .free then (n, (env.cells.lookup n).getD 0) :: cs else cs)
def clOf (scope : Scope) (env : Env) : List (Str × Addr) := clGo env scope.names []
theorem closure_of {scope : Scope} {env : Env} (h : ∀ y ∈ scope.names, y.2 = .free → ∃ c, env.cells.lookup y.1 = some c) : closureFor scope env = pure (clOf scope env) := by
  unfold closureFor clOf
  have go : ∀ (l : List (Str × NameKind)) (cs : List (Str × Addr)), (∀ y ∈ l, y.2 = .free → ∃ c, env.cells.lookup y.1 = some c) →
      (forIn l cs fun (x : Str × NameKind) (r : List (Str × Addr)) => (match x with
        | (name, kind) => if (kind == NameKind.free) = true then (do let a ← cellOf env name; pure (ForInStep.yield ((name, a) :: r))) else (pure (ForInStep.yield r)) : Sem (ForInStep (List (Str × Addr))))) = (pure (clGo env l cs) : Sem (List (Str × Addr))) := by
    intro l
    induction l with
    | nil => intro cs _; rfl
    | cons y r ih =>
      intro cs hl
      obtain ⟨n, k⟩ := y
      rw [List.forIn_cons]
      by_cases hk : (k == NameKind.free) = true
      · obtain ⟨c, hc⟩ := hl (n, k) (List.mem_cons_self ..) (by simpa using hk)
        have e : cellOf env n = pure c := by unfold cellOf; rw [hc]
        simp only [hk, if_true, e, pure_bind, clGo, hc, Option.getD_some]
        exact ih _ fun y hy => hl y (List.mem_cons_of_mem _ hy)
      · simp only [hk, if_false, pure_bind, clGo, Bool.false_eq_true]
        exact ih _ fun y hy => hl y (List.mem_cons_of_mem _ hy)
  have := go scope.names [] h
  first
    | (rw [this]; rfl)
    | (simp only [bind_pure_comp] at this ⊢; rw [this]; rfl)
    | (simp only [bind_pure_comp] at this ⊢; rw [this]; simp)
theorem clGo_mem {env : Env} : ∀ {l : List (Str × NameKind)} {cs : List (Str × Addr)} {x : Str} {c : Addr}, (∀ y ∈ l, y.2 = .free → ∃ c, env.cells.lookup y.1 = some c) → (x, c) ∈ clGo env l cs → (x, c) ∈ cs ∨ env.cells.lookup x = some c
  | [], _, _, _, _, h => .inl h
  | (n, k) :: r, cs, x, c, hl, h => by
    rcases clGo_mem (l := r) (fun y hy => hl y (List.mem_cons_of_mem _ hy)) h with h | h
    · by_cases hk : (k == NameKind.free) = true
      · rw [if_pos hk] at h
        rcases List.mem_cons.mp h with e | h
        · obtain ⟨c', hc⟩ := hl (n, k) (List.mem_cons_self ..) (by simpa using hk)
          rw [hc] at e
          cases e
          exact .inr hc
        · exact .inl h
      · rw [if_neg hk] at h
        exact .inl h
    · exact .inr h
theorem clGo_keep {env : Env} : ∀ {l : List (Str × NameKind)} {cs : List (Str × Addr)} {p : Str × Addr}, p ∈ cs → p ∈ clGo env l cs
  | [], _, _, h => h
  | (n, k) :: r, cs, p, h => by
    unfold clGo
    refine clGo_keep ?_
    split
    · exact List.mem_cons_of_mem _ h
    · exact h
theorem clGo_has {env : Env} : ∀ {l : List (Str × NameKind)} {cs : List (Str × Addr)} {x : Str}, (x, NameKind.free) ∈ l → ∃ c, (x, c) ∈ clGo env l cs
  | (n, k) :: r, cs, x, h => by
    unfold clGo
    rcases List.mem_cons.mp h with e | h
    · cases e
      exact ⟨(env.cells.lookup n).getD 0, clGo_keep (by rw [if_pos (by decide)]; exact List.mem_cons_self ..)⟩
    · exact clGo_has h
theorem lookup_some_of_mem {α β : Type} [BEq α] [LawfulBEq α] : ∀ {l : List (α × β)} {x : α} {c : β}, (x, c) ∈ l → ∃ c', l.lookup x = some c'
  | (n, k) :: r, x, c, h => by
    rw [List.lookup_cons]
    cases e : x == n with
    | true => exact ⟨k, rfl⟩
    | false =>
      rcases List.mem_cons.mp h with q | q
      · cases q; simp at e
      · exact lookup_some_of_mem q

/-! ### the block's context -/
abbrev compCx (X : Cx) (NC : List Str) (scope : Scope) (C : Addr) (s : Shared) (H : Hp) (ex : List Addr) (pn : List (Addr × Obj)) (xe : Value → Shared → Prop) : Cx :=
  { X with N := NC, s₀ := s, H₀ := H, env := compEnvC scope (clOf scope X.env) C X.env, outer := X.stack, stack := X.stack, ex := ex, fn := fun _ => false, calm := true, pn := pn, xe := xe }

/-- what of the two scopes is asked: captured names are cells outside; names that are not captured are the block's own -/
def compOk (osc scope : Scope) (N NC : List Str) (cap : List (Option Nat)) : Bool :=
  scope.kind == .function && scope.names.all (fun y => y.2 != .cell) &&
  scope.names.all (fun y => y.2 != .local || scope.names.lookup y.1 == some .local) &&
  scope.names.all (fun y => y.2 != .free || osc.names.lookup y.1 == some .cell) && cap.length == NC.length &&
  (List.range NC.length).all fun j => match cap[j]?, NC[j]? with
    | some (some i), some x => N[i]? == some x && scope.names.lookup x == some .free
    | some none, some x => scope.names.lookup x == some .local
    | _, _ => false
/-- the block's names at a turn's start -/
def capσ (cap : List (Option Nat)) (σ : St) : St := cap.map fun o => o.bind fun i => (σ[i]?).bind id

theorem kindOf_rel {scope : Scope} {env : Env} {x : Str} (hk : env.scope.kind = .function) : ∀ {names : List (Str × NameKind)}, (∀ y ∈ names, y.2 = .free → env.kindOf y.1 = some .cell) →
    (names.map fun (n, k) => if (k == NameKind.free && env.scope.kind == .function && env.kindOf n == some .cell) then (n, NameKind.cell) else (n, k)).lookup x = (names.lookup x).map fun k => if k = .free then .cell else k
  | [], _ => rfl
  | (n, k) :: r, h => by
    have ih := kindOf_rel (scope := scope) (x := x) hk (names := r) fun y hy => h y (List.mem_cons_of_mem _ hy)
    show List.lookup x ((if (k == NameKind.free && env.scope.kind == .function && env.kindOf n == some .cell) = true then (n, NameKind.cell) else (n, k)) :: _) = _
    by_cases hkf : k = .free
    · subst hkf
      rw [if_pos (by rw [hk, h (n, .free) (List.mem_cons_self ..) rfl]; decide)]
      rw [List.lookup_cons, List.lookup_cons]
      cases e : x == n with
      | true => rfl
      | false => exact ih
    · rw [if_neg (by intro z; simp only [Bool.and_eq_true, beq_iff_eq] at z; exact hkf z.1.1)]
      rw [List.lookup_cons, List.lookup_cons]
      cases e : x == n with
      | true => simp [hkf]
      | false => exact ih

/-! ### the state in the block, and behind it -/
section
variable {X : Cx} {pins : List (Addr × Obj)} {σ : St} {H H' : Hp} {s s' : Shared}
theorem Inv.repn {pn pins' : List (Addr × Obj)} {xe : Value → Shared → Prop} (I : Inv X pins σ H s) (h : ∀ p ∈ pn ++ pins', p ∈ X.pn ++ pins) : Inv { X with pn := pn, xe := xe } pins' σ H s :=
  ⟨⟨I.ok.mod, I.ok.kind, I.ok.glob, I.ok.blt, I.ok.above, I.ok.inj, I.ok.has, I.ok.cab, I.ok.hd, I.ok.frames, I.ok.stk, I.ok.exf, I.ok.bs, I.ok.bsz, I.ok.noex, I.ok.exfs, I.ok.funs, I.ok.frf⟩,
    I.os, I.bare, I.base, I.loc, I.cell, I.free, I.freeC, fun p hp => I.pin p (h p hp), I.hok, I.len⟩
/-- an untracked object of our own is tracked from now on -/
theorem Inv.track {D : Addr} {o : HO} (I : Inv X pins σ H s) (hD : H D = none) (h0 : X.s₀.heap.get? D = none) (hL : D ≠ X.env.locals) (hC : ∀ x c, X.env.cells.lookup x = some c → c ≠ D) (hp : ∀ p ∈ X.pn ++ pins, p.1 ≠ D)
    (new : ObjOk X.prog X.w (upd H D o) s.heap D o) : Inv X pins σ (upd H D o) s := by
  have up : ∀ b u, H b = some u → upd H D o b = some u := fun b u e => by rw [upd_ne (ne_of_none e hD)]; exact e
  refine ⟨I.ok, I.os, I.bare, ⟨I.base.keep, I.base.slot, fun b u e n hx => ?_, I.base.there, fun b xs e => up _ _ (I.base.tups b xs e), fun b u xs e => up _ _ (I.base.frzs b u xs e), fun b ps e => ?_⟩, I.loc, I.cell, ?_, fun x c e => ?_, fun p hq => ?_, fun b u e => ?_, I.len⟩
  · rw [upd_ne (fun z => by rw [z, h0] at e; cases e)]
    exact I.base.free b u e n hx
  · obtain ⟨more, q⟩ := I.base.tbls b ps e
    exact ⟨more, up _ _ q⟩
  · rw [upd_ne (Ne.symm hL)]; exact I.free
  · rw [upd_ne (hC x c e)]; exact I.freeC x c e
  · obtain ⟨e, n, r⟩ := I.pin p hq
    exact ⟨e, by rw [upd_ne (hp p hq)]; exact n, r⟩
  · by_cases hb : b = D
    · subst hb
      rw [upd_same] at e
      cases e
      exact new
    · rw [upd_ne hb] at e
      exact (I.hok b u e).stay (fun _ _ _ q => q) (fun c q => up _ _ q) fun c xs q => up _ _ q
end

/-- the tests of a clause -/
def PF (X : Cx) (ifs : List Expr) (t : TT) : Prop :=
  ∀ (pins : List (Addr × Obj)) (s : Shared) (σ : St) (H : Hp) (Q : Bool → Hp → Prop), Inv X pins σ H s → t σ H Q →
    wpAny (model X.prog X.w) X.A (forIn ifs true fun c r => if r = true then do let ok ← isTrue c X.env (eval c X.env); pure (ForInStep.yield ok) else pure (ForInStep.yield r)) (TP X pins σ Q) X.xe s
def tNoTest : TT := fun _ H Q => Q true H
theorem pf_nil {X : Cx} : PF X [] tNoTest := fun pins s σ H Q I h => wpAny_tests_nil ⟨H, I, h⟩
theorem pf_one {X : Cx} {c : Expr} {t : TT} (h : PT X c t) : PF X [c] t := fun pins s σ H Q I q => wpAny_tests_one (h pins s σ H Q I q)

theorem compOk_parts {osc scope : Scope} {N NC : List Str} {cap : List (Option Nat)} (h : compOk osc scope N NC cap = true) :
    scope.kind = .function ∧ (∀ y ∈ scope.names, y.2 ≠ .cell) ∧ (∀ y ∈ scope.names, y.2 = .local → scope.names.lookup y.1 = some .local) ∧ (∀ y ∈ scope.names, y.2 = .free → osc.names.lookup y.1 = some .cell) ∧ cap.length = NC.length ∧
    (∀ (j i : Nat), cap[j]? = some (some i) → ∃ x, NC[j]? = some x ∧ N[i]? = some x ∧ scope.names.lookup x = some .free) ∧ ∀ (j : Nat) (x : Str), cap[j]? = some none → NC[j]? = some x → scope.names.lookup x = some .local := by
  unfold compOk at h
  simp only [Bool.and_eq_true, List.all_eq_true, bne_iff_ne, ne_eq, Bool.or_eq_true, beq_iff_eq, List.mem_range] at h
  obtain ⟨⟨⟨⟨⟨h1, h2⟩, h3⟩, h4⟩, h5⟩, h6⟩ := h
  refine ⟨h1, fun y hy => h2 y hy, fun y hy e => (h3 y hy).resolve_left fun z => z e, fun y hy e => (h4 y hy).resolve_left fun z => z e, h5, fun j i e => ?_, fun j x e ex => ?_⟩
  · have hj : j < NC.length := by rw [← h5]; exact (List.getElem?_eq_some_iff.mp e).1
    have q := h6 j hj
    rw [e] at q
    cases ex : NC[j]? with
    | none => rw [ex] at q; simp at q
    | some x =>
      rw [ex] at q
      simp only [Bool.and_eq_true, beq_iff_eq] at q
      exact ⟨x, rfl, q.1, q.2⟩
  · have hj : j < NC.length := (List.getElem?_eq_some_iff.mp ex).1
    have q := h6 j hj
    rw [e, ex] at q
    simpa using q

section
variable {X : Cx} {pins : List (Addr × Obj)} {σ : St} {H₂ : Hp} {s₂ : Shared} {scope : Scope} {NC : List Str} {cap : List (Option Nat)} {fp : List Addr}
/-- the block's state at its start -/
theorem comp_start {C D : Addr} {h₁ : Heap} {tk : Nat} {o : Obj} {xe : Value → Shared → Prop} (I : Inv X pins σ H₂ s₂) (hc : X.calm = true) (cok : compOk X.env.scope scope X.N NC cap = true) (f2 : ∀ b ∈ fp, FpOk X pins H₂ b) (hfp : ∀ b ∈ fp, ∃ o, s₂.heap.get? b = some o)
    (hD : D = s₂.heap.objs.size) (hC : C = s₂.heap.objs.size + 1) (old : ∀ b o, s₂.heap.get? b = some o → h₁.get? b = some o) (hacc : h₁.get? D = some o) (ho : ∀ v, o.data ≠ .cell v) {m : Str → Option Value} (ns : h₁.Ns C m) :
    Inv (compCx X NC scope C s₂ H₂ fp [] xe) [(D, o)] (capσ cap σ) H₂ { s₂ with heap := h₁, toks := tk } := by
  obtain ⟨c1, c2, c3, c4, c5, c6, c7⟩ := compOk_parts cok
  have hfree : ∀ y ∈ scope.names, y.2 = .free → ∃ c, X.env.cells.lookup y.1 = some c := fun y hy e => I.ok.has y.1 (.inl (c4 y hy e))
  have clx : ∀ x c, (clOf scope X.env).lookup x = some c → X.env.cells.lookup x = some c := fun x c e => by
    rcases clGo_mem hfree (PySem.mem_of_lookup e) with z | z
    · simp at z
    · exact z
  have hrel : ∀ x, (compEnvC scope (clOf scope X.env) C X.env).kindOf x = (scope.names.lookup x).map fun k => if k = .free then .cell else k := fun x => kindOf_rel (scope := scope) I.ok.kind fun y hy e => c4 y hy e
  have fresh : ∀ b, s₂.heap.objs.size ≤ b → s₂.heap.get? b = none := fun b hb => Heap.get?_none_of_le hb
  have sz : s₂.heap.objs.size ≤ C := by rw [hC]; exact Nat.le_succ _
  have szD : s₂.heap.objs.size ≤ D := by rw [hD]; exact Nat.le_refl _
  have exC : ∀ b ∈ fp, b ≠ C := fun b hb z => by
    obtain ⟨o, e⟩ := hfp b hb
    rw [z, fresh C sz] at e; cases e
  have exD : ∀ b ∈ fp, b ≠ D := fun b hb z => by
    obtain ⟨o, e⟩ := hfp b hb
    rw [z, fresh D szD] at e; cases e
  refine ⟨⟨I.ok.mod, c1, I.ok.glob, I.ok.blt, sz, fun x y c e1 e2 => I.ok.inj x y c (clx x c e1) (clx y c e2), fun x hx => ?_, fun x c z => absurd z (by simp), fun _ => I.ok.hd hc, I.ok.frames, .inl rfl, fun b hb => ⟨exC b hb, fun x c e => (f2 b hb).2.2.2.2.1 x c (clx x c e)⟩,
    I.bs, Nat.le_trans I.ok.bsz I.sz, fun b o e z => ?_, fun b hb z => ?_, I.stack, I.stkFree⟩, rfl, I.bare, Un.kept old, ⟨m, ns, fun j x v e1 e2 e3 => ?_⟩, fun x c e => ?_, I.hok.fresh sz, fun x c e => I.freeC x c (clx x c e), fun p hp => ?_, I.hok.kept old, ?_⟩
  · rw [hrel] at hx
    have hxf : scope.names.lookup x = some .free := by
      cases e : scope.names.lookup x with
      | none => rw [e] at hx; simp at hx
      | some k =>
        rw [e] at hx
        by_cases hk : k = .free
        · rw [hk]
        · exfalso
          simp only [Option.map_some, if_neg hk, Option.some.injEq] at hx
          rcases hx with z | z
          · exact c2 _ (PySem.mem_of_lookup e) z
          · exact hk z
    obtain ⟨c, hm⟩ := clGo_has (env := X.env) (cs := []) (PySem.mem_of_lookup hxf)
    exact lookup_some_of_mem hm
  · obtain ⟨e1, e2⟩ := I.bs b o e
    have := (f2 b z).2.2.2.1
    rcases this with q | q
    · exact I.ok.noex b o e q
    · exact absurd (Nat.lt_of_lt_of_le (Heap.lt_size (I.ok.bs b o e).1) q) (Nat.lt_irrefl _)
  · rcases List.mem_cons.mp (I.stkSub b z) with q | q
    · exact (f2 b hb).2.1 q
    · exact (f2 b hb).2.2.1 q
  · have ej : cap[j]? = some ((some ((cap[j]?.bind id).getD 0) : Option Nat)) := by
      unfold capσ at e2
      rw [List.getElem?_map] at e2
      cases q : cap[j]? with
      | none => rw [q] at e2; simp at e2
      | some oo =>
        rw [q] at e2
        cases oo with
        | none => simp at e2
        | some i => simp
    generalize ((cap[j]?.bind id).getD 0) = i at ej
    obtain ⟨y, y1, y2, y3⟩ := c6 j i ej
    have : y = x := Option.some.inj (y1.symm.trans e1)
    subst this
    have ev : σ[i]? = some (some v) := by
      unfold capσ at e2
      rw [List.getElem?_map, ej] at e2
      simp only [Option.map_some, Option.bind_some, Option.some.injEq] at e2
      cases q : σ[i]? with
      | none => rw [q] at e2; simp at e2
      | some w => rw [q] at e2; simp at e2; rw [e2]
    have kc : X.env.scope.names.lookup y = some .cell := c4 (y, .free) (PySem.mem_of_lookup y3) rfl
    obtain ⟨m', hn', hl'⟩ := I.loc
    obtain ⟨u, r, q⟩ := hl' i y v y2 ev (.inr (.inl kc))
    refine ⟨u, r, .inr ⟨.inl (by rw [hrel, y3]; rfl), ?_⟩⟩
    rcases q with ⟨k, _⟩ | ⟨k, c, e, z⟩
    · rw [show X.env.kindOf y = some .cell from kc] at k; cases k
    · obtain ⟨c', hm⟩ := clGo_has (env := X.env) (cs := []) (PySem.mem_of_lookup y3)
      obtain ⟨c'', hl⟩ := lookup_some_of_mem hm
      have := clx y c'' hl
      rw [e] at this
      cases this
      obtain ⟨oc, h1, h2⟩ := z
      exact ⟨c, hl, oc, old c oc h1, h2⟩
  · obtain ⟨v, oc, h1, h2⟩ := I.cell x c (clx x c e)
    exact ⟨v, oc, old c oc h1, h2⟩
  · have e : p = (D, o) := by simpa using hp
    subst e
    refine ⟨hacc, I.hok.fresh szD, fun z => by rw [hC, hD] at z; exact absurd z (Nat.ne_of_lt (Nat.lt_succ_self _)), fun z => ?_, ho⟩
    obtain ⟨_, ob, e, _⟩ := I.stack.mem z
    rw [fresh D szD] at e; cases e
  · unfold capσ
    rw [List.length_map]
    exact c5
/-- behind the block: the enclosing frame's state; the block's own names may have been let go -/
theorem comp_leave {C : Addr} {pn pc : List (Addr × Obj)} {σ' : St} {H' : Hp} {s' : Shared} {h' : Heap} {xe : Value → Shared → Prop} (I : Inv X pins σ H₂ s₂) (f2 : ∀ b ∈ fp, FpOk X pins H₂ b) (hC : C = s₂.heap.objs.size + 1)
    (J : Inv (compCx X NC scope C s₂ H₂ fp pn xe) pc σ' H' s') (sb : Heap.SameBut C s'.heap h') : Inv X pins σ H' { s' with heap := h' } := by
  have fC : s₂.heap.get? C = none := Heap.get?_none_of_le (by rw [hC]; exact Nat.le_succ _)
  have nC : ∀ b o, s₂.heap.get? b = some o → b ≠ C := fun b o e z => by rw [z, fC] at e; cases e
  have u : Un (frs X.stack) fp H₂ H' s₂.heap h' := by
    have v : Un (frs X.stack) fp H₂ H' s₂.heap s'.heap := J.base
    refine ⟨fun b o e n hb hx => (sb.2 b (nC b o e)).trans (v.keep b o e n hb hx), fun b o e n hb hx => ?_, v.free, fun b o e hx => ?_, v.tups, v.frzs, v.tbls⟩
    · obtain ⟨sl, q⟩ := v.slot b o e n hb hx
      exact ⟨sl, (sb.2 b (nC b o e)).trans q⟩
    · obtain ⟨o', q⟩ := v.there b o e hx
      exact ⟨o', (sb.2 b (nC b o e)).trans q⟩
  have hok : HOk X.prog X.w H' h' := fun b o e => by
    refine (J.hok b o e).stay (fun c w hc q => (sb.2 c fun z => ?_).trans q) (fun _ q => q) fun _ _ q => q
    have fr : H' C = none := J.free
    subst z
    rcases hc with rfl | hc
    · rw [fr] at e; cases e
    · rw [fr] at hc; cases hc
  exact I.call' (s' := { s' with heap := h' }) (ch := fp) J.os u hok J.bare fun b hb => ⟨(f2 b hb).2.2.2.1, (f2 b hb).2.1, (f2 b hb).2.2.2.2.1, (f2 b hb).2.2.2.2.2⟩
end
end L2

set_option Elab.async false
set_option linter.all false
set_option maxRecDepth 100000
namespace L2
open PySem PySem.Spec PyProof.Rows

/-- what the one knows of the names the other knows too -/
def Weak (σ σ' : St) : Prop := σ'.length = σ.length ∧ ∀ (i : Nat) v, σ[i]? = some (some v) → σ'[i]? = some (some v)
theorem Weak.refl (σ : St) : Weak σ σ := ⟨rfl, fun _ _ h => h⟩
theorem Weak.set {σ : St} {j : Nat} {v : Option V} (h : σ[j]? = some none) : Weak σ (σ.set j v) := by
  refine ⟨List.length_set .., fun i w e => ?_⟩
  by_cases q : j = i
  · subst q; rw [h] at e; cases e
  · rw [List.getElem?_set_ne q]; exact e
theorem Weak.set2 {σ : St} {j k : Nat} {v w : Option V} (h : σ[j]? = some none) (h' : σ[k]? = some none) : Weak σ ((σ.set j v).set k w) := by
  refine ⟨by rw [List.length_set, List.length_set], fun i u e => ?_⟩
  have q1 : j ≠ i := fun q => by subst q; rw [h] at e; cases e
  have q2 : k ≠ i := fun q => by subst q; rw [h'] at e; cases e
  rw [List.getElem?_set_ne q2, List.getElem?_set_ne q1]; exact e

section
variable {prog : Program} {w : World} {A : Around} {R : Result → Shared → Prop} {s : Shared}
/-- the library's loop of a comprehension, with the step ahead of the store -/
theorem compLoop_any {elt target iter : Expr} {ifs : List Expr} {scope : Scope} {pos : Pos} {it acc : Value} {env : Env} (I : Nat → Shared → Prop)
    (turn : ∀ n s, I n s → wpAny (model prog w) A (pyNext it) (fun r s₁ => match r with
      | none => R (.ok .next) s₁
      | some v => wpAny (model prog w) A (letOwnedTupleGo target it v) (fun _ s₁' => wpAny (model prog w) A (assign target env v) (fun _ s₂ =>
          wpAny (model prog w) A (forIn ifs true fun c r => if r = true then do let ok ← isTrue c env (eval c env); pure (ForInStep.yield ok) else pure (ForInStep.yield r)) (fun ok s₃ =>
            if ok = true then wpAny (model prog w) A (eval elt env) (fun x s₄ =>
              wpAny (model prog w) A (call (.builtin "list.append") [acc, x]) (fun _ s₅ => ∃ m, m < n ∧ I m s₅) (notedBy (model prog w) A env fun e s' => R (.error e) s') s₄) (notedBy (model prog w) A env fun e s' => R (.error e) s') s₃
            else ∃ m, m < n ∧ I m s₃) (notedBy (model prog w) A env fun e s' => R (.error e) s') s₂) (notedBy (model prog w) A env fun e s' => R (.error e) s') s₁') (notedBy (model prog w) A env fun e s' => R (.error e) s') s₁) (notedBy (model prog w) A env fun e s' => R (.error e) s') s)
    (n : Nat) (h : I n s) : codeAny (model prog w) A (.compLoop (.ListComp elt [⟨target, iter, ifs, 0⟩] scope pos) 0 it acc env) R s := by
  refine codeAny_loop rfl I (fun n s hI => ?_) n h
  show wpAny _ A ((compTurn (.ListComp elt [⟨target, iter, ifs, 0⟩] scope pos) 0 it acc env).onRaise (fun x => do noteFrame x env; theTreesLotGoes x)) _ _ s
  refine wpAny_noted ?_
  rw [compTurn_list]
  refine wpAny_bind (wpAny_standAt (wpAny_bind (wpAny_mono (turn n s hI) (fun r s₁ h₁ => ?_) fun _ _ h' => h')))
  cases r with
  | none => exact wpAny_pure h₁
  | some v =>
    refine wpAny_bind (wpAny_mono h₁ (fun _ s₁' h₁' => ?_) fun _ _ h' => h')
    refine wpAny_bind (wpAny_mono h₁' (fun _ s₂ h₂ => wpAny_bind (wpAny_mono h₂ (fun ok s₃ h₃ => ?_) fun _ _ h' => h')) fun _ _ h' => h')
    cases ok with
    | false => exact wpAny_pure ⟨rfl, h₃⟩
    | true =>
      exact wpAny_bind (wpAny_bind (wpAny_mono h₃ (fun x s₄ h₄ => wpAny_bind (wpAny_mono h₄ (fun _ s₅ h₅ => wpAny_pure (wpAny_pure ⟨rfl, h₅⟩)) fun _ _ h' => h')) fun _ _ h' => h'))
end

section
variable {X : Cx} {σ : St} {H : Hp} {s : Shared}
/-- the one pinned object is rewritten -/
theorem Inv.repin {D : Addr} {o o' : Obj} {h' : Heap} (I : Inv X [(D, o)] σ H s) (hpn : ∀ p ∈ X.pn, p.1 ≠ D) (h0 : X.s₀.heap.objs.size ≤ D) (ho' : ∀ v, o'.data ≠ .cell v) (sb : Heap.SameBut D s.heap h') (e' : h'.get? D = some o') :
    Inv X [(D, o')] σ H { s with heap := h' } := by
  obtain ⟨e, n, ne, nf, d⟩ := I.pin (D, o) (List.mem_append_right _ (by simp))
  have I0 : Inv X [] σ H s := I.pins_of fun p hp => absurd hp (by simp)
  have I1 : Inv X [] σ H { s with heap := h' } := I0.turned (t' := s.toks) (it := D) (fun b u hb q => (sb.2 b hb).trans q) n ne (.inr h0) (fun x c ec z => by
    obtain ⟨v, oc, h1, h2⟩ := I.cell x c ec
    subst z
    rw [e] at h1; cases h1
    exact d v h2) fun p hp => hpn p (by simpa using hp)
  refine I1.pins_of fun p hp => ?_
  have q : p = (D, o') := by simpa using hp
  subst q
  exact ⟨e', n, ne, nf, ho'⟩
end

section
variable {X : Cx} {pins : List (Addr × Obj)} {σ : St} {H₂ : Hp} {s₂ : Shared} {scope : Scope} {NC : List Str} {cap : List (Option Nat)} {fp : List Addr} {elt tg iter : Expr} {ifs : List Expr} {pos : Pos} {Z : ZK} {J : It} {it : Addr} {tn : Nat → Heap → Prop}
  {g : TG} {tf : TT} {te : TE} {use : Option (Value → Sem Unit)} {Qv : Value → Shared → Prop}

theorem comp_core (hc : X.calm = true) (th : Thr X Z) (I : Inv X pins σ H₂ s₂) (T : Turn X.prog X.w X.K tg J fp it tn) (st2 : tn 0 s₂.heap) (f2 : ∀ b ∈ fp, FpOk X pins H₂ b) (cok : compOk X.env.scope scope X.N NC cap = true)
    (hg : ∀ C pn xe, PG (compCx X NC scope C s₂ H₂ fp pn xe) tg g)
    (hf : ∀ C pn xe, Thr (compCx X NC scope C s₂ H₂ fp pn xe) (fun _ C' H' => Z σ C' H') → PF (compCx X NC scope C s₂ H₂ fp pn xe) ifs tf)
    (hb : ∀ C pn xe, Thr (compCx X NC scope C s₂ H₂ fp pn xe) (fun _ C' H' => Z σ C' H') → PE (compCx X NC scope C s₂ H₂ fp pn xe) elt te)
    (W : Nat → Nat → List V → Hp → Prop) (m0 : Nat) (w0 : W 0 m0 [] H₂) {Fn : List V → Hp → Prop}
    (turn : ∀ i m ys H2, W i m ys H2 → (J.stop i H2 ∧ Fn ys H2) ∨ (J.go i H2 ∧ ys.length < sizeLine ∧ ∀ x H3, J.yld i H2 x H3 → g x (capσ cap σ) H3 fun σ4 H4 => Weak (capσ cap σ) σ4 ∧ tf σ4 H4 fun b H5 =>
      if b = true then te σ4 H5 fun y H6 => ∃ m', m' < m ∧ W (i + 1) m' (ys ++ [y]) H6 else ∃ m', m' < m ∧ W (i + 1) m' ys H5))
    (fin : ∀ (C D : Addr) (s' : Shared) (H' : Hp) (ys : List V) (us : List Value) (n : Nat), Fn ys H' → Vals ys us → s'.heap.get? D = some { cls := .type "list", data := .seq us.toArray n } → H' D = none → H' C = none → D = s₂.heap.objs.size → C = s₂.heap.objs.size + 1 →
      (∃ m, s'.heap.Ns C m) → (∀ h', Heap.SameBut C s'.heap h' → Inv X pins σ H' { s' with heap := h' }) → compPost (model X.prog X.w) X.A X.xe use Qv (.ref D) C (.ok .next) s') :
    wpAny (model X.prog X.w) X.A (newList []) (fun acc s₃ => wpAny (model X.prog X.w) X.A (newFunctionEnv scope X.env.globals (clOf scope X.env) [] X.env.qual none .none (some X.env)) (fun cenv s₄ =>
      codeAny (model X.prog X.w) X.A (.compStart (.ListComp elt [⟨tg, iter, ifs, 0⟩] scope pos) 0 (.ref it) acc { cenv with scope := relabel scope X.env }) (compPost (model X.prog X.w) X.A X.xe use Qv acc cenv.locals) s₄) X.xe s₃) X.xe s₂ := by
  obtain ⟨c1, c2, c3, c4, c5, c6, c7⟩ := compOk_parts cok
  refine wpAny_newObj_type (wpAny_newFunctionEnv c2 (by intro y hy; simp at hy) (fun h₁ hns₁ hsb₁ => ?_) c1)
  dsimp only at hns₁ hsb₁ ⊢
  generalize hH2 : s₂.heap.push { cls := .type "list", dict := none, data := .seq ([] : List Value).toArray } = H2 at hns₁ hsb₁ ⊢
  have hC : H2.objs.size = s₂.heap.objs.size + 1 := by rw [← hH2, Heap.size_push]
  have hDC : s₂.heap.objs.size ≠ H2.objs.size := by rw [hC]; exact Nat.ne_of_lt (Nat.lt_succ_self _)
  have below : ∀ b, b < s₂.heap.objs.size → b ≠ H2.objs.size := fun b hb => by rw [hC]; exact Nat.ne_of_lt (Nat.lt_succ_of_lt hb)
  have old : ∀ b o, s₂.heap.get? b = some o → h₁.get? b = some o := fun b o e => hsb₁.extBut b o (below b (Heap.lt_size e)) (Heap.get?_push_of_some _ (hH2 ▸ Heap.get?_push_of_some _ e))
  have hacc : h₁.get? s₂.heap.objs.size = some { cls := .type "list", data := .seq ([] : List Value).toArray 0 } := hsb₁.extBut _ _ hDC (Heap.get?_push_of_some _ (hH2 ▸ Heap.get?_push_size _ rfl))
  have hfp : ∀ b ∈ fp, ∃ o, s₂.heap.get? b = some o := fun b hb => let ⟨o, e, _⟩ := T.obj _ _ st2 b hb; ⟨o, e⟩
  have nodata : ∀ (us : List Value) (n : Nat) v, ({ cls := .type "list", data := .seq us.toArray n } : Obj).data ≠ .cell v := fun us n v z => by cases z
  have fpD : ∀ b ∈ fp, b ≠ s₂.heap.objs.size := fun b hb z => by
    obtain ⟨o, e⟩ := hfp b hb
    exact absurd (Heap.lt_size e) (by rw [z]; exact Nat.lt_irrefl _)
  generalize hEn : (notedBy (model X.prog X.w) X.A (compEnvC scope (clOf scope X.env) H2.objs.size X.env) fun e s' => compPost (model X.prog X.w) X.A X.xe use Qv (.ref s₂.heap.objs.size) H2.objs.size (.error e) s') = En
  have loop : ∀ s₃ : Shared, s₃ = { s₂ with heap := h₁, toks := s₂.toks + ([] : List (Str × Value)).length } →
      codeAny (model X.prog X.w) X.A (.compLoop (.ListComp elt [⟨tg, iter, ifs, 0⟩] scope pos) 0 (.ref it) (.ref s₂.heap.objs.size) (compEnvC scope (clOf scope X.env) H2.objs.size X.env))
        (compPost (model X.prog X.w) X.A X.xe use Qv (.ref s₂.heap.objs.size) H2.objs.size) s₃ := by
    rintro s₃ rfl
    refine compLoop_any (fun k s' => ∃ i ys us n H', Vals ys us ∧ W i k ys H' ∧ tn i s'.heap ∧ (∀ b ∈ fp, H' b = none) ∧
      Inv (compCx X NC scope H2.objs.size s₂ H₂ fp [] En) [(s₂.heap.objs.size, { cls := .type "list", data := .seq us.toArray n })] (capσ cap σ) H' s') ?_ m0
      ⟨0, [], [], 0, H₂, .nil, w0, T.keep _ _ _ st2 fun b _ o e => old b o e, fun b hb => (f2 b hb).1, comp_start I hc cok f2 hfp rfl hC old hacc (nodata _ _) hns₁⟩
    rw [hEn]
    rintro k s' ⟨i, ys, us, n, H', rv, w, st, fr, Ic⟩
    have Fp : ∀ {H' : Hp} {us : List Value} {n : Nat}, (∀ b ∈ fp, H' b = none) → ∀ b ∈ fp, FpOk (compCx X NC scope H2.objs.size s₂ H₂ fp [] En) [(s₂.heap.objs.size, ({ cls := .type "list", data := .seq us.toArray n } : Obj))] H' b := fun {H' us n} hn b hb => by
      have q := Ic.ok.exf b hb
      refine ⟨hn b hb, q.1, fun z => Ic.ok.exfs b hb z, .inl hb, q.2, fun p hp => ?_⟩
      have e : p = (s₂.heap.objs.size, ({ cls := .type "list", data := .seq us.toArray n } : Obj)) := by simpa using hp
      subst e
      exact (fpD b hb).symm
    rcases turn i k ys H' w with ⟨stop, q⟩ | ⟨go, hlen, step⟩
    · refine wpAny_mono (T.done (compCx X NC scope H2.objs.size s₂ H₂ fp [] En) rfl rfl rfl rfl i _ s' _ H' En Ic (Fp fr) st stop) (fun r s4 h4 => ?_) fun _ _ x => x
      obtain ⟨hr, I4⟩ := h4
      subst hr
      obtain ⟨m, ns, _⟩ := id I4.loc
      obtain ⟨p1, p2, _⟩ := I4.pin _ (List.mem_append_right _ (List.mem_singleton.mpr rfl))
      exact fin _ _ s4 H' ys us n q rv p1 p2 I4.free rfl hC ⟨m, ns⟩ fun h' sb => comp_leave I f2 hC I4 sb
    · refine wpAny_mono (T.item (compCx X NC scope H2.objs.size s₂ H₂ fp [] En) rfl rfl rfl rfl i _ s' _ H' En Ic (Fp fr) st go) (fun r s4 h4 => ?_) fun _ _ x => x
      obtain ⟨u, hr, h4⟩ := h4
      subst hr
      refine wpAny_mono h4 (fun _ s5 h5 => ?_) fun _ _ x => x
      obtain ⟨x, H5, I5, r5, y5, st5, fr5⟩ := h5
      have I5' : Inv (compCx X NC scope H2.objs.size s₂ H₂ fp (pinsAt fp s5.heap) En) [(s₂.heap.objs.size, { cls := .type "list", data := .seq us.toArray n })] (capσ cap σ) H5 s5 :=
        (I5.pinned (Fp fr5) (T.obj _ _ st5)).repn fun p hp => by
          rcases List.mem_append.mp hp with z | z
          · exact List.mem_append_right _ (List.mem_append_right _ z)
          · exact List.mem_append_right _ (List.mem_append_left _ z)
      have okx : XOk (compCx X NC scope H2.objs.size s₂ H₂ fp (pinsAt fp s5.heap) En) := by
        obtain ⟨top, outer, L, e1, e2, e3⟩ := th.top
        exact ⟨⟨top, outer, L, e1, e2, e3⟩, fun b hb => let ⟨o, e, _⟩ := T.obj _ _ st5 b hb; ⟨o, mem_pinsAt hb e⟩⟩
      have thx : Thr (compCx X NC scope H2.objs.size s₂ H₂ fp (pinsAt fp s5.heap) En) (fun _ C' H' => Z σ C' H') := by
        refine ⟨okx, ?_⟩
        rintro e s6 ⟨a, C', T', σ6, H6, rfl, I6, F6, z6⟩
        show En (.ref a) s6
        rw [← hEn]
        unfold notedBy
        refine I6.note okx F6 I6.ok.frames rfl fun h7 t7 I7 F7 => ?_
        obtain ⟨m, ns, _⟩ := id I7.loc
        have fin7 : ∃ m, h7.Ns H2.objs.size m ∧ ∀ h', Heap.SameBut H2.objs.size h7 h' → ∀ cenv : Env, cenv.locals = H2.objs.size → wpAny (model X.prog X.w) X.A (passOn "comprehension.variables-let-go" (.ref a) cenv : Sem Value) (fun _ _ => False) X.xe { s6 with heap := h' } := by
          refine ⟨m, ns, fun h' sb cenv _ => ?_⟩
          have I8 : Inv X pins σ H6 { s6 with heap := h' } := comp_leave (s' := { s6 with heap := h7 }) I f2 hC I7 sb
          have F8 : Fly X pins H6 h' a C' (some t7) := by
            refine ⟨F7.fl.at fun b hb o e => (sb.2 b fun z => ?_).trans e, fun b hb => ?_⟩
            · obtain ⟨o', vs, e1, e2⟩ := F7.fl.rec b hb
              obtain ⟨oC, es, ep, e3, e4, _⟩ := ns
              subst z
              have q : o' = oC := Option.some.inj (e1.symm.trans e3)
              rw [q] at e2
              have q2 := e2.symm.trans e4
              cases q2
            · obtain ⟨o1, o2, _⟩ := F7.ow b hb
              exact I.ow th.toXOk (.inr trivial) o2 o1
          exact I8.passOn F8 fun h9 I9 F9 => th.go I9 F9 z6
        show compPost _ _ _ _ _ _ _ (.error (.ref a)) _
        cases use <;> exact fin7
      refine wpAny_mono (hg _ _ En _ s5 _ H5 x u _ I5' r5 (step x H5 y5)) (fun _ s6 h6 => ?_) fun _ _ x => x
      obtain ⟨σ6, H6, I6, wk, q6⟩ := h6
      refine wpAny_mono (hf _ _ En thx _ s6 σ6 H6 _ I6 q6) (fun b s7 h7 => ?_) fun _ _ x => x
      obtain ⟨H7, I7, q7⟩ := h7
      have back : ∀ {s8 : Shared} {H8 : Hp} {ys' : List V} {us' : List Value} {n' m' : Nat}, Inv (compCx X NC scope H2.objs.size s₂ H₂ fp (pinsAt fp s5.heap) En) [(s₂.heap.objs.size, { cls := .type "list", data := .seq us'.toArray n' })] σ6 H8 s8 → Vals ys' us' → m' < k → W (i + 1) m' ys' H8 →
          ∃ m, m < k ∧ ∃ i ys us n H', Vals ys us ∧ W i m ys H' ∧ tn i s8.heap ∧ (∀ b ∈ fp, H' b = none) ∧ Inv (compCx X NC scope H2.objs.size s₂ H₂ fp [] En) [(s₂.heap.objs.size, { cls := .type "list", data := .seq us.toArray n })] (capσ cap σ) H' s8 := by
        intro s8 H8 ys' us' n' m' I8 rv8 hm w8
        refine ⟨m', hm, i + 1, ys', us', n', H8, rv8, w8, T.keep _ _ _ st5 fun b hb o e => (I8.pin (b, o) (List.mem_append_left _ (mem_pinsAt hb e))).1, fun b hb => ?_, ?_⟩
        · obtain ⟨o, e, d⟩ := T.obj _ _ st5 b hb
          exact (I8.pin (b, o) (List.mem_append_left _ (mem_pinsAt hb e))).2.1
        · have I9 := I8.weak (σ' := capσ cap σ) wk.1.symm wk.2
          exact I9.repn fun p hp => List.mem_append_right _ (by simpa using hp)
      cases b with
      | false =>
        obtain ⟨m', hm, w8⟩ := q7
        exact back I7 rv hm w8
      | true =>
        refine wpAny_mono (hb _ _ En thx _ s7 σ6 H7 _ I7 q7) (fun y s8 h8 => ?_) fun _ _ x => x
        obtain ⟨v, H8, I8, rv8, m', hm, w8⟩ := h8
        obtain ⟨p1, p2, _⟩ := I8.pin _ (List.mem_append_right _ (List.mem_singleton.mpr rfl))
        have hlu : us.length = ys.length := rv.length.symm
        refine append_at p1 (hsz := by show us.toArray.size ≤ sizeLine; rw [List.size_toArray, hlu]; exact Nat.le_of_lt hlen) fun h9 sb9 e9 => ?_
        rw [List.push_toArray] at e9
        have I9 := I8.repin (fun p hp => by
          have q := (of_pinsAt hp).1
          exact fpD _ q) (Nat.le_refl _) (nodata _ _) sb9 e9
        exact back I9 (rv.append (.cons rv8 .nil)) hm w8
  exact codeAny_compStart_list (loop _ rfl) (T.self _ 0 _ _ _ (T.keep _ _ _ st2 fun b _ o e => old b o e) (loop _ rfl))
end

/-! ### a comprehension as a value -/
/-- what a comprehension's walk asks: an invariant of the turn, a measure, the items so far and the heap -/
def CompR (J : It) (H1 : Hp) (cap : List (Option Nat)) (σ : St) (g : TG) (tf : TT) (te : TE) (Q : VK) : Prop := ∃ W : Nat → Nat → List V → Hp → Prop, (∃ m, W 0 m [] H1) ∧ ∀ i m ys H2, W i m ys H2 →
  (J.stop i H2 ∧ ys.length ≤ sizeLine ∧ ∀ p, H2 p = none → Q (.ref p) (upd H2 p (.lst ys))) ∨
  (J.go i H2 ∧ ys.length < sizeLine ∧ ∀ x H3, J.yld i H2 x H3 → g x (capσ cap σ) H3 fun σ4 H4 => Weak (capσ cap σ) σ4 ∧ tf σ4 H4 fun b H5 =>
    if b = true then te σ4 H5 fun y H6 => ∃ m', m' < m ∧ W (i + 1) m' (ys ++ [y]) H6 else ∃ m', m' < m ∧ W (i + 1) m' ys H5)
def tComp (Z : ZK) (cap : List (Option Nat)) (wi : TI) (g : TG) (tf : ZK → TT) (te : ZK → TE) : TE := fun σ H Q => wi σ H fun J H1 => CompR J H1 cap σ g (tf (fun _ C H' => Z σ C H')) (te (fun _ C H' => Z σ C H')) Q
section
variable {X : Cx} {scope : Scope} {NC : List Str} {cap : List (Option Nat)} {elt tg iter : Expr} {ifs : List Expr} {pos : Pos} {Z : ZK} {wi : TI} {g : TG} {tf : ZK → TT} {te : ZK → TE}
theorem pe_comp (hc : X.calm = true) (th : Thr X Z) (hi : PI X tg iter wi) (cok : compOk X.env.scope scope X.N NC cap = true)
    (hg : ∀ C s H fp pn xe, PG (compCx X NC scope C s H fp pn xe) tg g)
    (hf : ∀ C s H fp pn xe Zc, Thr (compCx X NC scope C s H fp pn xe) Zc → PF (compCx X NC scope C s H fp pn xe) ifs (tf Zc))
    (hb : ∀ C s H fp pn xe Zc, Thr (compCx X NC scope C s H fp pn xe) Zc → PE (compCx X NC scope C s H fp pn xe) elt (te Zc))
    (hs : ∀ x, foldedSetIterable iter X.env x = pure x := by intro _; rfl) : PE X (.ListComp elt [⟨tg, iter, ifs, 0⟩] scope pos) (tComp Z cap wi g tf te) := by
  intro pins s σ H Q I h
  obtain ⟨c1, c2, c3, c4, c5, c6, c7⟩ := compOk_parts cok
  rw [eval_ListComp]
  refine wpAny_comprehension_free (use := none) rfl hs (closure_of fun y hy e => I.ok.has y.1 (.inl (c4 y hy e))) c1 c3 (thn (hi pins s σ H _ I h) fun xv s₁ h₁ => thn h₁ fun itv s₂ h₂ => ?_)
  obtain ⟨it, fp, tn, J, H2, rfl, I2, T, st2, f2, W, ⟨m0, w0⟩, turn⟩ := h₂
  refine comp_core hc th I2 T st2 f2 cok (fun C pn xe => hg C s₂ H2 fp pn xe) (fun C pn xe t => hf C s₂ H2 fp pn xe _ t) (fun C pn xe t => hb C s₂ H2 fp pn xe _ t) W m0 w0 turn ?_
  rintro C D s' H' ys us n ⟨hlen, q⟩ rv e hn _ rfl rfl ⟨m, ns⟩ lv
  refine ⟨m, ns, fun h' sb => ?_⟩
  have I' := lv h' sb
  have eD : h'.get? s₂.heap.objs.size = some { cls := .type "list", data := .seq us.toArray n } := (sb.2 _ (Nat.ne_of_lt (Nat.lt_succ_self _))).trans e
  refine ⟨.ref s₂.heap.objs.size, _, I'.track (o := .lst ys) hn (Heap.get?_none_of_le I2.sz) (Nat.ne_of_gt I2.lt) (fun x c ec z => ?_) (fun p hp z => ?_) ⟨hlen, us, n, rv, eD⟩, rfl, q _ hn⟩
  · obtain ⟨v, q⟩ := I2.cell x c ec
    exact absurd q.lt (by rw [z]; exact Nat.lt_irrefl _)
  · exact absurd (Heap.lt_size (I2.pin p hp).1) (by rw [z]; exact Nat.lt_irrefl _)
end
end L2

set_option Elab.async false
set_option linter.all false
set_option maxRecDepth 100000
/-! raise and try, with the text's own error classes. -/
namespace L2
open PySem PySem.Spec PyProof.Rows

/-- a class of the text's own that stands under an error class -/
theorem exc_obj {K : PySem.W.Frag} {h : Heap} {C : Addr} {bmB : List Value} {newId : String} (X : K.In h) (q : PySem.W.excIn K C bmB newId = true) :
    ∃ oc dd cd sl bm N nm qn bs hdct sn sub ab col k0 k1 k2 k3 k5 mN, K.lookup C = some ⟨oc, dd, .cls cd, sl⟩ ∧ cd.mro = .ref C :: bm ∧ h.get? C = some (excClassObj nm qn C N bs bm hdct sn sub ab col dd k0 k1 k2 k3 k5 newId) ∧ h.Ns N mN ∧ mN "__init__" = none ∧ OwnTail h bmB bm := by
  unfold PySem.W.excIn at q
  split at q
  · rename_i dd cd sl ho
    split at q
    · rename_i C' bm k0 k1 k2 k3 n k5 hm hs
      simp only [Bool.and_eq_true, beq_iff_eq, Bool.not_eq_true'] at q
      obtain ⟨⟨⟨⟨⟨rfl, rfl⟩, hdel⟩, ht⟩, hok⟩, hni⟩ := q
      obtain ⟨nm, bs, mro, ns, qn, hd, sn, sub, ab, col, del⟩ := cd
      dsimp only at hm hdel hok hni
      subst hm hdel
      have hsl : sl = #[k0, k1, k2, k3, some (.builtin n), k5] := by
        obtain ⟨l⟩ := sl
        simp only at hs
        rw [hs]
      subst hsl
      exact ⟨_, dd, _, _, bm, ns, nm, qn, bs, hd, sn, sub, ab, col, k0, k1, k2, k3, k5, _, ho, rfl, X _ _ ho, .of_isNs (PySem.W.isNs_of_in X hok), PySem.W.nsMap_none_of_in X hok hni, PySem.W.tail_of_in X ht⟩
    · cases q
  · cases q

/-- raise C(..) -/
def tRaise (C : Addr) (Z : ZK) (ta : TA) : TS := fun _ σ H => ta σ H fun vs H1 => vs.length ≤ sizeLine ∧ Z σ (.ref C) H1
section
variable {X : Cx} {Z : ZK} {x : Str} {C : Addr} {bmB : List Value} {B newId initId : String} {e₀ : Expr} {rest : List Expr} {ta : TA} {np cpos pos : Pos}
theorem ps_raise (th : Thr X Z) (hc : X.calm = true) (hg : Gl X x) (hm : X.mg x = some (.ref C)) (hx : PySem.W.excIn X.K C bmB newId = true) (FB : ExcBaseFacts B newId initId bmB) (ha : PA X (e₀ :: rest) ta)
    (hd : (x == ("__debug__" : Str)) = false := by decide) (he : starEach (e₀ :: rest) X.env = (false, eval e₀ X.env) :: starEach rest X.env := by rfl) (hplain : (backTo cpos (starEach rest X.env)).any (·.1) = false := by rfl) :
    PS X (.Raise (some (.Call (.Name x np) (e₀ :: rest) [] cpos)) none pos) (tRaise C Z ta) := by
  intro pins s σ H D I h
  obtain ⟨oc, dd, cd, sl, bm, N, nm, q, bs, hdct, sn, sub, ab, col, k0, k1, k2, k3, k5, mN, _, _, hC, hN, hni, T⟩ := exc_obj I.ok.mod.kin hx
  refine wpAny_Raise_call_subT (C := C) (nm := nm) (q := q) (N := N) (bs := bs) (bm := bm) (hdct := hdct) (sn := sn) (sub := sub) (ab := ab) (col := col) (dd := dd) (k0 := k0) (k1 := k1) (k2 := k2) (k3 := k3) (k5 := k5)
    FB (mN := mN) (T.hasType FB.hasBase) (I.ok.hd hc) (by rw [he]; show (false || (backTo cpos (starEach rest X.env)).any (·.1)) = false; rw [hplain]; rfl) hni (ld_glob I hg hm ⟨rfl, ?_⟩ hd)
  have hA := ha cpos pins s σ H _ I h
  rw [he] at hA ⊢
  refine Calls.evalArgs_plain (wpAny_mono hA (fun us s2 h2 => ?_) fun _ _ y => y)
  obtain ⟨vs, H1, I1, r, hlen, z⟩ := h2
  refine ⟨rfl, by rw [← r.length]; exact hlen, I1.bk _ _ hC, hN.keeps I1.bk, T.keeps I1.bk, fun h' e hm => ?_⟩
  obtain ⟨t, he', ht0, ht⟩ := hm.there
  have I2 : Inv X pins σ H1 { s2 with heap := h' } := I1.kept (t' := s2.toks) hm.keeps
  have F2 : Fly X pins H1 h' e (.ref C) none := by
    refine ⟨⟨_, _, .ref t, he', rfl, rfl, rfl, by simp, rfl⟩, fun b hb => ?_⟩
    have e' : b = e := by simpa using hb
    subst e'
    exact I1.ow th.toXOk (.inr trivial) hm.new (I1.untracked hm.new)
  exact th.go I2 F2 z
end

/-! ### try -/
/-- the class at c stands under the class at D -/
def Under (K : PySem.W.Frag) (c D : Addr) : Prop := (∃ bmB newId, PySem.W.excIn K c bmB newId = true) ∧ ∃ oc dd cd sl, K.lookup c = some ⟨oc, dd, .cls cd, sl⟩ ∧ cd.mro.contains (.ref D) = true
/-- the context within a try's body; within its suite -/
abbrev tryCx (X : Cx) (pins : List (Addr × Obj)) (xe : Value → Shared → Prop) : Cx := { X with pn := X.pn ++ pins, xe := xe }
abbrev sutCx (X : Cx) (pins : List (Addr × Obj)) (a : Addr) : Cx := { X with A := X.A.mark (some (.ref a)), calm := false, pn := X.pn ++ pins, xe := fun _ _ => False }
section
variable {X : Cx} {pins : List (Addr × Obj)} {σ : St} {H : Hp} {s : Shared} {xe : Value → Shared → Prop} {a : Addr}
theorem Inv.toTry (I : Inv X pins σ H s) : Inv (tryCx X pins xe) [] σ H s := I.repn (by simp)
theorem Inv.ofTry (I : Inv (tryCx X pins xe) [] σ H s) : Inv X pins σ H s := I.repn (pn := X.pn) (pins' := pins) (xe := X.xe) (by simp)
theorem Inv.toSuite (I : Inv (tryCx X pins xe) [] σ H s) : Inv (sutCx X pins a) [] σ H s :=
  ⟨⟨I.ok.mod, I.ok.kind, I.ok.glob, I.ok.blt, I.ok.above, I.ok.inj, I.ok.has, I.ok.cab, fun z => absurd z (by simp), I.ok.frames, I.ok.stk, I.ok.exf, I.ok.bs, I.ok.bsz, I.ok.noex, I.ok.exfs, I.ok.funs, I.ok.frf⟩,
    I.os, I.bare, I.base, I.loc, I.cell, I.free, I.freeC, I.pin, I.hok, I.len⟩
theorem Inv.ofSuite (ok : X.Ok) (I : Inv (sutCx X pins a) [] σ H s) : Inv X pins σ H s :=
  ⟨ok, I.os, I.bare, I.base, I.loc, I.cell, I.free, I.freeC, fun p hp => I.pin p (by simpa using hp), I.hok, I.len⟩
/-- a name of the frame is forgotten -/
theorem Inv.unbound {j : Nat} {n : Str} {h' : Heap} {m m' : Str → Option Value} {t' : Nat} (I : Inv X pins σ H s) (hN : X.N.Nodup) (hj : X.N[j]? = some n) (hn : s.heap.Ns X.env.locals m) (hl : ∀ (i : Nat) (x : Str) (v : V), X.N[i]? = some x → σ[i]? = some (some v) → Vis X.env.scope x → ∃ u, RelV v u ∧ Look X.env s.heap m x u)
    (hn' : h'.Ns X.env.locals m') (hm : ∀ x, x ≠ n → m' x = m x) (hs : Heap.SameBut X.env.locals s.heap h') : Inv X pins (σ.set j none) H { s with heap := h', toks := t' } := by
  have cne := I.cne
  obtain ⟨oL, _, _, hoL, _⟩ := id hn
  have below : ∀ b o, X.s₀.heap.get? b = some o → b ≠ X.env.locals := fun b o e => Nat.ne_of_lt (Nat.lt_of_lt_of_le (Heap.lt_size e) I.ok.above)
  refine ⟨I.ok, I.os, I.bare, ⟨fun b o e n hb hx => ?_, fun b o e n hb hx => ?_, I.base.free, fun b o e hx => ?_, I.base.tups, I.base.frzs, I.base.tbls⟩, ⟨m', hn', fun i y v e1 e2 e3 => ?_⟩, fun y c e => ?_, I.free, I.freeC, fun p hp => ?_, fun b ob e => ?_, by simpa using I.len⟩
  · exact (hs.2 b (below b o e)).trans (I.base.keep b o e n hb hx)
  · obtain ⟨sl, e1⟩ := I.base.slot b o e n hb hx
    exact ⟨sl, (hs.2 b (below b o e)).trans e1⟩
  · obtain ⟨o', e1⟩ := I.base.there b o e hx
    exact ⟨o', (hs.2 b (below b o e)).trans e1⟩
  · have hi : i ≠ j := fun z => by
      subst z
      by_cases hlt : i < σ.length
      · rw [List.getElem?_set_self hlt] at e2; cases e2
      · rw [List.getElem?_eq_none (by simp; omega)] at e2; cases e2
    rw [List.getElem?_set_ne (Ne.symm hi)] at e2
    obtain ⟨u, r, q⟩ := hl i y v e1 e2 e3
    refine ⟨u, r, ?_⟩
    rcases q with ⟨k, e⟩ | ⟨k, c, e, z⟩
    · refine .inl ⟨k, ?_⟩
      have : y ≠ n := fun e => hi (nodup_ix hN e1 (e ▸ hj))
      rw [hm y this]
      exact e
    · exact .inr ⟨k, c, e, z.sameBut hs (cne y c e)⟩
  · obtain ⟨w', z⟩ := I.cell y c e
    exact ⟨w', z.sameBut hs (cne y c e)⟩
  · obtain ⟨e, n, ne, nf, d⟩ := I.pin p hp
    exact ⟨(hs.2 p.1 ne).trans e, n, ne, nf, d⟩
  · refine (I.hok b ob e).stay (fun c w' hc q => (hs.2 c ?_).trans q) (fun _ q => q) fun _ _ q => q
    rintro rfl
    rcases hc with rfl | hc
    · rw [I.free] at e; cases e
    · rw [I.free] at hc; cases hc
end
/-- an exception of class c that stands at a -/
def exO (a c : Addr) : HO := .ext fun h => ∃ o, h.get? a = some o ∧ o.cls = .ref c
theorem exO_ok {P : Program} {w : World} {H : Hp} {h : Heap} {a c : Addr} {o : Obj} (e : h.get? a = some o) (hc : o.cls = .ref c) : ObjOk P w H h a (exO a c) :=
  ⟨⟨o, e, hc⟩, ⟨o, e⟩, fun h1 h2 ⟨o, e, hc⟩ k => ⟨o, k o e, hc⟩⟩

def tTry (K : PySem.W.Frag) (D : Addr) (tb : ZK → TS) (ts : TS) : TS := fun En σ H => tb (fun σ' C H' => ∃ c, C = .ref c ∧ Under K c D ∧ ts En σ' H') En σ H
/-- .. as e, e in the slot j -/
def tTryAs (K : PySem.W.Frag) (D : Addr) (j : Nat) (tb : ZK → TS) (ts : TS) : TS := fun En σ H => tb (fun σ' C H' => ∃ c, C = .ref c ∧ Under K c D ∧ ∀ a, H' a = none →
  ts { nx := fun σ2 H2 => En.nx (σ2.set j none) H2, rt := fun _ _ => False } (σ'.set j (some (.ref a))) (upd H' a (exO a c))) En σ H
section
variable {X : Cx} {Z : ZK} {x n : Str} {D : Addr} {bmB : List Value} {newId : String} {body suite : List Stmt} {b₀ : Stmt} {tb : ZK → TS} {ts : TS} {np hpos pos : Pos} {j : Nat}

theorem Fly.toSuite {pins : List (Addr × Obj)} {H : Hp} {h : Heap} {a : Addr} {C : Value} {T : Option Addr} {xe : Value → Shared → Prop} (F : Fly (tryCx X pins xe) [] H h a C T) : Fly (sutCx X pins a) [] H h a C T := ⟨F.fl, F.ow⟩

/-- the exception is looked at and matches: what the suite is to do -/
theorem caught {pins : List (Addr × Obj)} {σ : St} {H : Hp} {s : Shared} {a c : Addr} {t : Addr} {xe E : Value → Shared → Prop} {nm : Option Str} {Q : Flow → Shared → Prop} (I : Inv (tryCx X pins xe) [] σ H s) (F : Fly (tryCx X pins xe) [] H s.heap a (.ref c) (some t))
    (hg : Gl X x) (hm : X.mg x = some (.ref D)) (hx : PySem.W.excIn X.K D bmB newId = true) (hbB : bmB.contains (.type "BaseException") = true) (hu : Under X.K c D)
    (hd : (x == ("__debug__" : Str)) = false)
    (h : codeAny (model X.prog X.w) (X.A.mark (some (.ref a))) (.handlers (.ref a) [.ExceptHandler none nm (b₀ :: suite) hpos] X.env) (fun r s₂ => match r with
          | .ok f => (match nm with
            | none => Q f s₂
            | some n => wpAny (model X.prog X.w) X.A (do bindName X.env n .none; unbindBehindTheSuite X.env n hpos) (fun _ s₃ => Q f s₃) E s₂)
          | .error x => cameBackBy (model X.prog X.w) X.A X.env E x s₂) s) :
    wpAny (model X.prog X.w) X.A (handleBy (.ref a) X.env [.ExceptHandler (some (.Name x np)) nm (b₀ :: suite) hpos]) Q E s := by
  refine wpAny_handleBy_cons (codeAny_handlers_test (ld_glob (X := sutCx X pins a) I.toSuite hg hm ?_ hd)) (by intro q; cases q)
  obtain ⟨oc, dd, cd, sl, bm, N, nm', q, bs, hdct, sn, sub, ab, col, k0, k1, k2, k3, k5, mN, hl1, hm1, hC, _, _, T1⟩ := exc_obj I.kIn hx
  obtain ⟨⟨bmB', newId', hx'⟩, oc2, dd2, cd2, sl2, hl2, hmro⟩ := hu
  obtain ⟨oc', dd', cd', sl', bm', N', nm2, q', bs', hdct', sn', sub', ab', col', k0', k1', k2', k3', k5', mN', hl3, hm3, hC', _, _, _⟩ := exc_obj I.kIn hx'
  rw [hl2] at hl3
  cases hl3
  rw [hm3] at hmro
  obtain ⟨oe, vs, a0, he, hc, _⟩ := F.fl
  obtain ⟨hh, gg, dr, tk, os⟩ := s
  exact excMatches_own hC' hC he hc (T1.hasType hbB) hmro h

theorem ps_try (th : Thr X Z) (hg : Gl X x) (hm : X.mg x = some (.ref D)) (hx : PySem.W.excIn X.K D bmB newId = true) (hbB : bmB.contains (.type "BaseException") = true)
    (hb : ∀ pins xe Zh, Thr (tryCx X pins xe) Zh → PSs (tryCx X pins xe) body (tb Zh)) (hs : ∀ pins a, PSs (sutCx X pins a) (b₀ :: suite) ts) (hd : (x == ("__debug__" : Str)) = false := by decide) :
    PS X (.Try body [.ExceptHandler (some (.Name x np)) none (b₀ :: suite) hpos] [] [] pos) (tTry X.K D tb ts) := by
  intro pins s σ H En I h
  refine wpAny_Try_except ?_
  generalize hEh : (fun (e : Value) (s₁ : Shared) => wpAny (model X.prog X.w) X.A (noteFrame e X.env) (fun _ s₂ => wpAny (model X.prog X.w) X.A (setFlight e none) (fun _ s₃ => wpAny (model X.prog X.w) X.A (handleBy e X.env [.ExceptHandler (some (.Name x np)) none (b₀ :: suite) hpos]) (SP X pins En) X.xe s₃) X.xe s₂) X.xe s₁) = Eh
  have ok1 : XOk (tryCx X pins Eh) := ⟨th.top, fun b hb => let ⟨o, q⟩ := th.ex b hb; ⟨o, List.mem_append_left _ q⟩⟩
  have th1 : Thr (tryCx X pins Eh) (fun σ' C H' => ∃ c, C = .ref c ∧ Under X.K c D ∧ ts En σ' H') := by
    refine ⟨ok1, ?_⟩
    rintro e s1 ⟨a, C, T, σ', H', rfl, I', F', c, rfl, hu, hts⟩
    show Eh (.ref a) s1
    rw [← hEh]
    refine I'.note ok1 F' I'.ok.frames rfl fun h2 t I2 F2 => ?_
    refine I2.flight F2 fun h3 I3 F3 => ?_
    refine caught I3 F3 hg hm hx hbB hu hd (codeAny_handlers_suite ?_)
    refine I3.flight F3 fun h4 I4 F4 => ?_
    refine wpAny_mono (hs pins a [] _ σ' H' En I4.toSuite hts) (fun f s5 h5 => ?_) fun _ _ z => z.elim
    show SP X pins En f s5
    cases f with
    | next => obtain ⟨σ5, H5, I5, q⟩ := h5; exact ⟨σ5, H5, I5.ofSuite I.ok, q⟩
    | brk => obtain ⟨σ5, H5, I5, q⟩ := h5; exact ⟨σ5, H5, I5.ofSuite I.ok, q⟩
    | cont => obtain ⟨σ5, H5, I5, q⟩ := h5; exact ⟨σ5, H5, I5.ofSuite I.ok, q⟩
    | ret v => obtain ⟨v', σ5, H5, I5, r, q⟩ := h5; exact ⟨v', σ5, H5, I5.ofSuite I.ok, r, q⟩
  refine wpAny_mono (hb pins Eh _ th1 [] s σ H En I.toTry h) (fun f s1 h1 => ?_) fun _ _ z => z
  cases f with
  | next => obtain ⟨σ5, H5, I5, q⟩ := h1; exact wpAny_execs_nil ⟨σ5, H5, I5.ofTry, q⟩
  | brk => obtain ⟨σ5, H5, I5, q⟩ := h1; exact ⟨σ5, H5, I5.ofTry, q⟩
  | cont => obtain ⟨σ5, H5, I5, q⟩ := h1; exact ⟨σ5, H5, I5.ofTry, q⟩
  | ret v => obtain ⟨v', σ5, H5, I5, r, q⟩ := h1; exact ⟨v', σ5, H5, I5.ofTry, r, q⟩

theorem ps_tryAs (th : Thr X Z) (hg : Gl X x) (hm : X.mg x = some (.ref D)) (hx : PySem.W.excIn X.K D bmB newId = true) (hbB : bmB.contains (.type "BaseException") = true) (hN : X.N.Nodup) (hj : X.N[j]? = some n) (hlo : X.env.scope.names.lookup n = some .local)
    (hb : ∀ pins xe Zh, Thr (tryCx X pins xe) Zh → PSs (tryCx X pins xe) body (tb Zh)) (hs : ∀ pins a, PSs (sutCx X pins a) (b₀ :: suite) ts) (hd : (x == ("__debug__" : Str)) = false := by decide) :
    PS X (.Try body [.ExceptHandler (some (.Name x np)) (some n) (b₀ :: suite) hpos] [] [] pos) (tTryAs X.K D j tb ts) := by
  intro pins s σ H En I h
  refine wpAny_Try_except ?_
  generalize hEh : (fun (e : Value) (s₁ : Shared) => wpAny (model X.prog X.w) X.A (noteFrame e X.env) (fun _ s₂ => wpAny (model X.prog X.w) X.A (setFlight e none) (fun _ s₃ => wpAny (model X.prog X.w) X.A (handleBy e X.env [.ExceptHandler (some (.Name x np)) (some n) (b₀ :: suite) hpos]) (SP X pins En) X.xe s₃) X.xe s₂) X.xe s₁) = Eh
  have hcls : (X.env.scope.kind == .class || (X.env.scope.kind == .module && X.env.locals != X.env.globals)) = false := by rw [I.ok.kind]; rfl
  have ok1 : XOk (tryCx X pins Eh) := ⟨th.top, fun b hb => let ⟨o, q⟩ := th.ex b hb; ⟨o, List.mem_append_left _ q⟩⟩
  have th1 : Thr (tryCx X pins Eh) (fun σ' C H' => ∃ c, C = .ref c ∧ Under X.K c D ∧ ∀ a, H' a = none →
      ts { nx := fun σ2 H2 => En.nx (σ2.set j none) H2, rt := fun _ _ => False } (σ'.set j (some (.ref a))) (upd H' a (exO a c))) := by
    refine ⟨ok1, ?_⟩
    rintro e s1 ⟨a, C, T, σ', H', rfl, I', F', c, rfl, hu, hts⟩
    show Eh (.ref a) s1
    rw [← hEh]
    refine I'.note ok1 F' I'.ok.frames rfl fun h2 t I2 F2 => ?_
    refine I2.flight F2 fun h3 I3 F3 => ?_
    refine caught I3 F3 hg hm hx hbB hu hd (codeAny_handlers_suite_as ?_)
    refine I3.flight F3 fun h4 I4 F4 => ?_
    obtain ⟨o1, o2, o3, o4⟩ := F4.ow a (List.mem_cons_self ..)
    obtain ⟨oe, vs, a0, he, hce, hde, _⟩ := F4.fl
    have hL : a ≠ X.env.locals := fun z => by
      obtain ⟨m, ⟨o', es, ep, ho', hd', _⟩, _⟩ := I4.loc
      have ho'' : h4.get? a = some o' := by rw [z]; exact ho'
      rw [he] at ho''; cases ho''; rw [hde] at hd'; cases hd'
    have hC : ∀ y k, X.env.cells.lookup y = some k → k ≠ a := fun y k e z => by
      obtain ⟨v, o', ho', hd'⟩ := I4.cell y k e
      have ho'' : h4.get? a = some o' := by rw [← z]; exact ho'
      rw [he] at ho''; cases ho''; rw [hde] at hd'; cases hd'
    have I5 := I4.toSuite (a := a) |>.track (o := exO a c) o1 o2 hL hC (fun p hp => o4 p hp) (exO_ok he hce)
    refine store_ok (X := sutCx X pins a) I5 hN hj (.inl hlo) (v := .ref a) rfl (fun s6 I6 => ?_) (.inr hlo)
    refine wpAny_mono (hs pins a [] s6 _ _ _ I6 (hts a o1)) (fun f s7 h7 => ?_) fun _ _ z => z.elim
    cases f with
    | next =>
      obtain ⟨σ7, H7, I7, q⟩ := h7
      show wpAny _ _ (do bindName X.env n .none; unbindBehindTheSuite X.env n hpos) _ _ s7
      have I7' := I7.ofSuite I.ok
      refine wpAny_bind (wpAny_bindName (store_ok (X := X) I7' hN hj (.inl hlo) (v := .non) rfl (fun s8 I8 => ?_) (.inr hlo)))
      unfold unbindBehindTheSuite
      refine wpAny_onRaise ?_
      obtain ⟨m, hn, hl⟩ := id I8.loc
      obtain ⟨u, r, lk⟩ := hl j n .non hj (by rw [List.getElem?_set_self (by rw [I7'.len]; exact (List.getElem?_eq_some_iff.mp hj).1)]) (.inl hlo)
      have hv : m n = some u := by
        rcases lk with ⟨_, e⟩ | ⟨k, _⟩
        · exact e
        · rcases k with k | k <;> (rw [show X.env.kindOf n = some .local from hlo] at k; cases k)
      refine wpAny_unbindName_local hlo hn hv hcls fun h9 u' hn9 hs9 => ?_
      have I9 := I8.unbound (t' := s8.toks) hN hj hn hl hn9 (fun y hy => if_neg hy) hs9
      rw [List.set_set] at I9
      exact ⟨_, _, I9, q⟩
    | brk => obtain ⟨_, _, _, q⟩ := h7; exact q.elim
    | cont => obtain ⟨_, _, _, q⟩ := h7; exact q.elim
    | ret v => obtain ⟨_, _, _, _, _, q⟩ := h7; exact q.elim
  refine wpAny_mono (hb pins Eh _ th1 [] s σ H En I.toTry h) (fun f s1 h1 => ?_) fun _ _ z => z
  cases f with
  | next => obtain ⟨σ5, H5, I5, q⟩ := h1; exact wpAny_execs_nil ⟨σ5, H5, I5.ofTry, q⟩
  | brk => obtain ⟨σ5, H5, I5, q⟩ := h1; exact ⟨σ5, H5, I5.ofTry, q⟩
  | cont => obtain ⟨σ5, H5, I5, q⟩ := h1; exact ⟨σ5, H5, I5.ofTry, q⟩
  | ret v => obtain ⟨v', σ5, H5, I5, r, q⟩ := h1; exact ⟨v', σ5, H5, I5.ofTry, r, q⟩
end
end L2

set_option Elab.async false
set_option linter.all false
set_option maxRecDepth 100000
/-! More rules: signs of a text walked, isinstance, all, int, join, split, texts cut. -/
namespace L2
open PySem PySem.Spec PyProof.Rows

/-! ### the signs of a text -/
def Its (x : Str) : It := ⟨fun i _ => i < x.length, fun i H v H' => H' = H ∧ ∃ c, x.cps.toList[i]? = some c ∧ v = .str ⟨#[c]⟩, fun i _ => x.length ≤ i⟩
theorem turn_ascii {P : Program} {w : World} {K : PySem.W.Frag} {tg : Expr} (it : Addr) (x : Str) (t : Tok) : Turn P w K tg (Its x) [it] it (fun i h => h.IsStrIter it "str_ascii_iterator" x t i) where
  mem := by simp
  obj := fun i h st b hb => by
    have e : b = it := by simpa using hb
    subst e
    obtain ⟨o, e, c, d⟩ := st
    exact ⟨o, e, fun v z => by rw [d] at z; cases z⟩
  keep := fun i h h' st k => let ⟨o, e, r⟩ := st; ⟨o, k it (by simp) o e, r⟩
  item := by
    intro X hP hw hK hc i pins s σ H E I hf st hg
    subst hP hw hK
    obtain ⟨f0, f1, f2, f3, f4, f5⟩ := hf it (by simp)
    have hg' : i < x.cps.size := hg
    refine wpAny_pyNext_ascii_item st (c := x.cps[i]) (by simp [hg']) fun h' st' sb => ?_
    have I1 : Inv X pins σ H { s with heap := h', toks := s.toks + 1 } := I.turned (fun b o hb e => (sb.2 b hb).trans e) f0 f1 f3 f4 f5
    obtain ⟨o, e, c, d⟩ := id st'
    exact ⟨_, rfl, go_of (s := { s with heap := h', toks := s.toks + 1 }) e c d (by decide) ⟨.str ⟨#[x.cps[i]]⟩, H, I1, ⟨_, rfl⟩, ⟨rfl, x.cps[i], by simp [hg'], rfl⟩, st', fun b hb => (hf b hb).1⟩⟩
  done := by
    intro X hP hw hK hc i pins s σ H E I hf st hg
    subst hP hw hK
    obtain ⟨f0, f1, f2, f3, f4, f5⟩ := hf it (by simp)
    have hg' : x.cps.size ≤ i := hg
    exact wpAny_pyNext_ascii_end (I.ok.hd hc) st (by simp [hg']) fun h' eb => ⟨rfl, I.turned (t' := s.toks) (fun b o hb e => eb b o hb e) f0 f1 f3 f4 f5⟩
  self := fun _ _ _ _ _ st h => wpAny_pyIter_striter_ascii st h
theorem turn_wide {P : Program} {w : World} {K : PySem.W.Frag} {tg : Expr} (it : Addr) (x : Str) (t : Tok) : Turn P w K tg (Its x) [it] it (fun i h => h.IsStrIter it "str_iterator" x t i) where
  mem := by simp
  obj := fun i h st b hb => by
    have e : b = it := by simpa using hb
    subst e
    obtain ⟨o, e, c, d⟩ := st
    exact ⟨o, e, fun v z => by rw [d] at z; cases z⟩
  keep := fun i h h' st k => let ⟨o, e, r⟩ := st; ⟨o, k it (by simp) o e, r⟩
  item := by
    intro X hP hw hK hc i pins s σ H E I hf st hg
    subst hP hw hK
    obtain ⟨f0, f1, f2, f3, f4, f5⟩ := hf it (by simp)
    have hg' : i < x.cps.size := hg
    refine wpAny_pyNext_wide_item st (c := x.cps[i]) (by simp [hg']) fun h' st' sb => ?_
    have I1 : Inv X pins σ H { s with heap := h', toks := s.toks + 1 } := I.turned (fun b o hb e => (sb.2 b hb).trans e) f0 f1 f3 f4 f5
    obtain ⟨o, e, c, d⟩ := id st'
    exact ⟨_, rfl, go_of (s := { s with heap := h', toks := s.toks + 1 }) e c d (by decide) ⟨.str ⟨#[x.cps[i]]⟩, H, I1, ⟨_, rfl⟩, ⟨rfl, x.cps[i], by simp [hg'], rfl⟩, st', fun b hb => (hf b hb).1⟩⟩
  done := by
    intro X hP hw hK hc i pins s σ H E I hf st hg
    subst hP hw hK
    obtain ⟨f0, f1, f2, f3, f4, f5⟩ := hf it (by simp)
    have hg' : x.cps.size ≤ i := hg
    exact wpAny_pyNext_wide_end (I.ok.hd hc) st (by simp [hg']) fun h' eb => ⟨rfl, I.turned (t' := s.toks) (fun b o hb e => eb b o hb e) f0 f1 f3 f4 f5⟩
  self := fun _ _ _ _ _ st h => wpAny_pyIter_striter_wide st h
def iStr (tl : TE) : TI := fun σ H R => tl σ H fun v H1 => ∃ x, v = .str x ∧ R (Its x) H1
section
variable {X : Cx} {tg : Expr}
theorem pi_str {l : Expr} {tl : TE} (hl : PE X l tl) : PI X tg l (iStr tl) := by
  intro pins s σ H R I h
  refine thn (hl pins s σ H _ I h) fun v s1 ⟨y, H1, I1, r1, q1⟩ => ?_
  obtain ⟨x, e, q⟩ := q1
  subst e
  obtain ⟨t, rfl⟩ := r1
  have fp : ∀ b ∈ [s1.heap.objs.size], FpOk X pins H1 b := fun b hb => by
    have e : b = s1.heap.objs.size := by simpa using hb
    subst e
    exact I1.fpOk (Nat.le_refl _) (I1.hok.fresh (Nat.le_refl _))
  cases ha : x.cps.all (· < 128) with
  | false =>
    refine wpAny_pyIter_wide ha ?_
    exact ⟨s1.heap.objs.size, [s1.heap.objs.size], _, _, H1, rfl, I1.kept (t' := s1.toks) fun b o e => Heap.get?_push_of_some _ e, turn_wide _ x t, ⟨_, Heap.get?_push_size _ rfl, rfl, rfl⟩, fp, q⟩
  | true =>
    refine wpAny_pyIter_ascii ha ?_
    exact ⟨s1.heap.objs.size, [s1.heap.objs.size], _, _, H1, rfl, I1.kept (t' := s1.toks) fun b o e => Heap.get?_push_of_some _ e, turn_ascii _ x t, ⟨_, Heap.get?_push_size _ rfl, rfl, rfl⟩, fp, q⟩

/-! ### isinstance, all, int -/
theorem call_isinst : CallR X (.builtin "isinstance") (fun xs H Q => ∃ x t n b, xs = [x, .ty n] ∧ TyOf X.K H x t ∧ PySem.W.kitOne X.K t (.type n) = some b ∧ Q (.bl b) H) := by
  intro pins s σ H xs us Q I r h
  obtain ⟨x, t, n, b, rfl, ty, e, q⟩ := h
  obtain ⟨u, w', rfl, rx, rw'⟩ := vals2 r
  cases (show w' = Value.type n from rw')
  exact isinst_ok I rx ty e fun tk => ⟨.bl b, H, I.tok _, rfl, q⟩
theorem bools_of : ∀ {bs : List Bool} {us : List Value}, Vals (bs.map V.bl) us → PyProof.Rows.LSm.BoolsAre us bs
  | [], _, r => by cases r; exact .nil
  | b :: bs, _, r => by
    cases r with
    | cons r1 r2 => cases (show _ = Value.bool b from r1); exact .cons b (bools_of r2)
theorem call_all (hc : X.calm = true) : CallR X (.builtin "all") (fun xs H Q => ∃ (p : Addr) (bs : List Bool), xs = [.ref p] ∧ SqL X.K H p (bs.map V.bl) ∧ Q (.bl (bs.all id)) H) := by
  intro pins s σ H xs us Q I r h
  obtain ⟨p, bs, rfl, hq, q⟩ := h
  obtain ⟨u, rfl, ru⟩ := vals1 r
  cases ru
  obtain ⟨its, rv, pl, hz⟩ := I.list hq
  have hb := bools_of rv
  have hl : s.heap.IsList p its.toArray := pl.isList
  have hlt : p < s.heap.objs.size := by obtain ⟨_, e, _⟩ := hl; exact Heap.lt_size e
  refine call_all_walk (wpAny_pyIter_list hl ?_)
  refine ⟨s.heap.objs.size, [s.heap.objs.size, p], [s.heap.objs.size], its.toArray.size, _, _, fun i => (bs[i]?).getD true, rfl, Walks.list (A := X.A.in1) (I.ok.hd hc) _ p (Nat.ne_of_lt hlt) its.toArray,
    ⟨⟨_, Heap.get?_push_size _ rfl, rfl, rfl⟩, hl.push _⟩, fun i v s' Q' E' hP hQ => ?_, fun h' tk hk => ?_⟩
  · obtain ⟨b, e, rfl⟩ := hb.get i v (by simpa using hP)
    simp only [e, Option.getD_some] at hQ
    exact wpAny_truthy_bool hQ
  · have e : ((List.range its.toArray.size).all fun i => (bs[i]?).getD true) = bs.all id := by
      rw [List.size_toArray, hb.length]; exact PyProof.Rows.LSm.range_all bs
    rw [e]
    exact ⟨.bl (bs.all id), H, I.kept (PyProof.Rows.LSm.kept_iter hk), rfl, q⟩
theorem call_intS : CallR X (.type "int") (fun xs H Q => ∃ x n, xs = [.str x] ∧ PySem.intText? x = some n ∧ x.length ≤ 640 ∧ Q (.int n) H) := by
  intro pins s σ H xs us Q I r h
  obtain ⟨x, n, rfl, hn, hl, q⟩ := h
  obtain ⟨u, rfl, t, rfl⟩ := vals1 r
  exact PySem.W.KIN.call_text hn hl ⟨.int n, H, I.tok _, ⟨_, rfl⟩, q⟩

/-! ### join, split -/
theorem strs_of : ∀ {ys : List Str} {us : List Value}, Vals (ys.map V.str) us → StrsAre us ys
  | [], _, r => by cases r; exact .nil
  | y :: ys, _, r => by
    cases r with
    | cons r1 r2 => obtain ⟨t, rfl⟩ := r1; exact .cons y t (strs_of r2)
theorem mt_join : MtR X "str.join" (fun x vs H Q => ∃ (sep : Str) (p : Addr) (ys : List Str), x = .str sep ∧ vs = [.ref p] ∧ SqL X.K H p (ys.map V.str) ∧ (ys.map (·.length)).sum + ys.length * sep.length ≤ 16777216 ∧ Q (.str (Txt.join sep ys)) H) := by
  intro pins s σ H x xs v us Q I rx rs h
  obtain ⟨sep, p, ys, rfl, rfl, hq, hz, q⟩ := h
  obtain ⟨t, rfl⟩ := rx
  obtain ⟨u, rfl, ru⟩ := vals1 rs
  cases ru
  obtain ⟨its, rv, pl, _⟩ := I.list hq
  exact join_list pl.isList (by simpa using strs_of rv) hz fun t' k => ⟨.str _, H, I.tok _, ⟨_, rfl⟩, q⟩
open Builtin Builtin.Str in
theorem split_new {prog : Program} {w : World} {A : Around} {E : Value → Shared → Prop} {s : Shared} {x y : Str} {t u : Tok} {Q : Value → Shared → Prop} (hy : (y.length == 0) = false)
    (hq : ∀ l k, l.map (·.1) = Txt.split x y → Q (.ref s.heap.objs.size) { s with heap := s.heap.push { cls := .type "list", data := .seq (strValues l).toArray }, toks := k })
    (hsz : x.length ≤ sizeLine) (hsz2 : (partsBetween x (occurrences x y 0 x.length (x.length + 1)) y.length).length ≤ sizeLine) :
    wpAny (model prog w) A (call (.builtin "str.split") [.str x t, .str y u]) Q E s := by
  cases h1 : (decide (x.length < y.length) || decide (strKind x < strKind y))
  · cases hf : (occurrences x y 0 x.length (x.length + 1)).isEmpty
    · refine call_meets F.slot_str_split (typeIs_str _ _ _) F.entry_str_split (F.args_str_split_2 _ _) (meets_str_split_sep x y t u h1 hy hf hsz hsz2) ?_
      show wants Q E _ { s with toks := _, heap := s.heap.push { cls := .type "list", data := .seq (strsFrom s.toks (partsBetween x (occurrences x y 0 x.length (x.length + 1)) y.length)).toArray } }
      rw [strsFrom_eq]
      exact hq (numbered s.toks _) _ ((numbered_texts _ _).trans ((if_neg (ne_true_of_eq_false h1)).trans (if_neg (ne_true_of_eq_false hf))).symm)
    · exact call_meets F.slot_str_split (typeIs_str _ _ _) F.entry_str_split (F.args_str_split_2 _ _) (meets_str_split_not_found x y t u h1 hy hf)
        (hq [(x, t)] s.toks ((if_neg (ne_true_of_eq_false h1)).trans (if_pos hf)).symm)
  · exact call_meets F.slot_str_split (typeIs_str _ _ _) F.entry_str_split (F.args_str_split_2 _ _) (meets_str_split_cannot_occur x y t u h1)
      (hq [(x, t)] s.toks (if_pos h1).symm)
theorem vals_strs : ∀ (l : List (Str × Tok)), Vals ((l.map (·.1)).map V.str) (strValues l)
  | [] => .nil
  | (x, t) :: r => .cons ⟨t, rfl⟩ (vals_strs r)
open Builtin Builtin.Str in
theorem mt_split : MtR X "str.split" (fun x vs H Q => ∃ z y, x = .str z ∧ vs = [.str y] ∧ (y.length == 0) = false ∧ z.length ≤ sizeLine ∧ (partsBetween z (occurrences z y 0 z.length (z.length + 1)) y.length).length ≤ sizeLine ∧ (Txt.split z y).length ≤ sizeLine ∧
    ∀ p, H p = none → Q (.ref p) (upd H p (.lst ((Txt.split z y).map V.str)))) := by
  intro pins s σ H x xs v us Q I rx rs h
  obtain ⟨z, y, rfl, rfl, hy, hz, hz2, hz3, q⟩ := h
  obtain ⟨t, rfl⟩ := rx
  obtain ⟨u, rfl, t', rfl⟩ := vals1 rs
  refine split_new hy (fun l k hl => ?_) hz hz2
  have hn : H s.heap.objs.size = none := I.hok.fresh (Nat.le_refl _)
  refine ⟨.ref s.heap.objs.size, _, ?_, rfl, q _ hn⟩
  refine I.laid (fun b o e => Heap.get?_push_of_some _ e) (Nat.le_refl _) ⟨by rw [List.length_map]; exact hz3, strValues l, 0, by rw [← hl]; exact vals_strs l, Heap.get?_push_size _ rfl⟩
end
end L2

set_option Elab.async false
set_option linter.all false
set_option maxRecDepth 100000
/-! replace with two written texts: asks that a token has been made; so a def with a parameter, its first statement. -/
namespace L2
open PySem PySem.Spec PyProof.Rows

def PET (X : Cx) (e : Expr) (t : TE) : Prop :=
  ∀ (pins : List (Addr × Obj)) (s : Shared) (σ : St) (H : Hp) (Q : VK), Inv X pins σ H s → 0 < s.toks → t σ H Q → wpAny (model X.prog X.w) X.A (eval e X.env) (EP X pins σ Q) X.xe s
def PST (X : Cx) (st : Stmt) (t : TS) : Prop :=
  ∀ (pins : List (Addr × Obj)) (s : Shared) (σ : St) (H : Hp) (D : Ends), Inv X pins σ H s → 0 < s.toks → t D σ H → wpAny (model X.prog X.w) X.A (exec st X.env) (SP X pins D) X.xe s
def PSsT (X : Cx) (st : List Stmt) (t : TS) : Prop :=
  ∀ (pins : List (Addr × Obj)) (s : Shared) (σ : St) (H : Hp) (D : Ends), Inv X pins σ H s → 0 < s.toks → t D σ H → wpAny (model X.prog X.w) X.A (execs st X.env) (SP X pins D) X.xe s
def tRepl (to : TE) (c d : Str) : TE := fun σ H Q => to σ H fun x H1 => ∃ z, x = .str z ∧ z.length + (z.length + 1) * d.length ≤ 16777216 ∧ Q (.str (Txt.replace z c d)) H1
section
variable {X : Cx} {e o : Expr} {t to : TE} {st : Stmt} {rest : List Stmt} {tS u : TS} {apos cpos pos p1 p2 : Pos} {c d : Str} {k1 k2 : Nat}
theorem PE.pet (h : PE X e t) : PET X e t := fun pins s σ H Q I _ q => h pins s σ H Q I q
theorem pet_replace (ho : PET X o to) (hcd : (c == d) = false) (hbase : attributeBase o "replace" X.env (eval o X.env) = eval o X.env := by rfl)
    (hfew : ((backTo cpos (starEach [.Constant (.str c) k1 p1, .Constant (.str d) k2 p2] X.env)).all (fun x => !x.1) && (backToKw cpos (keywordEach [] X.env)).all (fun x => x.1.isSome)
      && decide (([.Constant (.str c) k1 p1, .Constant (.str d) k2 p2] : List Expr).length + ([] : List Keyword).length + (if ([] : List Keyword).isEmpty then 0 else 1) < 30)) = true := by rfl)
    (hline : (apos.endLine == cpos.line) = true := by rfl) :
    PET X (.Call (.Attribute o "replace" apos) [.Constant (.str c) k1 p1, .Constant (.str d) k2 p2] [] cpos) (tRepl to c d) := by
  intro pins s σ H Q I h0 h
  refine wpAny_Call_method_late hbase hfew hline rfl (wpAny_mono (wpAny_toks (ho pins s σ H _ I h0 h)) (fun v s1 h1 => ?_) fun _ _ y => y)
  obtain ⟨⟨x, H1, I1, r1, z, rfl, hz, q⟩, ht⟩ := h1
  obtain ⟨tk, rfl⟩ := r1
  have h1 : 0 < s1.toks := Nat.lt_of_lt_of_le h0 ht
  refine ⟨"str", "str.replace", PySem.F.plainAttrs_str, PySem.F.slot_str_replace, PySem.F.type_str_replace, typeIs_str _ _ _, (fun _ e => nomatch e), ?_⟩
  refine Calls.callWith_builtin rfl (Calls.evalArgs_plain ?_)
  refine spliced_more (Calls.Constant_str (spliced_more (Calls.Constant_str (spliced_none ?_))))
  refine SC.replace (by show s1.toks ≠ 0; omega) (by show s1.toks + 1 ≠ 0; omega) (by show s1.toks ≠ s1.toks + 1; omega) hcd hz fun t' k => ?_
  exact ⟨.str _, H1, I1.tok _, ⟨_, rfl⟩, q⟩
theorem pst_set {i : Nat} {x : Str} {pos' : Pos} (hN : X.N.Nodup) (hi : X.N[i]? = some x) (hx : Loc X.env.scope x) (he : PET X e t) (hs : swapsWith e (some (.Name x pos')) pos.line X.env = pure false := by rfl) (hf : X.fn x = true ∨ X.env.scope.names.lookup x = some .local := by first | exact .inl rfl | exact .inr rfl | assumption) :
    PST X (.Assign [.Name x pos'] e pos) (tAsg t (gName i)) := by
  intro pins s σ H D I h0 h
  refine wpAny_Assign_Name (thn (he pins s σ H _ I h0 h) fun v s1 ⟨y, H1, I1, r1, q1⟩ => ?_) hs
  exact store_ok I1 hN hi hx r1 (fun s2 I2 => ⟨_, H1, I2, q1⟩) hf
theorem psst_cons (h1 : PST X st tS) (h2 : PSs X rest u) : PSsT X (st :: rest) (tSeq tS u) := by
  intro pins s σ H D I h0 h
  refine wpAny_execs_cons (thn (h1 pins s σ H { D with nx := u D } I h0 h) fun f s1 q => ?_)
  cases f with
  | next =>
    obtain ⟨σ', H', I', q⟩ := q
    exact h2 pins s1 σ' H' D I' q
  | ret v => exact q
  | brk => exact q
  | cont => exact q
end

theorem cellsFrom_none : ∀ {names : List (Str × NameKind)} {n : Nat}, (∀ y ∈ names, y.2 ≠ .cell) → cellsFrom n names [] = []
  | [], _, _ => rfl
  | (x, k) :: r, n, h => by
    have hk : k ≠ .cell := h (x, k) (List.mem_cons_self ..)
    have ih := cellsFrom_none (names := r) (n := n) fun y hy => h y (List.mem_cons_of_mem _ hy)
    unfold cellsFrom
    simp only [beq_iff_eq, hk, if_false]
    exact ih
theorem bindL_rev {kindOf : Str → Option NameKind} {x : Str} : ∀ {binds : List (Str × Value)} {m : Str → Option Value}, (∀ y ∈ binds, kindOf y.1 = some .local) → bindL kindOf binds m x = (binds.reverse.lookup x).or (m x)
  | [], _, _ => by simp [bindL]
  | (n, v) :: r, m, h => by
    unfold bindL
    rw [bindL_rev fun y hy => h y (List.mem_cons_of_mem _ hy), if_pos (h (n, v) (List.mem_cons_self ..)), List.reverse_cons, List.lookup_append, Option.or_assoc]
    congr 1
    by_cases e : x = n
    · subst e; simp [List.lookup]
    · have : (x == n) = false := by simpa using e
      simp [List.lookup, this, e]

/-- fn_of for a def without cells and with a parameter: at its body's start a token has been made -/
theorem fn_ofT {CX : CXT} {P : Program} {w : World} {K : PySem.W.Frag} {mg : Str → Option Value} {base : Heap} {k : Nat} {f : Addr} {name qual : Str} {params : Arguments} {body : List Stmt} {scope : Scope} {dV kV doc pm cdv ct oc : Value} {an od : Option Addr}
    {osl : Array (Option Value)} {N ps : List Str} {sp : Sp} (lk : K.lookup f = some ⟨oc, od, .func (PySem.W.fnOf name qual params body scope dV kV doc pm an cdv ct), osl⟩) (hcd : PySem.W.codeIn K cdv qual = true) (S : FnScope N ps scope)
    (nocell : ∀ y ∈ scope.names, y.2 ≠ .cell) (hps : ps ≠ [])
    (len : ∀ vs H Q E, sp vs H Q E → vs.length = ps.length)
    (hbody : ∀ (A : Around) (outer : List Env) (s : Shared) (H : Hp) (vs : List V) (Q : VK) (E : XK), Room k (A.deeper (envOfC qual scope s.heap.objs.size f cdv)) → sp vs H Q E →
      ∃ t, PSsT (cxOf CX P w K mg base N qual scope f cdv A outer s H E) body t ∧ t { nx := fun _ H' => Q .non H', rt := Q } (start N vs) H) :
    FnOk P w K mg base CX (k + 1) f (PySem.W.fnOf name qual params body scope dV kV doc pm an cdv ct) ps sp := by
  refine ⟨len, fun A outer s H args us vs Q E hr e0 hb r hsp => ?_⟩
  have hl := len _ _ _ _ hsp
  have KX : K.In s.heap := e0.mod.kin.keeps fun b o e => (e0.bs b o e).1
  have lim : s.heap.NoLimit := e0.mod.nolimit.keeps fun b o e => (e0.bs b o e).1
  have hkind : ∀ y ∈ ps.zip us, scope.names.lookup y.1 = some .local := fun ⟨n, v⟩ hy => by
    rcases S.par n (List.of_mem_zip hy).1 with q | q
    · exact q
    · exact absurd rfl (nocell _ (PySem.mem_of_lookup q))
  have hkind' : ∀ y ∈ ps.zip us, scope.names.lookup y.1 = some .local ∨ (scope.names.lookup y.1 = some .cell ∧ ((cellsFrom (s.heap.objs.size + 1) scope.names []).lookup y.1).isSome = true) := fun y hy => .inl (hkind y hy)
  refine codeAny_call_function hr.depth (KX _ _ lk) rfl S.co S.gen rfl (PySem.W.codeRec_of KX hcd) (hb _ _ _ _ ?_)
  refine wpAny_newFunctionEnv nocell hkind (fun h1 hns hsb => ?_) S.kind
  have zl : (ps.zip us).length = ps.length := by
    rw [List.length_zip]
    have := r.length
    omega
  have h0 : 0 < ({ s with heap := h1, toks := s.toks + (ps.zip us).length } : Shared).toks := by
    have z2 : 0 < ps.length := List.length_pos_iff.mpr hps
    show 0 < s.toks + (ps.zip us).length
    omega
  have hcs : cellsFrom (s.heap.objs.size + 1) scope.names [] = [] := cellsFrom_none nocell
  have ef : (bindL (envOfC qual scope s.heap.objs.size f cdv).kindOf (ps.zip us) fun _ => none) = fun x => (ps.zip us).reverse.lookup x := by
    funext x
    rw [bindL_rev (fun y hy => hkind y hy)]
    cases (ps.zip us).reverse.lookup x <;> rfl
  have x : InCallC s s.heap.objs.size (bindL (envOfC qual scope s.heap.objs.size f cdv).kindOf (ps.zip us) fun _ => none) (cellsFrom (s.heap.objs.size + 1) scope.names []) (bindC (envOfC qual scope s.heap.objs.size f cdv).kindOf (ps.zip us) fun _ => none)
      { s with heap := h1, toks := s.toks + (ps.zip us).length } := by
    rw [hcs, ef]
    refine ⟨⟨⟨h1, _, rfl⟩, hns, fun b o e => ?_, Nat.le_refl _⟩, fun n c q => by simp at q, List.Pairwise.nil, fun n c q => by simp at q⟩
    exact (hsb.2 b (Nat.ne_of_lt (Heap.lt_size e))).trans (Heap.get?_push_of_some _ e)
  have eE : newEnv scope s.heap.objs.size mainGlobals [] (qual ++ ".<locals>.") (some f) cdv none builtinsNs = envOfC qual scope s.heap.objs.size f cdv := by
    unfold envOfC newEnv
    rw [hcs]
  generalize hfd : PySem.W.fnOf name qual params body scope dV kV doc pm an cdv ct = fd
  have eF : newEnv fd.scope s.heap.objs.size fd.globals fd.closure (fd.qualname ++ ".<locals>.") (some f) fd.code none fd.builtins = envOfC qual scope s.heap.objs.size f cdv := by
    rw [← hfd]
    exact eE
  rw [eF]
  generalize hs1 : ({ s with heap := h1, toks := s.toks + (ps.zip us).length } : Shared) = s1 at h0 x ⊢
  refine ⟨lim.keeps x.toInCall.keep, codeAny_func ?_⟩
  obtain ⟨t, ht, hq⟩ := hbody A outer s H vs Q E (hr.deeper _) hsp
  have I : Inv (cxOf CX P w K mg base N qual scope f cdv A outer s H E) [] (start N vs) H s1 := inv_start S hr.hd e0 hl r x
  refine wpAny_mono (ht [] s1 (start N vs) H _ I h0 hq) (fun fl s' hs => ?_) fun e s' hs => hs
  have fin : ∀ {σ' : St} {H' : Hp} {v : V} {u : Value}, Inv (cxOf CX P w K mg base N qual scope f cdv A outer s H E) [] σ' H' s' → RelV v u → Q v H' → CE outer P w H s Q u s' :=
    fun {σ' H' v u} J rv q => ⟨v, H', J.os, J.bare, J.base, J.hok, rv, q⟩
  cases fl with
  | ret u =>
    obtain ⟨v, σ', H', J, rv, q⟩ := hs
    exact fin J rv q
  | next =>
    obtain ⟨σ', H', J, q⟩ := hs
    exact fin (v := V.non) (u := Value.none) J rfl q
  | brk =>
    obtain ⟨_, _, _, q⟩ := hs
    exact False.elim q
  | cont =>
    obtain ⟨_, _, _, q⟩ := hs
    exact False.elim q
end L2

set_option Elab.async false
set_option linter.all false
set_option maxRecDepth 100000
/-! The forms one uses: comprehensions by an invariant, defs that may raise. -/
namespace L2
open PySem PySem.Spec PyProof.Rows

/-- an iterator that walks xs and leaves the heap as it is, where Pv holds -/
structure Walk (J : It) (xs : List V) (Pv : Hp → Prop) : Prop where
  stop : ∀ H, Pv H → J.stop xs.length H
  go : ∀ i H, i < xs.length → Pv H → J.go i H
  yld : ∀ i H x H', i < xs.length → Pv H → J.yld i H x H' → H' = H ∧ xs[i]? = some x
theorem walk_str (x : Str) (Pv : Hp → Prop) : Walk (Its x) (x.cps.toList.map fun c => V.str ⟨#[c]⟩) Pv where
  stop := fun H _ => by show x.length ≤ _; simp [Str.length]
  go := fun i H hi _ => by show i < x.length; simpa [Str.length] using hi
  yld := fun i H v H' _ _ h => by
    obtain ⟨e, c, hc, rfl⟩ := h
    exact ⟨e, by rw [List.getElem?_map, hc]; rfl⟩
theorem walk_lst {K : PySem.W.Frag} {a : Addr} {xs : List V} {Pv : Hp → Prop} (h : ∀ H, Pv H → SqL K H a xs) : Walk (Itl K a) xs Pv where
  stop := fun H p => ⟨xs, h H p, Nat.le_refl _⟩
  go := fun i H hi p => ⟨xs, xs[i], h H p, by simp [hi]⟩
  yld := fun i H v H' _ p q => ⟨q.1, q.2 xs (h H p)⟩
theorem walk_tup {K : PySem.W.Frag} {a : Addr} {xs : List V} {Pv : Hp → Prop} (h : ∀ H, Pv H → SqT K H a xs) : Walk (Itt K a) xs Pv where
  stop := fun H p => ⟨xs, h H p, Nat.le_refl _⟩
  go := fun i H hi p => ⟨xs, xs[i], h H p, by simp [hi]⟩
  yld := fun i H v H' _ p q => ⟨q.1, q.2 xs (h H p)⟩
theorem walk_rng {lo : Int} {n : Nat} {Pv : Hp → Prop} : Walk (Itr lo n) ((List.range n).map fun k => V.int (lo + (k : Nat))) Pv where
  stop := fun H _ => by show n ≤ _; simp
  go := fun i H hi _ => by show i < n; simpa using hi
  yld := fun i H v H' hi _ q => by
    have hi' : i < n := by simpa using hi
    obtain ⟨e, rfl⟩ := q
    exact ⟨e, by rw [List.getElem?_map, List.getElem?_range hi']; rfl⟩

/-- a comprehension by an invariant: the turn's number, the items so far, the heap -/
theorem comp_by {J : It} {xs : List V} {cap : List (Option Nat)} {σ : St} {H1 : Hp} {g : TG} {tf : TT} {te : TE} {Q : VK} (Pv : Nat → List V → Hp → Prop) (wk : Walk J xs (fun H => ∃ i ys, Pv i ys H)) (h0 : Pv 0 [] H1)
    (hlen : ∀ i ys H, i < xs.length → Pv i ys H → ys.length < sizeLine)
    (step : ∀ i x ys H2 (R1 : VK) (R2 : Hp → Prop), xs[i]? = some x → Pv i ys H2 → (∀ y H6, Pv (i + 1) (ys ++ [y]) H6 → R1 y H6) → (∀ H5, Pv (i + 1) ys H5 → R2 H5) →
      g x (capσ cap σ) H2 fun σ4 H4 => Weak (capσ cap σ) σ4 ∧ tf σ4 H4 fun b H5 => if b = true then te σ4 H5 R1 else R2 H5)
    (fin : ∀ ys H2, Pv xs.length ys H2 → ys.length ≤ sizeLine ∧ ∀ q, H2 q = none → Q (.ref q) (upd H2 q (.lst ys))) :
    CompR J H1 cap σ g tf te Q := by
  refine ⟨fun i m ys H => m = xs.length - i ∧ i ≤ xs.length ∧ Pv i ys H, ⟨xs.length, by simp, Nat.zero_le _, h0⟩, ?_⟩
  rintro i m ys H ⟨rfl, hi, p⟩
  by_cases hlt : i < xs.length
  · refine .inr ⟨wk.go i H hlt ⟨i, ys, p⟩, hlen i ys H hlt p, fun x H3 y => ?_⟩
    obtain ⟨e, hx⟩ := wk.yld i H x H3 hlt ⟨i, ys, p⟩ y
    subst e
    exact step i x ys _ _ _ hx p (fun y H6 p6 => ⟨xs.length - (i + 1), by omega, rfl, hlt, p6⟩) fun H5 p5 => ⟨xs.length - (i + 1), by omega, rfl, hlt, p5⟩
  · have e : i = xs.length := by omega
    subst e
    obtain ⟨z, q⟩ := fin ys H p
    exact .inl ⟨wk.stop H ⟨_, ys, p⟩, z, q⟩
/-- .. whose item and test are functions of what is walked; the heap's word Pv stays -/
theorem comp_map {J : It} {xs : List V} {cap : List (Option Nat)} {σ : St} {H1 : Hp} {g : TG} {tf : TT} {te : TE} {Q : VK} (f : V → V) (p : V → Bool) (Pv : Hp → Prop) (wk : Walk J xs Pv) (h0 : Pv H1) (hlen : xs.length ≤ sizeLine)
    (step : ∀ x H2 (R1 : VK) (R2 : Hp → Prop), x ∈ xs → Pv H2 → (∀ H6, Pv H6 → p x = true → R1 (f x) H6) → (∀ H5, Pv H5 → p x = false → R2 H5) →
      g x (capσ cap σ) H2 fun σ4 H4 => Weak (capσ cap σ) σ4 ∧ tf σ4 H4 fun b H5 => if b = true then te σ4 H5 R1 else R2 H5)
    (fin : ∀ H2, Pv H2 → ∀ q, H2 q = none → Q (.ref q) (upd H2 q (.lst ((xs.filter p).map f)))) :
    CompR J H1 cap σ g tf te Q := by
  have len : ∀ i, ((xs.take i).filter p).length ≤ min i xs.length := fun i => Nat.le_trans (List.length_filter_le ..) (by rw [List.length_take]; exact Nat.le_refl _)
  refine comp_by (fun i ys H => ys = ((xs.take i).filter p).map f ∧ Pv H) ⟨fun H ⟨_, _, q⟩ => wk.stop H q.2, fun i H hi ⟨_, _, q⟩ => wk.go i H hi q.2, fun i H x H' hi ⟨_, _, q⟩ y => wk.yld i H x H' hi q.2 y⟩ ⟨by simp, h0⟩ ?_ ?_ ?_
  · rintro i ys H hi ⟨rfl, _⟩
    rw [List.length_map]
    have := len i
    omega
  · rintro i x ys H2 R1 R2 hx ⟨rfl, q⟩ r1 r2
    have hm : x ∈ xs := List.mem_of_getElem? hx
    have et : xs.take (i + 1) = xs.take i ++ [x] := by rw [List.take_add_one, hx]; rfl
    refine step x H2 R1 R2 hm q (fun H6 p6 hp => r1 _ H6 ⟨?_, p6⟩) fun H5 p5 hp => r2 H5 ⟨?_, p5⟩
    · rw [et, List.filter_append, List.map_append, show [x].filter p = [x] by simp [hp]]; rfl
    · rw [et, List.filter_append, show [x].filter p = [] by simp [hp], List.append_nil]
  · rintro ys H2 ⟨rfl, q⟩
    rw [List.take_length]
    exact ⟨by rw [List.length_map]; exact Nat.le_trans (List.length_filter_le ..) hlen, fun r hr => fin H2 q r hr⟩

section
variable {P : Program} {w : World} {K : PySem.W.Frag} {mg : Str → Option Value} {base : Heap}
/-- THE RULE for a def that may raise -/
theorem Fun.okX {x qual : Str} {st : Stmt} {f : Addr} {fd : FuncData} {N ps : List Str} {k : Nat} {sp : Sp} (F : Fun K x qual st f fd) (S : FnScope N ps (defScope st)) (len : ∀ vs H Q E, sp vs H Q E → vs.length = ps.length)
    (hbody : ∀ (cdv : Value) (A : Around) (outer : List Env) (s : Shared) (H : Hp) (vs : List V) (Q : VK) (E : XK), Room k (A.deeper (envOfC qual (defScope st) s.heap.objs.size f cdv)) → sp vs H Q E →
      ∃ t, PSs (cxOf (CXs P w) P w K mg base N qual (defScope st) f cdv A outer s H E) (defBody st) t ∧ t { nx := fun _ H' => Q .non H', rt := Q } (start N vs) H) : FnOk P w K mg base (CXs P w) (k + 1) f fd ps sp := by
  obtain ⟨oc, od, kV, doc, pm, an, cdv, ct, osl, rfl, lk, hcd⟩ := F.ex
  exact fn_of lk hcd S len fun A outer s H vs Q E hr hsp => hbody cdv A outer s H vs Q E hr hsp
/-- .. whose first statement asks for a token -/
theorem Fun.okT {x qual : Str} {st : Stmt} {f : Addr} {fd : FuncData} {N ps : List Str} {k : Nat} {sp : Sp} (F : Fun K x qual st f fd) (S : FnScope N ps (defScope st)) (nocell : ∀ y ∈ (defScope st).names, y.2 ≠ .cell) (hps : ps ≠ []) (len : ∀ vs H Q E, sp vs H Q E → vs.length = ps.length)
    (hbody : ∀ (cdv : Value) (A : Around) (outer : List Env) (s : Shared) (H : Hp) (vs : List V) (Q : VK) (E : XK), Room k (A.deeper (envOfC qual (defScope st) s.heap.objs.size f cdv)) → sp vs H Q E →
      ∃ t, PSsT (cxOf (CXs P w) P w K mg base N qual (defScope st) f cdv A outer s H E) (defBody st) t ∧ t { nx := fun _ H' => Q .non H', rt := Q } (start N vs) H) : FnOk P w K mg base (CXs P w) (k + 1) f fd ps sp := by
  obtain ⟨oc, od, kV, doc, pm, an, cdv, ct, osl, rfl, lk, hcd⟩ := F.ex
  exact fn_ofT lk hcd S nocell hps len fun A outer s H vs Q E hr hsp => hbody cdv A outer s H vs Q E hr hsp
end
end L2

set_option Elab.async false
set_option linter.all false
set_option maxRecDepth 100000
/-! f-strings with texts; a list held against the empty one. -/
namespace L2
open PySem PySem.Spec PyProof.Rows

/-! ### f-strings -/
abbrev TJ := St → Hp → Str → (Str → Hp → Prop) → Prop
def PJ (X : Cx) (es : List Expr) (t : TJ) : Prop := ∀ (pins : List (Addr × Obj)) (s : Shared) (σ : St) (H : Hp) (acc : Str) (Q : Str → Hp → Prop), Inv X pins σ H s → t σ H acc Q →
  Joins (model X.prog X.w) X.A X.xe (evalEach es X.env) acc (fun out s₁ => out.length ≤ sizeLine ∧ EP X pins σ (fun v H' => ∃ o, v = .str o ∧ Q o H') (.str out s₁.toks) { s₁ with toks := s₁.toks + 1 }) s
def tJNil : TJ := fun _ H acc Q => acc.length ≤ sizeLine ∧ Q acc H
def tJC (c : Str) (t : TJ) : TJ := fun σ H acc Q => (acc ++ c).length ≤ sizeLine ∧ t σ H (acc ++ c) Q
def tJR (te : TE) (t : TJ) : TJ := fun σ H acc Q => te σ H fun v H1 => ∃ x, v = .str x ∧ (reprText x).length ≤ sizeLine ∧ (acc ++ reprText x).length ≤ sizeLine ∧ t σ H1 (acc ++ reprText x) Q
section
variable {X : Cx} {e v₁ v₂ : Expr} {es : List Expr} {te : TE} {t : TJ} {c : Str} {k : Nat} {pos p : Pos}
theorem pj_nil : PJ X [] tJNil := fun _ s _ H acc _ I h => ⟨h.1, .str acc, H, I.tok _, ⟨_, rfl⟩, acc, rfl, h.2⟩
theorem pj_c (h : PJ X es t) : PJ X (.Constant (.str c) k p :: es) (tJC c t) := by
  intro pins s σ H acc Q I q
  show wpAny _ _ (eval (.Constant (.str c) k p) X.env) _ _ s
  exact Calls.Constant_str ⟨c, _, rfl, q.1, h pins _ σ H (acc ++ c) Q (I.tok _) q.2⟩
theorem pj_r (he : PE X e te) (h : PJ X es t) : PJ X (.FormattedValue e 114 none p :: es) (tJR te t) := by
  intro pins s σ H acc Q I q
  show wpAny _ _ (eval (.FormattedValue e 114 none p) X.env) _ _ s
  refine wpAny_FormattedValue_repr (thn (he pins s σ H _ I q) fun v s1 ⟨y, H1, I1, r1, x, ey, hz, hz2, q1⟩ => ?_)
  subst ey
  obtain ⟨tk, rfl⟩ := r1
  refine pyReprObj_str (wpAny_formatField_str ?_ ?_ hz) hz
  · exact ⟨_, _, rfl, hz2, h pins _ σ H1 _ Q (I1.tok _) q1⟩
  · exact ⟨_, _, rfl, hz2, h pins _ σ H1 _ Q (I1.tok _) q1⟩
def tJoin (t : TJ) : TE := fun σ H Q => t σ H Str.empty fun o H' => Q (.str o) H'
theorem pe_join (h : PJ X (v₁ :: v₂ :: es) t) : PE X (.JoinedStr (v₁ :: v₂ :: es) pos) (tJoin t) := by
  intro pins s σ H Q I q
  refine wpAny_mono (wpAny_JoinedStr (Q := EP X pins σ (fun v H' => ∃ o, v = .str o ∧ Q (.str o) H')) (h pins s σ H Str.empty _ I q)) (fun v s1 h1 => ?_) fun _ _ y => y
  obtain ⟨y, H1, I1, r1, o, rfl, q1⟩ := h1
  exact ⟨_, H1, I1, r1, q1⟩

/-! ### a list and [] -/
def rNil (K : PySem.W.Frag) (neg : Bool) : R2 := fun x y H Q => ∃ p q xs, x = .ref p ∧ y = .ref q ∧ SqL K H p xs ∧ SqL K H q [] ∧ Q (.bl (if neg then !xs.isEmpty else xs.isEmpty)) H
theorem op_eqNil (hu : X.A.units < cLine) : OpR X (compareOp .Eq) (rNil X.K false) := by
  intro pins s σ H x y v u Q I rx ry h
  obtain ⟨p, q, xs, rfl, rfl, h1, h2, hq⟩ := h
  cases rx; cases ry
  obtain ⟨its, r, pl, hz⟩ := I.list h1
  obtain ⟨its2, r2, pl2, _⟩ := I.list h2
  cases r2
  cases xs with
  | nil =>
    cases r
    exact SeqAt.eq_listAt (e := fun _ => true) pl.isList pl2.isList rfl hu (fun j h1 _ => absurd h1 (by simp)) ⟨.bl true, H, I, rfl, hq⟩
  | cons a t =>
    cases r with
    | cons r1 r2 => exact SeqAt.eq_list_lengthsAt pl.isList pl2.isList (by simp) hu ⟨.bl false, H, I, rfl, hq⟩
theorem op_neNil (hu : X.A.units < cLine) : OpR X (compareOp .NotEq) (rNil X.K true) := by
  intro pins s σ H x y v u Q I rx ry h
  obtain ⟨p, q, xs, rfl, rfl, h1, h2, hq⟩ := h
  cases rx; cases ry
  obtain ⟨its, r, pl, hz⟩ := I.list h1
  obtain ⟨its2, r2, pl2, _⟩ := I.list h2
  cases r2
  cases xs with
  | nil =>
    cases r
    exact SeqAt.RcNeAt.lists (e := fun _ => true) pl.isList pl2.isList rfl hu (fun j h1 _ => absurd h1 (by simp)) _ _ _ _ ⟨.bl false, H, I, rfl, hq⟩
  | cons a t =>
    cases r with
    | cons r1 r2 => exact SeqAt.RcNeAt.lists_lengths pl.isList pl2.isList (by simp) hu _ _ _ _ ⟨.bl true, H, I, rfl, hq⟩
end
end L2

set_option Elab.async false
set_option linter.all false
set_option maxRecDepth 100000
/-! zip of two sequences, each a list or a tuple. -/
namespace L2
open PySem PySem.Spec PyProof.Rows

/-- an iterator at the place k of the list or tuple at a -/
def SIt (h : Heap) (i a : Addr) (k : Nat) (xs : Array Value) : Prop := (h.IsListIter i a k ∧ h.IsList a xs) ∨ (h.IsTupleIter i a k ∧ h.IsTuple a xs)
theorem SIt.move {h h' : Heap} {i a : Addr} {k : Nat} {xs : Array Value} (x : SIt h i a k xs) (hi : ∀ o, h.get? i = some o → h'.get? i = some o) (ha : ∀ o, h.get? a = some o → h'.get? a = some o) : SIt h' i a k xs := by
  rcases x with ⟨x, y⟩ | ⟨x, y⟩
  · exact .inl ⟨x.at hi, y.at ha⟩
  · exact .inr ⟨x.at hi, y.at ha⟩
theorem SIt.there {h : Heap} {i a : Addr} {k : Nat} {xs : Array Value} (x : SIt h i a k xs) : ∃ o, h.get? i = some o ∧ ∀ v, o.data ≠ .cell v := by
  rcases x with ⟨⟨o, e, _, d⟩, _⟩ | ⟨⟨o, e, _, d⟩, _⟩ <;> exact ⟨o, e, fun v z => by rw [d] at z; cases z⟩
theorem SIt.src {h : Heap} {i a : Addr} {k : Nat} {xs : Array Value} (x : SIt h i a k xs) : ∃ o n, h.get? a = some o ∧ o.data = .seq xs n := by
  rcases x with ⟨_, o, e, _, n, d⟩ | ⟨_, o, e, _, n, d⟩ <;> exact ⟨o, n, e, d⟩
section
variable {prog : Program} {w : World} {A : Around} {E : Value → Shared → Prop} {s : Shared}
theorem nextOf_tuple_item {it t : Addr} {i : Nat} {items : Array Value} {x : Value} {Q : Value → Shared → Prop} (hit : s.heap.IsTupleIter it t i) (ht : s.heap.IsTuple t items) (hx : items[i]? = some x)
    (hQ : ∀ h', h'.IsTupleIter it t (i + 1) → Heap.SameBut it s.heap h' → Q x { s with heap := h' }) : wpAny (model prog w) A (Builtin.SmallTypes.nextOf (.ref it)) Q E s := by
  obtain ⟨o, ho, hc, hd⟩ := id hit
  obtain ⟨ol, hol, _, nl, hdl⟩ := ht
  unfold Builtin.SmallTypes.nextOf
  refine wpAny_bind (wpAny_callSpecial?_slot (name := Str.ofString "__next__") hit.typeIs PySem.F.slot_tuple_iterator_next
    (wpAny_call_entry PySem.F.slot_tuple_iterator_next hit.typeIs PySem.F.entry_tuple_iterator_next ?_ (PySem.F.args_tuple_iterator_next_1 _)))
  show wpAny _ _ (field (.ref it) 0 >>= _) _ _ s
  refine wpAny_bind (wpAny_field ho hd (x := .ref t) rfl ?_)
  show wpAny _ _ (if (Value.ref t == Value.none) = true then _ else _) _ _ s
  rw [if_neg (show ¬ ((Value.ref t == Value.none) = true) from Bool.false_ne_true)]
  show wpAny _ _ (field (.ref it) 1 >>= _) _ _ s
  refine wpAny_bind (wpAny_field ho hd (x := .int i 0) rfl ?_)
  show wpAny _ _ (seqItems? (.ref t) >>= _) _ _ s
  refine wpAny_bind (wpAny_seqItems hol hdl ?_)
  simp only [Int.toNat_natCast, hx]
  refine wpAny_bind (wpAny_setField ho hd (by simp) (wpAny_pure ⟨x, rfl, wpAny_pure (hQ _ ?_ (Heap.SameBut.update ..))⟩))
  exact ⟨_, Heap.get?_update_self _ ho (Obj.isFreed_of_fields (Obj.data_mapFields hd _)), (Obj.cls_mapFields ..).trans hc, by
    rw [Obj.data_mapFields hd]; simp [rawInt]⟩
theorem nextOf_tuple_end {it t : Addr} {i : Nat} {items : Array Value} {Q : Value → Shared → Prop} (hh : A.handled = none) (hit : s.heap.IsTupleIter it t i) (ht : s.heap.IsTuple t items) (hx : items[i]? = none)
    (hE : ∀ h' e, Heap.ExtBut it s.heap h' → (∃ o, h'.get? e = some o ∧ o.cls = .type "StopIteration") → E (.ref e) { s with heap := h' }) : wpAny (model prog w) A (Builtin.SmallTypes.nextOf (.ref it)) Q E s := by
  obtain ⟨o, ho, hc, hd⟩ := id hit
  obtain ⟨ol, hol, _, nl, hdl⟩ := ht
  unfold Builtin.SmallTypes.nextOf
  refine wpAny_bind (wpAny_callSpecial?_slot (name := Str.ofString "__next__") hit.typeIs PySem.F.slot_tuple_iterator_next
    (wpAny_call_entry PySem.F.slot_tuple_iterator_next hit.typeIs PySem.F.entry_tuple_iterator_next ?_ (PySem.F.args_tuple_iterator_next_1 _)))
  show wpAny _ _ (field (.ref it) 0 >>= _) _ _ s
  refine wpAny_bind (wpAny_field ho hd (x := .ref t) rfl ?_)
  show wpAny _ _ (if (Value.ref t == Value.none) = true then _ else _) _ _ s
  rw [if_neg (show ¬ ((Value.ref t == Value.none) = true) from Bool.false_ne_true)]
  show wpAny _ _ (field (.ref it) 1 >>= _) _ _ s
  refine wpAny_bind (wpAny_field ho hd (x := .int i 0) rfl ?_)
  show wpAny _ _ (seqItems? (.ref t) >>= _) _ _ s
  refine wpAny_bind (wpAny_seqItems hol hdl ?_)
  simp only [Int.toNat_natCast, hx]
  refine wpAny_bind (wpAny_rule (wpAny_bind (wpAny_setField ho hd (by simp) ?_)))
  show wpAny _ _ (newExc (.type "StopIteration") [] >>= _) _ _ _
  refine wpAny_bind ?_
  simp only [newExc, newTuple]
  refine wpAny_bind (wpAny_newObj_type ?_ (by size_fits))
  refine wpAny_bind (m := firstArgMember _ _) (wpAny_of_eq (a := Value.none) (by first | rfl | (simp only [firstArgMember]; rfl)) ?_)
  refine wpAny_newObj_type ?_ (by size_fits)
  simp only [raiseNew]
  refine wpAny_bind (wpAny_handled ?_)
  first | rw [show A.in1.handled = none from hh] | rw [hh]
  refine wpAny_bind (wpAny_pure (wpAny_throw ?_))
  exact hE _ _ (((Heap.SameBut.update ..).extBut.push _).push _) ⟨_, Heap.get?_push_size _ rfl, rfl⟩
theorem nextOf_item {i a : Addr} {k : Nat} {xs : Array Value} {x : Value} {Q : Value → Shared → Prop} (hne : a ≠ i) (h : SIt s.heap i a k xs) (hx : xs[k]? = some x)
    (hQ : ∀ h', SIt h' i a (k + 1) xs → Heap.SameBut i s.heap h' → Q x { s with heap := h' }) : wpAny (model prog w) A (Builtin.SmallTypes.nextOf (.ref i)) Q E s := by
  rcases h with ⟨h1, h2⟩ | ⟨h1, h2⟩
  · exact wpAny_nextOf_list_item h1 h2 hx fun h' h3 sb => hQ h' (.inl ⟨h3, h2.extBut sb.extBut hne⟩) sb
  · exact nextOf_tuple_item h1 h2 hx fun h' h3 sb => hQ h' (.inr ⟨h3, h2.extBut sb.extBut hne⟩) sb
theorem nextOf_end {i a : Addr} {k : Nat} {xs : Array Value} {Q : Value → Shared → Prop} (hh : A.handled = none) (h : SIt s.heap i a k xs) (hx : xs[k]? = none)
    (hE : ∀ h' e, Heap.ExtBut i s.heap h' → (∃ o, h'.get? e = some o ∧ o.cls = .type "StopIteration") → E (.ref e) { s with heap := h' }) : wpAny (model prog w) A (Builtin.SmallTypes.nextOf (.ref i)) Q E s := by
  rcases h with ⟨h1, h2⟩ | ⟨h1, h2⟩
  · exact wpAny_nextOf_list_end hh h1 h2 hx hE
  · exact nextOf_tuple_end hh h1 h2 hx hE
theorem SIt.ext {h h' : Heap} {i a b : Addr} {k : Nat} {xs : Array Value} (x : SIt h i a k xs) (hs : Heap.ExtBut b h h') (h1 : i ≠ b) (h2 : a ≠ b) : SIt h' i a k xs := x.move (fun o e => hs i o h1 e) (fun o e => hs a o h2 e)

theorem zipS_next_item {z TI TO i1 i2 l1 l2 : Addr} {k1 k2 : Nat} {xs ys : Array Value} {x y a b : Value} {Q : Value → Shared → Prop} (D : ZipApart z TI TO i1 i2 l1 l2)
    (hz : IsZip s.heap z TI TO .none) (hTI : IsPair s.heap TI (.ref i1) (.ref i2)) (hTO : IsPair s.heap TO a b)
    (h1 : SIt s.heap i1 l1 k1 xs) (h2 : SIt s.heap i2 l2 k2 ys) (hx : xs[k1]? = some x) (hy : ys[k2]? = some y)
    (hQ : ∀ h', IsZip h' z TI TO (rawInt s.heap.objs.size) → IsPair h' TO x y → SIt h' i1 l1 (k1 + 1) xs → SIt h' i2 l2 (k2 + 1) ys → IsPair h' s.heap.objs.size x y → h'.objs.size = s.heap.objs.size + 1 →
      (∀ c o, c ≠ z → c ≠ TO → c ≠ i1 → c ≠ i2 → s.heap.get? c = some o → h'.get? c = some o) → Q (.ref s.heap.objs.size) { s with heap := h' }) :
    wpAny (model prog w) A (Builtin.«zip.__next__» ⟨[.ref z], []⟩) (fun fin s' => ∃ v, fin = .done (.ret v) ∧ Q v s') E s := by
  show wpAny _ _ (field (.ref z) 2 >>= _) _ _ _
  refine wpAny_bind (wpAny_field hz rfl (x := .bool false) rfl ?_)
  show wpAny _ _ (field (.ref z) 3 >>= _) _ _ _
  refine wpAny_bind (wpAny_field hz rfl (x := .ref TI) rfl ?_)
  refine wpAny_bind (wpAny_seqItems hTI rfl ?_)
  show wpAny _ _ (Builtin.SmallTypes.ownedTupleIsFree (.ref z) >>= _) _ _ _
  refine wpAny_bind ?_
  unfold Builtin.SmallTypes.ownedTupleIsFree
  refine wpAny_bind (wpAny_field hz rfl (x := .none) rfl (wpAny_pure ?_))
  simp only [if_true]
  refine wpAny_bind (wpAny_rule ?_)
  refine wpAny_bind (wpAny_field hz rfl (x := .ref TO) rfl ?_)
  refine wpAny_bind (wpAny_setField_rec hz (by simp) fun h₁ hz₁ hs₁ => ?_)
  replace hz₁ : IsZip h₁ z TI TO .ellipsis := hz₁
  refine wpAny_bind ?_
  simp only [List.zipIdx_cons, List.zipIdx_nil, List.forIn_cons, List.forIn_nil]

  refine wpAny_bind (wpAny_bind (wpAny_onRaise ?_))
  show wpAny _ _ (Builtin.SmallTypes.nextOf (.ref i1) >>= _) _ _ _
  refine wpAny_bind (nextOf_item D.l1i1 (h1.ext hs₁.extBut D.i1z D.l1z) hx fun h₂ h1₂ hs₂ => wpAny_pure ?_)
  have hTO₂ : IsPair h₂ TO a b := hs₂.extBut _ _ D.TOi1 (hs₁.extBut _ _ D.TOz hTO)
  refine wpAny_bind (wpAny_seqItems hTO₂ rfl ?_)
  refine wpAny_bind (wpAny_updateSeq_pair hTO₂ fun h₃ hTO₃ hs₃ => ?_)
  replace hTO₃ : IsPair h₃ TO x b := hTO₃
  refine wpAny_bind (wpAny_letGo (wpAny_pure ?_))

  refine wpAny_bind (wpAny_bind (wpAny_onRaise ?_))
  show wpAny _ _ (Builtin.SmallTypes.nextOf (.ref i2) >>= _) _ _ _
  refine wpAny_bind (nextOf_item D.l2i2 (((h2.ext hs₁.extBut D.i2z D.l2z).ext hs₂.extBut D.i12.symm D.l2i1).ext hs₃.extBut D.TOi2.symm D.l2TO) hy fun h₄ h2₄ hs₄ => wpAny_pure ?_)
  have hTO₄ : IsPair h₄ TO x b := hs₄.extBut _ _ D.TOi2 hTO₃
  refine wpAny_bind (wpAny_seqItems hTO₄ rfl ?_)
  refine wpAny_bind (wpAny_updateSeq_pair hTO₄ fun h₅ hTO₅ hs₅ => ?_)
  replace hTO₅ : IsPair h₅ TO x y := hTO₅
  refine wpAny_bind (wpAny_letGo (wpAny_pure (wpAny_pure ?_)))

  refine wpAny_bind (wpAny_seqItems hTO₅ rfl ?_)
  refine wpAny_bind (wpAny_newTuple ?_)
  have hsz : h₅.objs.size = s.heap.objs.size := by rw [hs₅.1, hs₄.1, hs₃.1, hs₂.1, hs₁.1]
  have hz₅ : IsZip h₅ z TI TO .ellipsis := hs₅.extBut _ _ D.TOz.symm (hs₄.extBut _ _ D.i2z.symm (hs₃.extBut _ _ D.TOz.symm (hs₂.extBut _ _ D.i1z.symm hz₁)))
  have hk₅ : ∀ c o, c ≠ z → c ≠ TO → c ≠ i1 → c ≠ i2 → s.heap.get? c = some o → h₅.get? c = some o := fun c o c1 c2 c3 c4 e =>
    hs₅.extBut _ _ c2 (hs₄.extBut _ _ c4 (hs₃.extBut _ _ c2 (hs₂.extBut _ _ c3 (hs₁.extBut _ _ c1 e))))
  have h1₅ : SIt h₅ i1 l1 (k1 + 1) xs := ((h1₂.ext hs₃.extBut D.TOi1.symm D.l1TO).ext hs₄.extBut D.i12 D.l1i2).ext hs₅.extBut D.TOi1.symm D.l1TO
  have h2₅ : SIt h₅ i2 l2 (k2 + 1) ys := h2₄.ext hs₅.extBut D.TOi2.symm D.l2TO
  have hzlt : z < h₅.objs.size := Heap.lt_size hz₅
  have hTOlt : TO < h₅.objs.size := Heap.lt_size hTO₅
  have hi1lt : i1 < h₅.objs.size := by obtain ⟨_, e, _⟩ := h1₅.there; exact Heap.lt_size e
  have hi2lt : i2 < h₅.objs.size := by obtain ⟨_, e, _⟩ := h2₅.there; exact Heap.lt_size e
  show wpAny _ _ (Builtin.SmallTypes.ownedTupleHandOut (.ref z) (.ref h₅.objs.size) >>= _) _ _ _
  refine wpAny_bind ?_
  unfold Builtin.SmallTypes.ownedTupleHandOut
  have hz₆ : IsZip (h₅.push { cls := .type "tuple", data := .seq #[x, y] }) z TI TO .ellipsis := Heap.get?_push_of_some _ hz₅
  refine wpAny_bind (wpAny_setField_rec hz₆ (by simp) fun h₇ hz₇ hs₇ => ?_)
  replace hz₇ : IsZip h₇ z TI TO (rawInt h₅.objs.size) := hz₇
  refine wpAny_setField_rec hz₇ (by simp) fun h₈ hz₈ hs₈ => ?_
  replace hz₈ : IsZip h₈ z TI TO (rawInt h₅.objs.size) := hz₈
  have up : ∀ c o, c ≠ z → h₅.get? c = some o → h₈.get? c = some o := fun c o c1 e => hs₈.extBut _ _ c1 (hs₇.extBut _ _ c1 (Heap.get?_push_of_some _ e))
  have hT₈ : IsPair h₈ h₅.objs.size x y := hs₈.extBut _ _ (Nat.ne_of_gt hzlt) (hs₇.extBut _ _ (Nat.ne_of_gt hzlt) (Heap.get?_push_size _ rfl))
  have hz8 : h₈.objs.size = h₅.objs.size + 1 := by rw [hs₈.1, hs₇.1, Heap.size_push]
  rw [hsz] at hz₈ hT₈ hz8
  refine wpAny_pure ⟨_, rfl, ?_⟩
  show Q (.ref h₅.objs.size) _
  rw [hsz]
  exact hQ h₈ hz₈ (up _ _ D.TOz hTO₅) (h1₅.move (fun o e => up _ o D.i1z e) (fun o e => up _ o D.l1z e)) (h2₅.move (fun o e => up _ o D.i2z e) (fun o e => up _ o D.l2z e)) hT₈ hz8 fun c o c1 c2 c3 c4 e => up c o c1 (hk₅ c o c1 c2 c3 c4 e)

theorem zipS_next_end {z TI TO i1 i2 l1 l2 : Addr} {k1 k2 : Nat} {xs ys : Array Value} {a b : Value} {Q : Fin → Shared → Prop} (hh : A.handled = none) (D : ZipApart z TI TO i1 i2 l1 l2)
    (hz : IsZip s.heap z TI TO .none) (hTI : IsPair s.heap TI (.ref i1) (.ref i2)) (hTO : IsPair s.heap TO a b)
    (h1 : SIt s.heap i1 l1 k1 xs) (h2 : SIt s.heap i2 l2 k2 ys) (hend : xs[k1]? = none ∨ ys[k2]? = none)
    (hE : ∀ h' e, (∀ c o, c ≠ z → c ≠ TO → c ≠ i1 → c ≠ i2 → s.heap.get? c = some o → h'.get? c = some o) → (∃ o, h'.get? e = some o ∧ o.cls = .type "StopIteration") → E (.ref e) { s with heap := h' }) :
    wpAny (model prog w) A (Builtin.«zip.__next__» ⟨[.ref z], []⟩) Q E s := by
  show wpAny _ _ (field (.ref z) 2 >>= _) _ _ _
  refine wpAny_bind (wpAny_field hz rfl (x := .bool false) rfl ?_)
  show wpAny _ _ (field (.ref z) 3 >>= _) _ _ _
  refine wpAny_bind (wpAny_field hz rfl (x := .ref TI) rfl ?_)
  refine wpAny_bind (wpAny_seqItems hTI rfl ?_)
  show wpAny _ _ (Builtin.SmallTypes.ownedTupleIsFree (.ref z) >>= _) _ _ _
  refine wpAny_bind ?_
  unfold Builtin.SmallTypes.ownedTupleIsFree
  refine wpAny_bind (wpAny_field hz rfl (x := .none) rfl (wpAny_pure ?_))
  simp only [if_true]
  refine wpAny_bind (wpAny_rule ?_)
  refine wpAny_bind (wpAny_field hz rfl (x := .ref TO) rfl ?_)
  refine wpAny_bind (wpAny_setField_rec hz (by simp) fun h₁ hz₁ hs₁ => ?_)
  replace hz₁ : IsZip h₁ z TI TO .ellipsis := hz₁
  refine wpAny_bind ?_
  simp only [List.zipIdx_cons, List.zipIdx_nil, List.forIn_cons, List.forIn_nil]
  refine wpAny_bind (wpAny_bind (wpAny_onRaise ?_))
  show wpAny _ _ (Builtin.SmallTypes.nextOf (.ref i1) >>= _) _ _ _
  cases hx : xs[k1]? with
  | none =>
    refine wpAny_bind (nextOf_end hh (h1.ext hs₁.extBut D.i1z D.l1z) hx fun h₂ e hs₂ he => ?_)
    obtain ⟨oe, hoe, hce⟩ := he
    have hz₂ : IsZip h₂ z TI TO .ellipsis := hs₂ _ _ D.i1z.symm hz₁
    have hez : e ≠ z := fun x => by subst x; rw [hz₂] at hoe; cases hoe; simp at hce
    refine wpAny_setField_rec hz₂ (by simp) fun h₃ _ hs₃ => hE h₃ e (fun c o c1 _ c3 _ x => hs₃.extBut _ _ c1 (hs₂ _ _ c3 (hs₁.extBut _ _ c1 x))) ⟨oe, hs₃.extBut _ _ hez hoe, hce⟩
  | some x =>
    have hy : ys[k2]? = none := by rcases hend with h | h; rw [hx] at h; cases h; exact h
    refine wpAny_bind (nextOf_item D.l1i1 (h1.ext hs₁.extBut D.i1z D.l1z) hx fun h₂ h1₂ hs₂ => wpAny_pure ?_)
    have hTO₂ : IsPair h₂ TO a b := hs₂.extBut _ _ D.TOi1 (hs₁.extBut _ _ D.TOz hTO)
    refine wpAny_bind (wpAny_seqItems hTO₂ rfl ?_)
    refine wpAny_bind (wpAny_updateSeq_pair hTO₂ fun h₃ hTO₃ hs₃ => ?_)
    refine wpAny_bind (wpAny_letGo (wpAny_pure ?_))
    refine wpAny_bind (wpAny_bind (wpAny_onRaise ?_))
    show wpAny _ _ (Builtin.SmallTypes.nextOf (.ref i2) >>= _) _ _ _
    refine wpAny_bind (nextOf_end hh (((h2.ext hs₁.extBut D.i2z D.l2z).ext hs₂.extBut D.i12.symm D.l2i1).ext hs₃.extBut D.TOi2.symm D.l2TO) hy fun h₄ e hs₄ he => ?_)
    obtain ⟨oe, hoe, hce⟩ := he
    have hz₄ : IsZip h₄ z TI TO .ellipsis := hs₄ _ _ D.i2z.symm (hs₃.extBut _ _ D.TOz.symm (hs₂.extBut _ _ D.i1z.symm hz₁))
    have hez : e ≠ z := fun x => by subst x; rw [hz₄] at hoe; cases hoe; simp at hce
    refine wpAny_setField_rec hz₄ (by simp) fun h₅ _ hs₅ => hE h₅ e (fun c o c1 c2 c3 c4 x => hs₅.extBut _ _ c1 (hs₄ _ _ c4 (hs₃.extBut _ _ c2 (hs₂.extBut _ _ c3 (hs₁.extBut _ _ c1 x))))) ⟨oe, hs₅.extBut _ _ hez hoe, hce⟩

theorem pyNext_zipS_item {z TI TO i1 i2 l1 l2 : Addr} {k1 k2 : Nat} {xs ys : Array Value} {x y a b : Value} {Q : Option Value → Shared → Prop} (D : ZipApart z TI TO i1 i2 l1 l2)
    (hz : IsZip s.heap z TI TO .none) (hTI : IsPair s.heap TI (.ref i1) (.ref i2)) (hTO : IsPair s.heap TO a b)
    (h1 : SIt s.heap i1 l1 k1 xs) (h2 : SIt s.heap i2 l2 k2 ys) (hx : xs[k1]? = some x) (hy : ys[k2]? = some y)
    (hQ : ∀ h', IsZip h' z TI TO (rawInt s.heap.objs.size) → IsPair h' TO x y → SIt h' i1 l1 (k1 + 1) xs → SIt h' i2 l2 (k2 + 1) ys → IsPair h' s.heap.objs.size x y → h'.objs.size = s.heap.objs.size + 1 →
      (∀ c o, c ≠ z → c ≠ TO → c ≠ i1 → c ≠ i2 → s.heap.get? c = some o → h'.get? c = some o) → Q (some (.ref s.heap.objs.size)) { s with heap := h' }) :
    wpAny (model prog w) A (pyNext (.ref z)) Q E s := by
  have hT : s.TypeIs (.ref z) "zip" := ⟨_, hz, rfl⟩
  unfold pyNext
  exact wpAny_bind (wpAny_attempt (wpAny_callSpecial?_slot (name := Str.ofString "__next__") hT PySem.F.slot_zip_next
    (wpAny_call_entry PySem.F.slot_zip_next hT PySem.F.entry_zip_next
      (zipS_next_item D hz hTI hTO h1 h2 hx hy fun h' a1 a2 a3 a4 a5 a6 a7 => wpAny_pure (hQ h' a1 a2 a3 a4 a5 a6 a7)) (PySem.F.args_zip_next_1 _))))

theorem pyNext_zipS_end {z TI TO i1 i2 l1 l2 : Addr} {k1 k2 : Nat} {xs ys : Array Value} {a b : Value} {Q : Option Value → Shared → Prop} (hh : A.handled = none) (D : ZipApart z TI TO i1 i2 l1 l2)
    (hz : IsZip s.heap z TI TO .none) (hTI : IsPair s.heap TI (.ref i1) (.ref i2)) (hTO : IsPair s.heap TO a b)
    (h1 : SIt s.heap i1 l1 k1 xs) (h2 : SIt s.heap i2 l2 k2 ys) (hend : xs[k1]? = none ∨ ys[k2]? = none)
    (hQ : ∀ h', (∀ c o, c ≠ z → c ≠ TO → c ≠ i1 → c ≠ i2 → s.heap.get? c = some o → h'.get? c = some o) → Q none { s with heap := h' }) : wpAny (model prog w) A (pyNext (.ref z)) Q E s := by
  have hT : s.TypeIs (.ref z) "zip" := ⟨_, hz, rfl⟩
  unfold pyNext
  refine wpAny_bind (wpAny_attempt (wpAny_callSpecial?_slot (name := Str.ofString "__next__") hT PySem.F.slot_zip_next
    (wpAny_call_entry PySem.F.slot_zip_next hT PySem.F.entry_zip_next (zipS_next_end hh D hz hTI hTO h1 h2 hend fun h' e hk he => ?_) (PySem.F.args_zip_next_1 _))))
  obtain ⟨o, ho, hc⟩ := he
  refine wpAny_bind (wpAny_isInstance (T := "StopIteration") (b := true) ⟨o, ho, hc⟩ isSubtype_stop ?_)
  exact wpAny_pure (hQ _ hk)


end
end L2

set_option Elab.async false
set_option linter.all false
set_option maxRecDepth 100000
/-! zip walked by a comprehension or a loop with two names. -/
namespace L2
open PySem PySem.Spec PyProof.Rows

/-- the iterator's record alone -/
def ItR (h : Heap) (i a : Addr) (k : Nat) (b : Bool) : Prop := if b = true then h.IsListIter i a k else h.IsTupleIter i a k
/-- the list or tuple at a -/
def SqB (K : PySem.W.Frag) (H : Hp) (a : Addr) (b : Bool) (xs : List V) : Prop := if b = true then SqL K H a xs else SqT K H a xs
theorem ItR.at {h h' : Heap} {i a : Addr} {k : Nat} {b : Bool} (x : ItR h i a k b) (hi : ∀ o, h.get? i = some o → h'.get? i = some o) : ItR h' i a k b := by
  cases b with
  | true => exact Heap.IsListIter.at (show h.IsListIter i a k from x) hi
  | false => exact Heap.IsTupleIter.at (show h.IsTupleIter i a k from x) hi
theorem ItR.rec {h : Heap} {i a : Addr} {k : Nat} {b : Bool} (x : ItR h i a k b) : ∃ o vs, h.get? i = some o ∧ o.data = .fields vs := by
  cases b with
  | true => obtain ⟨o, e, _, d⟩ := (show h.IsListIter i a k from x); exact ⟨o, _, e, d⟩
  | false => obtain ⟨o, e, _, d⟩ := (show h.IsTupleIter i a k from x); exact ⟨o, _, e, d⟩
section
variable {X : Cx} {pins : List (Addr × Obj)} {σ : St} {H : Hp} {s : Shared}
theorem Inv.seqB {a : Addr} {b : Bool} {xs : List V} (I : Inv X pins σ H s) (h : SqB X.K H a b xs) : ∃ its : List Value, Vals xs its ∧ (∀ (i : Addr) (k : Nat) (h' : Heap), ItR h' i a k b → (∀ o, s.heap.get? a = some o → h'.get? a = some o) → SIt h' i a k its.toArray) ∧ ∃ o n, s.heap.get? a = some o ∧ o.data = .seq its.toArray n := by
  cases b with
  | true =>
    obtain ⟨its, r, pl, _⟩ := I.list (show SqL X.K H a xs from h)
    have hl : s.heap.IsList a its.toArray := pl.isList
    obtain ⟨o, e, c, n, d⟩ := id hl
    exact ⟨its, r, fun i k h' x ka => .inl ⟨x, hl.at ka⟩, o, n, e, d⟩
  | false =>
    obtain ⟨its, r, pl, _⟩ := I.tuple (show SqT X.K H a xs from h)
    have hl : s.heap.IsTuple a its.toArray := pl
    obtain ⟨o, e, c, n, d⟩ := id hl
    exact ⟨its, r, fun i k h' x ka => .inr ⟨x, hl.at ka⟩, o, n, e, d⟩
theorem Inv.seqB_inj {a : Addr} {b : Bool} {xs ys : List V} (I : Inv X pins σ H s) (h : SqB X.K H a b xs) (h' : SqB X.K H a b ys) : xs = ys := by
  cases b with
  | true => exact I.list_inj (show SqL X.K H a xs from h) h'
  | false => exact I.tuple_inj (show SqT X.K H a xs from h) h'
theorem SIt.itr {h : Heap} {i a : Addr} {k : Nat} {xs : Array Value} {b : Bool} {m : Nat} (x : SIt h i a k xs) (q : ∃ h0 : Heap, ItR h0 i a m b ∧ ∀ o o', h0.get? i = some o → h.get? i = some o' → o'.cls = o.cls) : ItR h i a k b := by
  obtain ⟨h0, q, hc⟩ := q
  cases b with
  | true =>
    obtain ⟨o, e, c, d⟩ := (show h0.IsListIter i a m from q)
    rcases x with ⟨x, _⟩ | ⟨⟨o', e', c', d'⟩, _⟩
    · exact x
    · have := hc o o' e e'
      rw [c', c] at this; exact absurd this (by decide)
  | false =>
    obtain ⟨o, e, c, d⟩ := (show h0.IsTupleIter i a m from q)
    rcases x with ⟨⟨o', e', c', d'⟩, _⟩ | ⟨x, _⟩
    · have := hc o o' e e'
      rw [c', c] at this; exact absurd this (by decide)
    · exact x
end
end L2

set_option Elab.async false
set_option linter.all false
set_option maxRecDepth 100000
/-! for, whose body may raise. -/
namespace L2
open PySem PySem.Spec PyProof.Rows
section
variable {X : Cx} {Z : ZK} {tg iter : Expr} {body : List Stmt} {wi : TI} {g : TG} {tb : TS} {pos : Pos}
theorem passes_XE (ok : XOk X) : PassesOwn (model X.prog X.w) X.A X.env (XE X Z) := by
  rintro e s' ⟨a, C, T, σ', H', rfl, I, F, z⟩
  refine I.note ok F I.ok.frames rfl fun h1 t I1 F1 => ?_
  exact I1.cameBack F1 fun h2 I2 F2 => ⟨a, C, some t, σ', H', rfl, I2, F2, z⟩
theorem Thr.wished (th : Thr X Z) : Thr (X.wish (XE X Z)) Z := by
  refine ⟨⟨th.top, th.ex⟩, ?_⟩
  rintro e s' ⟨a, C, T, σ', H', rfl, I, F, z⟩
  exact ⟨a, C, T, σ', H', rfl, I.unwish, ⟨F.fl, F.ow⟩, z⟩
theorem ps_forX (th : Thr X Z) (hc : X.calm = true) (hi : PI (X.wish (XE X Z)) tg iter wi) (hg : PG (X.wish (XE X Z)) tg g) (hb : PSs (X.wish (XE X Z)) body tb)
    (hs : ∀ x, foldedSetIterable iter X.env x = pure x := by intro _; rfl) : PS X (.For tg iter body [] pos) (tFor wi g tb) := by
  intro pins s σ H D I h
  refine wpAny_mono (ps_for (X := X.wish (XE X Z)) (passes_XE th.toXOk) hc hi hg hb hs pins s σ H D (I.wish _) h) (fun f s' q => q.unwish) fun e s' x => th.thr e s' x
end
end L2

set_option Elab.async false
set_option linter.all false
set_option maxRecDepth 100000
/-! name = [..]: the store is done within the block. -/
namespace L2
open PySem PySem.Spec PyProof.Rows
section
variable {X : Cx} {scope : Scope} {NC : List Str} {cap : List (Option Nat)} {elt tg iter : Expr} {ifs : List Expr} {pos pos' spos : Pos} {Z : ZK} {wi : TI} {g : TG} {tf : ZK → TT} {te : ZK → TE} {i : Nat} {x : Str}
theorem ps_setC (hc : X.calm = true) (th : Thr X Z) (hi : PI X tg iter wi) (cok : compOk X.env.scope scope X.N NC cap = true)
    (hg : ∀ C s H fp pn xe, PG (compCx X NC scope C s H fp pn xe) tg g)
    (hf : ∀ C s H fp pn xe Zc, Thr (compCx X NC scope C s H fp pn xe) Zc → PF (compCx X NC scope C s H fp pn xe) ifs (tf Zc))
    (hb : ∀ C s H fp pn xe Zc, Thr (compCx X NC scope C s H fp pn xe) Zc → PE (compCx X NC scope C s H fp pn xe) elt (te Zc))
    (hs : ∀ x, foldedSetIterable iter X.env x = pure x) (hN : X.N.Nodup) (hx : X.N[i]? = some x) (hlo : X.env.scope.names.lookup x = some .local)
    (hsw : swapsWith (.ListComp elt [⟨tg, iter, ifs, 0⟩] scope pos) (some (.Name x pos')) spos.line X.env = pure true) :
    PS X (.Assign [.Name x pos'] (.ListComp elt [⟨tg, iter, ifs, 0⟩] scope pos) spos) (tAsg (tComp Z cap wi g tf te) (gName i)) := by
  intro pins s σ H D I h
  obtain ⟨c1, c2, c3, c4, c5, c6, c7⟩ := compOk_parts cok
  rw [exec_Assign_Name_used _ _ _ _ hsw]
  refine wpAny_bind (wpAny_standAt (wpAny_bind ?_))
  show wpAny _ X.A (do let _ ← comprehension (.ListComp elt [⟨tg, iter, ifs, 0⟩] scope pos) scope X.env _ (newList []) false (eval iter X.env) (some (assign (.Name x pos') X.env))) _ _ s
  refine wpAny_bind (wpAny_mono (wpAny_comprehension_free (use := some (assign (.Name x pos') X.env)) (Q := fun _ s' => SP X pins D .next s') rfl hs (closure_of fun y hy e => I.ok.has y.1 (.inl (c4 y hy e))) c1 c3
    (thn (hi pins s σ H _ I h) fun xv s₁ h₁ => thn h₁ fun itv s₂ h₂ => ?_)) (fun _ s' hq => wpAny_pure (wpAny_pure hq)) fun _ _ e => e)
  obtain ⟨it, fp, tn, J, H2, rfl, I2, T, st2, f2, W, ⟨m0, w0⟩, turn⟩ := h₂
  refine comp_core hc th I2 T st2 f2 cok (fun C pn xe => hg C s₂ H2 fp pn xe) (fun C pn xe t => hf C s₂ H2 fp pn xe _ t) (fun C pn xe t => hb C s₂ H2 fp pn xe _ t) W m0 w0 turn ?_
  rintro C D' s' H' ys us n ⟨hlen, q⟩ rv e hn hnC rfl rfl ⟨m, ns⟩ lv
  have I' : Inv X pins σ H' s' := lv s'.heap (Heap.SameBut.refl _ _)
  have I3 : Inv X pins σ (upd H' s₂.heap.objs.size (.lst ys)) s' := I'.track (o := .lst ys) hn (Heap.get?_none_of_le I2.sz) (Nat.ne_of_gt I2.lt) (fun y c ec z => by
    obtain ⟨v, q⟩ := I2.cell y c ec
    exact absurd q.lt (by rw [z]; exact Nat.lt_irrefl _)) (fun p hp z => absurd (Heap.lt_size (I2.pin p hp).1) (by rw [z]; exact Nat.lt_irrefl _)) ⟨hlen, us, n, rv, e⟩
  have fC : FpOk X pins (upd H' s₂.heap.objs.size (.lst ys)) (s₂.heap.objs.size + 1) := I2.fpOk (Nat.le_succ _) (by rw [upd_ne (Nat.succ_ne_self _)]; exact hnC)
  show wpAny _ X.A (assign (.Name x pos') X.env (.ref s₂.heap.objs.size)) _ _ _
  refine wpAny_assign_Name (store_ok2 I3 hN hx (.inl hlo) (v := .ref s₂.heap.objs.size) rfl (fun s'' I4 ⟨a, sb, ha⟩ => ?_) (.inr hlo))
  have nC : s₂.heap.objs.size + 1 ≠ a := by
    rcases ha with rfl | ha
    · exact fC.2.1
    · exact fun z => fC.2.2.2.2.1 x a ha z.symm
  refine ⟨m, ns.sameBut sb nC, fun h' sb' => ⟨_, _, I4.turned (t' := s''.toks) (fun b o hb e => (sb'.2 b hb).trans e) fC.1 fC.2.1 fC.2.2.2.1 fC.2.2.2.2.1 fC.2.2.2.2.2, q _ hn⟩⟩
end
end L2

set_option Elab.async false
set_option linter.all false
set_option maxRecDepth 100000
/-! A small reading of the text as plain functions: values without the heap's tuples, lists by places of a heap of our own. -/
namespace PI
open PySem L2

inductive D where
  | non | bl (b : Bool) | int (i : Int) | str (x : Str) | tup (xs : List D) | loc (n : Nat) | fl (xs : List D)

/-- what stands at a place -/
inductive O where
  | lst (xs : List D) | dK (kvs : List (Key × D))

abbrev Hh := List O
abbrev En := List (Option D)

inductive Res (α : Type) where
  | ok (a : α) (h : Hh) | exc (c : Nat) (h : Hh) | no
def Res.bind {α β : Type} (r : Res α) (f : α → Hh → Res β) : Res β := match r with
  | .ok a h => f a h
  | .exc c h => .exc c h
  | .no => .no
@[simp] theorem bind_ok {α β : Type} {a : α} {h : Hh} {f : α → Hh → Res β} : (Res.ok a h).bind f = f a h := rfl
@[simp] theorem bind_exc {α β : Type} {c : Nat} {h : Hh} {f : α → Hh → Res β} : (Res.exc c h : Res α).bind f = .exc c h := rfl
@[simp] theorem bind_no {α β : Type} {f : α → Hh → Res β} : (Res.no : Res α).bind f = .no := rfl

/-- a statement's end -/
inductive RS where
  | nx (ρ : En) (h : Hh) | rt (d : D) (h : Hh) | bk (ρ : En) (h : Hh) | ct (ρ : En) (h : Hh) | ex (c : Nat) (ρ : En) (h : Hh) | no

/-- a target: a name; names in a tuple -/
inductive Tg where
  | one (i : Nat) (p : Pos) | tup (is : List (Nat × Pos)) (p : Pos)
/-- methods of lists -/
inductive M0 where
  | pop | reverse
inductive M1 where
  | append | extend

mutual
inductive E where
  | non (p : Pos) | bl (b : Bool) (p : Pos) | int (i : Int) (p : Pos) | str (x : Str) (p : Pos)
  | var (i : Nat) (p : Pos)
  | bin (op : Operator) (a b : E) (p : Pos)
  | un (op : UnaryOp) (a : E) (p : Pos)
  | cmp (op : CmpOp) (a b : E) (p : Pos)
  | and (a b : E) (r : Es) (p : Pos)
  | or (a b : E) (r : Es) (p : Pos)
  | ite (c a b : E) (p : Pos)
  | call (f : Nat) (a : E) (r : Es) (p0 p : Pos)
  | len (a : E) (p0 p : Pos)
  | isi (T : Nat) (a : E) (p0 p1 p : Pos)
  | sub (a i : E) (p : Pos)
  | tup (es : Es) (p : Pos)
  | ofL (l : L)
  | tupL (l : L) (p0 p : Pos)
  | tupE (e : E) (p0 p : Pos)
  | listE (e : E) (p0 p : Pos)
  | cut (a : E) (lo hi : Eo) (p2 p : Pos)
  | dic (p : Pos)
  | m0 (m : M0) (o : E) (p1 p : Pos)
  | m1 (m : M1) (o a : E) (p1 p : Pos)
  | max2 (a b : E) (p0 p : Pos)
inductive Es where
  | nil | cons (e : E) (r : Es)
inductive Eo where
  | none | some (e : E)
/-- a new list -/
inductive L where
  | disp (es : Es) (p : Pos)
  | comp (elt : E) (t : Tg) (it : I) (c : Es) (NC : List Str) (cap : List (Option Nat)) (sc : Scope) (p : Pos)
/-- what a for walks -/
inductive I where
  | seq (e : E) | lst (l : L) | rng (a : E) (p0 p : Pos)
end

mutual
inductive S where
  | set (i : Nat) (e : E) (p1 p : Pos)
  | ret (e : E) (p : Pos)
  | iff (c : E) (a b : Ss) (p : Pos)
  | ex (e : E) (p : Pos)
  | put (o i v : E) (p1 p : Pos)
  | forr (t : Tg) (it : I) (b : Ss) (p : Pos)
inductive Ss where
  | nil | cons (s : S) (r : Ss)
end

/-- the names: those of the slots, of the text's defs -/
structure Nm where
  N : List Str
  F : List Str

def tyName : Nat → Str
  | 0 => "int" | 1 => "bool" | 2 => "str" | 3 => "tuple" | _ => "list"
def tyStr : Nat → String
  | 0 => "int" | 1 => "bool" | 2 => "str" | 3 => "tuple" | _ => "list"

def Tg.py (N : List Str) : Tg → Expr
  | .one i p => .Name (N.getD i "") p
  | .tup is p => .Tuple (is.map fun q => .Name (N.getD q.1 "") q.2) 0 p
mutual
def E.py (n : Nm) : E → Expr
  | .non p => .Constant .none 0 p
  | .bl b p => .Constant (.bool b) 0 p
  | .int i p => .Constant (.int i) 0 p
  | .str x p => .Constant (.str x) 0 p
  | .var i p => .Name (n.N.getD i "") p
  | .bin op a b p => .BinOp (a.py n) op (b.py n) p
  | .un op a p => .UnaryOp op (a.py n) p
  | .cmp op a b p => .Compare (a.py n) [op] [b.py n] p
  | .and a b r p => .BoolOp .And (a.py n :: b.py n :: r.py n) p
  | .or a b r p => .BoolOp .Or (a.py n :: b.py n :: r.py n) p
  | .ite c a b p => .IfExp (c.py n) (a.py n) (b.py n) p
  | .call f a r p0 p => .Call (.Name (n.F.getD f "") p0) (a.py n :: r.py n) [] p
  | .len a p0 p => .Call (.Name "len" p0) [a.py n] [] p
  | .isi T a p0 p1 p => .Call (.Name "isinstance" p0) [a.py n, .Name (tyName T) p1] [] p
  | .sub a i p => .Subscript (a.py n) (i.py n) p
  | .tup es p => .Tuple (es.py n) 0 p
  | .ofL l => l.py n
  | .tupL l p0 p => .Call (.Name "tuple" p0) [l.py n] [] p
  | .tupE e p0 p => .Call (.Name "tuple" p0) [e.py n] [] p
  | .listE e p0 p => .Call (.Name "list" p0) [e.py n] [] p
  | .cut a lo hi p2 p => .Subscript (a.py n) (.Slice (lo.py n) (hi.py n) .none p2) p
  | .dic p => .Dict [] [] p
  | .m0 m o p1 p => .Call (.Attribute (o.py n) (match m with | .pop => "pop" | .reverse => "reverse") p1) [] [] p
  | .m1 m o a p1 p => .Call (.Attribute (o.py n) (match m with | .append => "append" | .extend => "extend") p1) [a.py n] [] p
  | .max2 a b p0 p => .Call (.Name "max" p0) [a.py n, b.py n] [] p
def Eo.py (n : Nm) : Eo → Option Expr
  | .none => .none
  | .some e => .some (e.py n)
def L.py (n : Nm) : L → Expr
  | .disp es p => .List (es.py n) p
  | .comp elt t it c NC cap sc p => .ListComp (elt.py ⟨NC, n.F⟩) [⟨t.py NC, it.py n, c.py ⟨NC, n.F⟩, 0⟩] sc p
def I.py (n : Nm) : I → Expr
  | .seq e => e.py n
  | .lst l => l.py n
  | .rng a p0 p => .Call (.Name "range" p0) [a.py n] [] p
def Es.py (n : Nm) : Es → List Expr
  | .nil => []
  | .cons e r => e.py n :: r.py n
end
mutual
def S.py (n : Nm) : S → Stmt
  | .set i e p1 p => .Assign [.Name (n.N.getD i "") p1] (e.py n) p
  | .ret e p => .Return (some (e.py n)) p
  | .iff c a b p => .If (c.py n) (a.py n) (b.py n) p
  | .ex e p => .Expr (e.py n) p
  | .put o i v p1 p => .Assign [.Subscript (o.py n) (i.py n) p1] (v.py n) p
  | .forr t it b p => .For (t.py n.N) (it.py n) (b.py n) [] p
def Ss.py (n : Nm) : Ss → List Stmt
  | .nil => []
  | .cons s r => s.py n :: r.py n
end

/-! ### data, for == -/
mutual
def D.pd (h : Hh) : D → Option PyData
  | .non => some .none
  | .bl b => some (.bool b)
  | .int i => some (.int i)
  | .str x => some (.str x)
  | .tup xs => (D.pds h xs).map .tuple
  | .loc _ => none
  | .fl xs => (D.pds h xs).map .list
def D.pds (h : Hh) : List D → Option (List PyData)
  | [] => some []
  | x :: r => match D.pd h x, D.pds h r with
    | some a, some b => some (a :: b)
    | _, _ => none
end
/-- the key of a dict -/
def keyD : D → Option Key
  | .int i => some (.inl i)
  | .str x => some (.inr x)
  | _ => none
def valD (kvs : List (Key × D)) (k : Key) : Option D := (kvs.find? fun kv => decide (kv.1 = k)).map (·.2)
def rd (h : Hh) (n : Nat) : Option (List D) := match h[n]? with
  | some (.lst xs) => some xs
  | _ => none
/-- with a list at the top -/
def pdT (h : Hh) : D → Option PyData
  | .loc n => (rd h n).bind fun xs => (D.pds h xs).map .list
  | d => D.pd h d
def isI (h : Hh) : D → Nat → Option Bool
  | .non, _ => some false
  | .bl _, T => some (T == 0 || T == 1)
  | .int _, T => some (T == 0)
  | .str _, T => some (T == 2)
  | .tup _, T => some (T == 3)
  | .loc n, T => (rd h n).map fun _ => T == 4
  | .fl _, T => some (T == 4)

/-- an int whose products the model takes -/
def fits (i : Int) : Bool := decide (Builtin.Int.intBits i ≤ 2 ^ 20)
/-- == and != of data -/
def eqR (neg : Bool) (u v : Option PyData) (h : Hh) : Res D := match u, v with
  | some u, some v => if u.canLay0 = true ∧ v.canLay0 = true ∧ u.depth ≤ 60 then .ok (.bl (if neg then !PyData.eqv u v else PyData.eqv u v)) h else .no
  | _, _ => .no
def binD (op : Operator) (a b : D) (h : Hh) : Res D := match op, a, b with
  | .Add, .int i, .int j => .ok (.int (i + j)) h
  | .Sub, .int i, .int j => .ok (.int (i - j)) h
  | .Mult, .int i, .int j => if fits i = true ∧ fits j = true then .ok (.int (i * j)) h else .no
  | .FloorDiv, .int i, .int j => if 0 < j ∧ j < 1073741824 then .ok (.int (i / j)) h else .no
  | .Mod, .int i, .int j => if 0 < j then .ok (.int (i % j)) h else .no
  | .Pow, .int i, .int j => if 0 ≤ j ∧ j ≤ 1000000 ∧ i.natAbs < 2 ^ 64 then .ok (.int (i ^ j.toNat)) h else .no
  | .LShift, .int i, .int j => if fits i = true ∧ 0 ≤ j ∧ j ≤ 1000000 then .ok (.int (i * 2 ^ j.toNat)) h else .no
  | .RShift, .int i, .int j => if 0 ≤ j then .ok (.int (i / 2 ^ j.toNat)) h else .no
  | .BitAnd, .int i, .int j => .ok (.int (Builtin.bitAnd i j)) h
  | .BitOr, .int i, .int j => .ok (.int (Builtin.bitOr i j)) h
  | .Add, .str x, .str y => if x.length + y.length ≤ 1000000 then .ok (.str (x ++ y)) h else .no
  | .Mult, .str x, .int j => if 0 ≤ j ∧ j ≤ 1000 ∧ x.length ≤ 1000 then .ok (.str (Txt.mul x j)) h else .no
  | .Add, .loc n, .loc m => match h[n]?, h[m]? with
    | some (.lst xs), some (.lst ys) => if xs.length + ys.length ≤ 1000000 then .ok (.loc h.length) (h ++ [.lst (xs ++ ys)]) else .no
    | _, _ => .no
  | _, _, _ => .no
def cmpD (op : CmpOp) (a b : D) (h : Hh) : Res D := match op, a, b with
  | .Lt, .int i, .int j => .ok (.bl (decide (i < j))) h
  | .LtE, .int i, .int j => .ok (.bl (decide (i ≤ j))) h
  | .Gt, .int i, .int j => .ok (.bl (decide (j < i))) h
  | .GtE, .int i, .int j => .ok (.bl (decide (j ≤ i))) h
  | .Eq, x, y => eqR false (pdT h x) (pdT h y) h
  | .NotEq, x, y => eqR true (pdT h x) (pdT h y) h
  | .Is, .bl x, .bl y => .ok (.bl (x == y)) h
  | .IsNot, .bl x, .bl y => .ok (.bl (!(x == y))) h
  | _, _, _ => .no
def unD (op : UnaryOp) (a : D) (h : Hh) : Res D := match op, a with
  | .Not, .bl b => .ok (.bl (!b)) h
  | .Invert, .int i => .ok (.int (Builtin.bitNot i)) h
  | .USub, .int i => .ok (.int (-i)) h
  | _, _ => .no
def lenD (a : D) (h : Hh) : Res D := match a with
  | .tup xs => .ok (.int xs.length) h
  | .loc n => match rd h n with | some xs => .ok (.int xs.length) h | none => .no
  | .str x => if x.length ≤ 1000000 then .ok (.int x.length) h else .no
  | .fl xs => .ok (.int xs.length) h
  | _ => .no
def subD (a i : D) (h : Hh) : Res D := match a, i with
  | .tup xs, .int k => match atI xs k with | some d => .ok d h | none => .no
  | .fl xs, .int k => match atI xs k with | some d => .ok d h | none => .no
  | .str x, .int k => if x.length ≤ 1000000 then (match atI x.cps.toList k with | some c => .ok (.str ⟨#[c]⟩) h | none => .no) else .no
  | .loc n, y => match h[n]? with
    | some (.dK kvs) => match (keyD y).bind (fun k => valD kvs k) with | some d => .ok d h | none => .no
    | some (.lst xs) => match y with
      | .int k => match atI xs k with | some d => .ok d h | none => .no
      | _ => .no
    | none => .no
  | _, _ => .no
/-- a new object -/
def new (o : O) (h : Hh) : Res D := .ok (.loc h.length) (h ++ [o])
def putD (kvs : List (Key × D)) (k : Key) (v : D) : List (Key × D) := if (kvs.any fun kv => decide (kv.1 = k)) = true then kvs.map (fun kv => if kv.1 = k then (kv.1, v) else kv) else kvs ++ [(k, v)]
/-- x is a list of ours -/
def onL (x : D) (h : Hh) (r : Res D) : Res D := match x with
  | .loc n => match h[n]? with
    | some (.lst _) => r
    | _ => .no
  | _ => .no
def m0D (m : M0) (o : D) (h : Hh) : Res D := match o with
  | .loc n => match h[n]? with
    | some (.lst xs) => match m with
      | .pop => match xs.getLast? with | some x => .ok x (h.set n (.lst xs.dropLast)) | none => .no
      | .reverse => .ok .non (h.set n (.lst xs.reverse))
    | _ => .no
  | _ => .no
def m1D (m : M1) (o a : D) (h : Hh) : Res D := match o with
  | .loc n => match h[n]? with
    | some (.lst xs) => match m with
      | .append => if xs.length < 1000000 then .ok .non (h.set n (.lst (xs ++ [a]))) else .no
      | .extend => match a with
        | .loc m => match h[m]? with
          | some (.lst ys) => if xs.length + ys.length ≤ 1000000 then .ok .non (h.set n (.lst (xs ++ ys))) else .no
          | _ => .no
        | _ => .no
    | _ => .no
  | _ => .no
def putS (o i v : D) (h : Hh) : Option Hh := match o with
  | .loc n => match h[n]? with
    | some (.lst xs) => match i with
      | .int k => (ixN xs.length k).map fun j => h.set n (.lst (xs.set j v))
      | _ => none
    | some (.dK kvs) => (keyD i).bind fun k => if kvs.length < 1000000 then some (h.set n (.dK (putD kvs k v))) else none
    | _ => none
  | _ => none
/-- a slice -/
def cutXs (xs : List D) (lo hi : Option Int) : List D := (xs.drop (HT.sIx xs.length 0 lo)).take (HT.sIx xs.length xs.length hi - HT.sIx xs.length 0 lo)
def cutD (a : D) (lo hi : Option Int) (h : Hh) : Res D := match a with
  | .loc n => match rd h n with
    | some xs => new (.lst (cutXs xs lo hi)) h
    | none => .no
  | .fl xs => new (.lst (cutXs xs lo hi)) h
  | .tup xs => if HT.sIx xs.length 0 lo = 0 ∧ HT.sIx xs.length xs.length hi = xs.length then .no else .ok (.tup (cutXs xs lo hi)) h
  | _ => .no
def intO (d : D) (h : Hh) : Res (Option Int) := match d with | .int i => .ok (some i) h | _ => .no
def seqOf (d : D) (h : Hh) : Option (List D) := match d with
  | .tup xs => some xs
  | .fl xs => some xs
  | .loc n => rd h n
  | _ => none
/-- the lists that must stay while they are walked -/
abbrev Ck := List (Nat × List D)
def stay (c : Ck) (h : Hh) : Prop := ∀ p ∈ c, rd h p.1 = some p.2
def bindT (t : Tg) (d : D) (ρ : En) : Option En := match t with
  | .one i _ => some (ρ.set i (some d))
  | .tup is _ => match d with
    | .tup xs => if xs.length = is.length then some ((is.zip xs).foldl (fun ρ q => ρ.set q.1.1 (some q.2)) ρ) else none
    | _ => none
def capE (cap : List (Option Nat)) (ρ : En) : En := cap.map fun o => o.bind fun i => (ρ[i]?).bind id
/-- a turn of a comprehension, of a for -/
def compF (t : Tg) (ρ : En) (c : En → Hh → Res Bool) (e : En → Hh → Res D) (x : D) (h : Hh) : Res (Option D) := match bindT t x ρ with
  | some ρ' => (c ρ' h).bind fun b h1 => if b then (e ρ' h1).bind fun d h2 => .ok (some d) h2 else .ok none h1
  | none => .no
def stepF (t : Tg) (b : En → Hh → RS) (x : D) (ρ : En) (h : Hh) : RS := match bindT t x ρ with
  | some ρ' => b ρ' h
  | none => .no
def addO (acc : List D) : Option D → List D
  | some d => acc ++ [d]
  | none => acc
@[simp] theorem addO_some {acc : List D} {d : D} : addO acc (some d) = acc ++ [d] := rfl
@[simp] theorem addO_none {acc : List D} : addO acc none = acc := rfl
open Classical in
/-- a comprehension's turns -/
noncomputable def compL (c : Ck) (f : D → Hh → Res (Option D)) : List D → List D → Hh → Res (List D)
  | [], acc, h => if stay c h then .ok acc h else .no
  | x :: r, acc, h => if stay c h then (f x h).bind fun o h' => compL c f r (addO acc o) h' else .no
open Classical in
/-- a for's turns -/
noncomputable def forL (c : Ck) (f : D → En → Hh → RS) : List D → En → Hh → RS
  | [], ρ, h => if stay c h then .nx ρ h else .no
  | x :: r, ρ, h => if stay c h then (match f x ρ h with
      | .nx ρ' h' => forL c f r ρ' h'
      | .ct ρ' h' => forL c f r ρ' h'
      | .bk ρ' h' => .nx ρ' h'
      | o => o) else .no
/-- a value that is a truth -/
def tru (d : D) (h : Hh) (f : Bool → Hh → Res D) : Res D := match d with
  | .bl b => f b h
  | _ => .no

noncomputable section
variable (cl : Nat → List D → Hh → Res D)
mutual
def E.ev : E → En → Hh → Res D
  | .non _, _, h => .ok .non h
  | .bl b _, _, h => .ok (.bl b) h
  | .int i _, _, h => .ok (.int i) h
  | .str x _, _, h => .ok (.str x) h
  | .var i _, ρ, h => match ρ[i]? with | some (some d) => .ok d h | _ => .no
  | .bin op a b _, ρ, h => (a.ev ρ h).bind fun x h1 => (b.ev ρ h1).bind fun y h2 => binD op x y h2
  | .un op a _, ρ, h => (a.ev ρ h).bind fun x h1 => unD op x h1
  | .cmp op a b _, ρ, h => (a.ev ρ h).bind fun x h1 => (b.ev ρ h1).bind fun y h2 => cmpD op x y h2
  | .and a b r _, ρ, h => (a.ev ρ h).bind fun x h1 => tru x h1 fun c h1 => if c then (b.ev ρ h1).bind fun y h2 => r.evAnd ρ y h2 else .ok (.bl false) h1
  | .or a b r _, ρ, h => (a.ev ρ h).bind fun x h1 => tru x h1 fun c h1 => if c then .ok (.bl true) h1 else (b.ev ρ h1).bind fun y h2 => r.evOr ρ y h2
  | .ite c a b _, ρ, h => (c.ev ρ h).bind fun x h1 => tru x h1 fun t h1 => if t then a.ev ρ h1 else b.ev ρ h1
  | .call f a r _ _, ρ, h => (a.ev ρ h).bind fun x h1 => (r.ev ρ h1).bind fun xs h2 => cl f (x :: xs) h2
  | .len a _ _, ρ, h => (a.ev ρ h).bind fun x h1 => lenD x h1
  | .isi T a _ _ _, ρ, h => (a.ev ρ h).bind fun x h1 => match isI h1 x T with | some b => .ok (.bl b) h1 | none => .no
  | .sub a i _, ρ, h => (a.ev ρ h).bind fun x h1 => (i.ev ρ h1).bind fun y h2 => subD x y h2
  | .tup es _, ρ, h => (es.ev ρ h).bind fun xs h1 => if xs.length ≤ 1000 then .ok (.tup xs) h1 else .no
  | .ofL l, ρ, h => (l.ev ρ h).bind fun xs h1 => new (.lst xs) h1
  | .tupL l _ _, ρ, h => (l.ev ρ h).bind fun xs h1 => .ok (.tup xs) h1
  | .tupE e _ _, ρ, h => (e.ev ρ h).bind fun x h1 => match seqOf x h1 with | some xs => .ok (.tup xs) h1 | none => .no
  | .listE e _ _, ρ, h => (e.ev ρ h).bind fun x h1 => match seqOf x h1 with | some xs => new (.lst xs) h1 | none => .no
  | .cut a lo hi _ _, ρ, h => (a.ev ρ h).bind fun x h1 => (lo.ev ρ h1).bind fun l h2 => (hi.ev ρ h2).bind fun u h3 => cutD x l u h3
  | .dic _, _, h => new (.dK []) h
  | .m0 m o _ _, ρ, h => (o.ev ρ h).bind fun x h1 => m0D m x h1
  | .m1 m o a _ _, ρ, h => (o.ev ρ h).bind fun x h1 => onL x h1 ((a.ev ρ h1).bind fun y h2 => m1D m x y h2)
  | .max2 a b _ _, ρ, h => (a.ev ρ h).bind fun x h1 => (b.ev ρ h1).bind fun y h2 => match x, y with | .int i, .int j => .ok (.int (if j > i then j else i)) h2 | _, _ => .no
def Eo.ev : Eo → En → Hh → Res (Option Int)
  | .none, _, h => .ok none h
  | .some e, ρ, h => (e.ev ρ h).bind fun d h1 => intO d h1
def L.ev : L → En → Hh → Res (List D)
  | .disp es _, ρ, h => (es.ev ρ h).bind fun xs h1 => if xs.length ≤ 1000 then .ok xs h1 else .no
  | .comp elt t it c _ cap _ _, ρ, h => (it.ev ρ h).bind fun q h1 => if q.2.length ≤ 1000000 then compL q.1 (compF t (capE cap ρ) (fun ρ' h2 => c.evC ρ' h2) (fun ρ' h2 => elt.ev ρ' h2)) q.2 [] h1 else .no
def I.ev : I → En → Hh → Res (Ck × List D)
  | .seq e, ρ, h => (e.ev ρ h).bind fun x h1 => match x with
    | .tup xs => .ok ([], xs) h1
    | .fl xs => .ok ([], xs) h1
    | .loc n => match rd h1 n with | some xs => .ok ([(n, xs)], xs) h1 | none => .no
    | .str x => .ok ([], x.cps.toList.map fun c => .str ⟨#[c]⟩) h1
    | _ => .no
  | .lst l, ρ, h => (l.ev ρ h).bind fun xs h1 => .ok ([], xs) h1
  | .rng a _ _, ρ, h => (a.ev ρ h).bind fun x h1 => match x with
    | .int j => if -1000000 ≤ j ∧ j ≤ 1000000 then .ok ([], (List.range j.toNat).map fun k => .int (k : Nat)) h1 else .no
    | _ => .no
/-- the tests of a comprehension: none, or one -/
def Es.evC : Es → En → Hh → Res Bool
  | .nil, _, h => .ok true h
  | .cons e _, ρ, h => (e.ev ρ h).bind fun d h1 => match d with | .bl b => .ok b h1 | _ => .no
def Es.ev : Es → En → Hh → Res (List D)
  | .nil, _, h => .ok [] h
  | .cons e r, ρ, h => (e.ev ρ h).bind fun x h1 => (r.ev ρ h1).bind fun xs h2 => .ok (x :: xs) h2
/-- the value x, and (the rest) -/
def Es.evAnd : Es → En → D → Hh → Res D
  | .nil, _, x, h => .ok x h
  | .cons e r, ρ, x, h => tru x h fun c h1 => if c then (e.ev ρ h1).bind fun y h2 => r.evAnd ρ y h2 else .ok (.bl false) h1
def Es.evOr : Es → En → D → Hh → Res D
  | .nil, _, x, h => .ok x h
  | .cons e r, ρ, x, h => tru x h fun c h1 => if c then .ok (.bl true) h1 else (e.ev ρ h1).bind fun y h2 => r.evOr ρ y h2
end
/-- a test -/
def E.evT (e : E) (ρ : En) (h : Hh) : Res Bool := (e.ev cl ρ h).bind fun d h1 => match d with | .bl b => .ok b h1 | _ => .no

/-- from an expression's end to a statement's -/
def andS {α : Type} (ρ : En) (r : Res α) (f : α → Hh → RS) : RS := match r with
  | .ok a h => f a h
  | .exc c h => .ex c ρ h
  | .no => .no
@[simp] theorem andS_ok {α : Type} {ρ : En} {a : α} {h : Hh} {f : α → Hh → RS} : andS ρ (.ok a h) f = f a h := rfl
@[simp] theorem andS_exc {α : Type} {ρ : En} {c : Nat} {h : Hh} {f : α → Hh → RS} : andS ρ (.exc c h) f = .ex c ρ h := rfl
/-- one behind the other -/
def seqS (o : RS) (f : En → Hh → RS) : RS := match o with
  | .nx ρ h => f ρ h
  | o => o
@[simp] theorem seqS_nx {ρ : En} {h : Hh} {f : En → Hh → RS} : seqS (.nx ρ h) f = f ρ h := rfl
@[simp] theorem seqS_rt {d : D} {h : Hh} {f : En → Hh → RS} : seqS (.rt d h) f = .rt d h := rfl
@[simp] theorem seqS_bk {ρ : En} {h : Hh} {f : En → Hh → RS} : seqS (.bk ρ h) f = .bk ρ h := rfl
@[simp] theorem seqS_ct {ρ : En} {h : Hh} {f : En → Hh → RS} : seqS (.ct ρ h) f = .ct ρ h := rfl
@[simp] theorem seqS_ex {c : Nat} {ρ : En} {h : Hh} {f : En → Hh → RS} : seqS (.ex c ρ h) f = .ex c ρ h := rfl
mutual
def S.run : S → En → Hh → RS
  | .set i e _ _, ρ, h => andS ρ (e.ev cl ρ h) fun d h1 => .nx (ρ.set i (some d)) h1
  | .ret e _, ρ, h => andS ρ (e.ev cl ρ h) fun d h1 => .rt d h1
  | .iff c a b _, ρ, h => andS ρ (c.evT cl ρ h) fun t h1 => if t then a.run ρ h1 else b.run ρ h1
  | .ex e _, ρ, h => andS ρ (e.ev cl ρ h) fun _ h1 => .nx ρ h1
  | .put o i v _ _, ρ, h => andS ρ (v.ev cl ρ h) fun z h1 => andS ρ (o.ev cl ρ h1) fun x h2 => andS ρ (i.ev cl ρ h2) fun y h3 => match putS x y z h3 with | some h4 => .nx ρ h4 | none => .no
  | .forr t it b _, ρ, h => andS ρ (it.ev cl ρ h) fun q h1 => forL q.1 (stepF t fun ρ' h' => b.run ρ' h') q.2 ρ h1
def Ss.run : Ss → En → Hh → RS
  | .nil, ρ, h => .nx ρ h
  | .cons s r, ρ, h => seqS (s.run ρ h) fun ρ' h' => r.run ρ' h'
end
end

/-- a def of the text -/
structure Df where
  name : Str
  ps : List Str
  N : List Str
  body : Ss
def outR : RS → Res D
  | .rt v h' => .ok v h'
  | .nx _ h' => .ok .non h'
  | .ex c _ h' => .exc c h'
  | _ => .no
noncomputable def Df.run (cl : Nat → List D → Hh → Res D) (d : Df) (as : List D) (h : Hh) : Res D :=
  outR (d.body.run cl (as.map some ++ List.replicate (d.N.length - as.length) none) h)
/-- a call, at most k deep -/
noncomputable def callI (ds : List Df) : Nat → Nat → List D → Hh → Res D
  | 0, _, _, _ => .no
  | k + 1, f, as, h => match ds[f]? with
    | some d => if as.length = d.ps.length then d.run (callI ds k) as h else .no
    | none => .no
section
variable {i j : Int} {h : Hh} {x y : Str} {b c : Bool} {d e : D} {xs : List D}
@[simp] theorem bin_add : binD .Add (.int i) (.int j) h = .ok (.int (i + j)) h := rfl
@[simp] theorem bin_sub : binD .Sub (.int i) (.int j) h = .ok (.int (i - j)) h := rfl
@[simp] theorem bin_mul : binD .Mult (.int i) (.int j) h = if fits i = true ∧ fits j = true then .ok (.int (i * j)) h else .no := rfl
@[simp] theorem bin_fdiv : binD .FloorDiv (.int i) (.int j) h = if 0 < j ∧ j < 1073741824 then .ok (.int (i / j)) h else .no := rfl
@[simp] theorem bin_mod : binD .Mod (.int i) (.int j) h = if 0 < j then .ok (.int (i % j)) h else .no := rfl
@[simp] theorem bin_pow : binD .Pow (.int i) (.int j) h = if 0 ≤ j ∧ j ≤ 1000000 ∧ i.natAbs < 2 ^ 64 then .ok (.int (i ^ j.toNat)) h else .no := rfl
@[simp] theorem bin_shl : binD .LShift (.int i) (.int j) h = if fits i = true ∧ 0 ≤ j ∧ j ≤ 1000000 then .ok (.int (i * 2 ^ j.toNat)) h else .no := rfl
@[simp] theorem bin_shr : binD .RShift (.int i) (.int j) h = if 0 ≤ j then .ok (.int (i / 2 ^ j.toNat)) h else .no := rfl
@[simp] theorem bin_and : binD .BitAnd (.int i) (.int j) h = .ok (.int (Builtin.bitAnd i j)) h := rfl
@[simp] theorem bin_or : binD .BitOr (.int i) (.int j) h = .ok (.int (Builtin.bitOr i j)) h := rfl
@[simp] theorem bin_adds : binD .Add (.str x) (.str y) h = if x.length + y.length ≤ 1000000 then .ok (.str (x ++ y)) h else .no := rfl
@[simp] theorem cmp_lt : cmpD .Lt (.int i) (.int j) h = .ok (.bl (decide (i < j))) h := rfl
@[simp] theorem cmp_le : cmpD .LtE (.int i) (.int j) h = .ok (.bl (decide (i ≤ j))) h := rfl
@[simp] theorem cmp_gt : cmpD .Gt (.int i) (.int j) h = .ok (.bl (decide (j < i))) h := rfl
@[simp] theorem cmp_ge : cmpD .GtE (.int i) (.int j) h = .ok (.bl (decide (j ≤ i))) h := rfl
@[simp] theorem cmp_eq : cmpD .Eq d e h = eqR false (pdT h d) (pdT h e) h := rfl
@[simp] theorem cmp_ne : cmpD .NotEq d e h = eqR true (pdT h d) (pdT h e) h := rfl
@[simp] theorem cmp_is : cmpD .Is (.bl b) (.bl c) h = .ok (.bl (b == c)) h := rfl
@[simp] theorem cmp_isnot : cmpD .IsNot (.bl b) (.bl c) h = .ok (.bl (!(b == c))) h := rfl
@[simp] theorem eqR_some {neg : Bool} {u v : PyData} : eqR neg (some u) (some v) h = if u.canLay0 = true ∧ v.canLay0 = true ∧ u.depth ≤ 60 then .ok (.bl (if neg then !PyData.eqv u v else PyData.eqv u v)) h else .no := rfl
@[simp] theorem pdT_non : pdT h .non = some .none := by unfold pdT D.pd; rfl
@[simp] theorem pdT_bl : pdT h (.bl b) = some (.bool b) := by unfold pdT D.pd; rfl
@[simp] theorem pdT_int : pdT h (.int i) = some (.int i) := by unfold pdT D.pd; rfl
@[simp] theorem pdT_str : pdT h (.str x) = some (.str x) := by unfold pdT D.pd; rfl
@[simp] theorem pdT_tup : pdT h (.tup xs) = (D.pds h xs).map .tuple := by unfold pdT D.pd; rfl
@[simp] theorem pdT_loc {n : Nat} : pdT h (.loc n) = (rd h n).bind fun xs => (D.pds h xs).map .list := rfl
@[simp] theorem pds_nil : D.pds h [] = some [] := by unfold D.pds; rfl
@[simp] theorem un_not : unD .Not (.bl b) h = .ok (.bl (!b)) h := rfl
@[simp] theorem un_invert : unD .Invert (.int i) h = .ok (.int (Builtin.bitNot i)) h := rfl
@[simp] theorem un_usub : unD .USub (.int i) h = .ok (.int (-i)) h := rfl
@[simp] theorem pdT_fl : pdT h (.fl xs) = (D.pds h xs).map .list := by unfold pdT D.pd; rfl
@[simp] theorem len_fl : lenD (.fl xs) h = .ok (.int xs.length) h := rfl
@[simp] theorem sub_fl : subD (.fl xs) (.int i) h = match atI xs i with | some d => .ok d h | none => .no := rfl
@[simp] theorem len_tup : lenD (.tup xs) h = .ok (.int xs.length) h := rfl
@[simp] theorem len_loc {n : Nat} : lenD (.loc n) h = match rd h n with | some xs => .ok (.int xs.length) h | none => .no := rfl
@[simp] theorem len_str : lenD (.str x) h = if x.length ≤ 1000000 then .ok (.int x.length) h else .no := rfl
@[simp] theorem sub_tup : subD (.tup xs) (.int i) h = match atI xs i with | some d => .ok d h | none => .no := rfl
@[simp] theorem bin_muls : binD .Mult (.str x) (.int j) h = if 0 ≤ j ∧ j ≤ 1000 ∧ x.length ≤ 1000 then .ok (.str (Txt.mul x j)) h else .no := rfl
@[simp] theorem bin_addl {n m : Nat} : binD .Add (.loc n) (.loc m) h = (match h[n]?, h[m]? with
    | some (.lst xs), some (.lst ys) => if xs.length + ys.length ≤ 1000000 then .ok (.loc h.length) (h ++ [.lst (xs ++ ys)]) else .no
    | _, _ => .no) := rfl
theorem sub_str : subD (.str x) (.int i) h = if x.length ≤ 1000000 then (match atI x.cps.toList i with | some c => .ok (.str ⟨#[c]⟩) h | none => .no) else .no := rfl
theorem sub_loc {n : Nat} {y : D} : subD (.loc n) y h = (match h[n]? with
    | some (.dK kvs) => match (keyD y).bind (fun k => valD kvs k) with | some d => .ok d h | none => .no
    | some (.lst xs) => match y with
      | .int k => match atI xs k with | some d => .ok d h | none => .no
      | _ => .no
    | none => .no) := rfl
@[simp] theorem tru_bl {f : Bool → Hh → Res D} : tru (.bl b) h f = f b h := rfl
end
theorem callI_succ {ds : List Df} {k i : Nat} {d : Df} {as : List D} {h : Hh} (hd : ds[i]? = some d) (hl : as.length = d.ps.length) : callI ds (k + 1) i as h = d.run (callI ds k) as h := by
  unfold callI; rw [hd]; exact if_pos hl
end PI

set_option Elab.async false
set_option linter.all false
set_option maxRecDepth 100000
/-! What a value of ours stands for in the layer's heap. -/
namespace PI
open PySem L2

/-- a list that nobody changes: the script -/
def Fz (K : PySem.W.Frag) (H : Hp) (a : Addr) (vs : List V) : Prop := (∃ o, H a = some (.frz o (.lst vs))) ∨ ∀ H', SqL K H' a vs
theorem Fz.sq {K : PySem.W.Frag} {H : Hp} {a : Addr} {vs : List V} (h : Fz K H a vs) : SqL K H a vs := h.elim (fun ⟨o, q⟩ => .inl (.inr ⟨o, q⟩)) fun q => q H
mutual
inductive Rep (K : PySem.W.Frag) (μ : List Addr) (H : Hp) : D → V → Prop
  | non : Rep K μ H .non .non
  | bl (b : Bool) : Rep K μ H (.bl b) (.bl b)
  | int (i : Int) : Rep K μ H (.int i) (.int i)
  | str (x : Str) : Rep K μ H (.str x) (.str x)
  | tup {ds : List D} {vs : List V} {a : Addr} : SqT K H a vs → Reps K μ H ds vs → Rep K μ H (.tup ds) (.ref a)
  | loc {n : Nat} {a : Addr} : μ[n]? = some a → Rep K μ H (.loc n) (.ref a)
  | fl {ds : List D} {vs : List V} {a : Addr} : Fz K H a vs → Reps K μ H ds vs → Rep K μ H (.fl ds) (.ref a)
inductive Reps (K : PySem.W.Frag) (μ : List Addr) (H : Hp) : List D → List V → Prop
  | nil : Reps K μ H [] []
  | cons {d : D} {v : V} {ds : List D} {vs : List V} : Rep K μ H d v → Reps K μ H ds vs → Reps K μ H (d :: ds) (v :: vs)
end

/-- what came of a heap: places stay, tuples stay, what is none of ours stays, our new ones were not there -/
structure Ext (K : PySem.W.Frag) (μ : List Addr) (H : Hp) (μ' : List Addr) (H' : Hp) : Prop where
  loc : ∀ (n : Nat) a, μ[n]? = some a → μ'[n]? = some a
  tup : ∀ a xs, SqT K H a xs → SqT K H' a xs
  fz : ∀ a xs, Fz K H a xs → Fz K H' a xs
  oth : ∀ a o, H a = some o → a ∉ μ → H' a = some o
  new : ∀ a, a ∈ μ' → a ∈ μ ∨ H a = none
theorem Ext.refl {K : PySem.W.Frag} {μ : List Addr} {H : Hp} : Ext K μ H μ H := ⟨fun _ _ h => h, fun _ _ h => h, fun _ _ h => h, fun _ _ h _ => h, fun _ h => .inl h⟩
theorem Ext.sub {K : PySem.W.Frag} {μ μ1 : List Addr} {H H1 : Hp} (a : Ext K μ H μ1 H1) {x : Addr} (h : x ∈ μ) : x ∈ μ1 := by
  obtain ⟨n, hn⟩ := List.getElem?_of_mem h
  exact List.mem_of_getElem? (a.loc n x hn)
theorem Ext.apart {K : PySem.W.Frag} {μ μ1 : List Addr} {H H1 : Hp} (a : Ext K μ H μ1 H1) {x : Addr} {o : HO} (h : H x = some o) (n : x ∉ μ) : x ∉ μ1 := fun z => by
  rcases a.new x z with q | q
  · exact n q
  · rw [h] at q; cases q
theorem Ext.trans {K : PySem.W.Frag} {μ μ1 μ2 : List Addr} {H H1 H2 : Hp} (a : Ext K μ H μ1 H1) (b : Ext K μ1 H1 μ2 H2) : Ext K μ H μ2 H2 := by
  refine ⟨fun n x h => b.loc n x (a.loc n x h), fun x y h => b.tup x y (a.tup x y h), fun x y h => b.fz x y (a.fz x y h), fun x o h n => b.oth x o (a.oth x o h n) (a.apart h n), fun x h => ?_⟩
  rcases b.new x h with z | z
  · exact a.new x z
  · by_cases hx : x ∈ μ
    · exact .inl hx
    · right
      cases e : H x with
      | none => rfl
      | some o => rw [a.oth x o e hx] at z; cases z
mutual
theorem Rep.mono {K : PySem.W.Frag} {μ μ' : List Addr} {H H' : Hp} (e : Ext K μ H μ' H') : ∀ {d : D} {v : V}, Rep K μ H d v → Rep K μ' H' d v
  | _, _, .non => .non
  | _, _, .bl b => .bl b
  | _, _, .int i => .int i
  | _, _, .str x => .str x
  | _, _, .tup h r => .tup (e.tup _ _ h) (Reps.mono e r)
  | _, _, .loc h => .loc (e.loc _ _ h)
  | _, _, .fl h r => .fl (e.fz _ _ h) (Reps.mono e r)
theorem Reps.mono {K : PySem.W.Frag} {μ μ' : List Addr} {H H' : Hp} (e : Ext K μ H μ' H') : ∀ {ds : List D} {vs : List V}, Reps K μ H ds vs → Reps K μ' H' ds vs
  | _, _, .nil => .nil
  | _, _, .cons h r => .cons (Rep.mono e h) (Reps.mono e r)
end
mutual
theorem Rep.mono' {K : PySem.W.Frag} {μ μ' : List Addr} {H : Hp} (e : ∀ (n : Nat) a, μ[n]? = some a → μ'[n]? = some a) : ∀ {d : D} {v : V}, Rep K μ H d v → Rep K μ' H d v
  | _, _, .non => .non
  | _, _, .bl b => .bl b
  | _, _, .int i => .int i
  | _, _, .str x => .str x
  | _, _, .tup h r => .tup h (Reps.mono' e r)
  | _, _, .loc h => .loc (e _ _ h)
  | _, _, .fl h r => .fl h (Reps.mono' e r)
theorem Reps.mono' {K : PySem.W.Frag} {μ μ' : List Addr} {H : Hp} (e : ∀ (n : Nat) a, μ[n]? = some a → μ'[n]? = some a) : ∀ {ds : List D} {vs : List V}, Reps K μ H ds vs → Reps K μ' H ds vs
  | _, _, .nil => .nil
  | _, _, .cons h r => .cons (Rep.mono' e h) (Reps.mono' e r)
end
theorem Reps.length {K : PySem.W.Frag} {μ : List Addr} {H : Hp} : ∀ {ds : List D} {vs : List V}, Reps K μ H ds vs → ds.length = vs.length
  | _, _, .nil => rfl
  | _, _, .cons _ r => by rw [List.length_cons, List.length_cons, r.length]
theorem Reps.get {K : PySem.W.Frag} {μ : List Addr} {H : Hp} : ∀ {ds : List D} {vs : List V} {i : Nat} {d : D}, Reps K μ H ds vs → ds[i]? = some d → ∃ v, vs[i]? = some v ∧ Rep K μ H d v
  | _, _, _, _, .nil, e => by simp at e
  | _, _, 0, _, .cons h _, e => by simp at e; subst e; exact ⟨_, rfl, h⟩
  | _, _, i + 1, d, .cons _ r, e => by
    obtain ⟨v, h1, h2⟩ := Reps.get (i := i) (d := d) r (by simpa using e)
    exact ⟨v, by simpa using h1, h2⟩
theorem Reps.append {K : PySem.W.Frag} {μ : List Addr} {H : Hp} : ∀ {ds es : List D} {vs ws : List V}, Reps K μ H ds vs → Reps K μ H es ws → Reps K μ H (ds ++ es) (vs ++ ws)
  | _, _, _, _, .nil, r => r
  | _, _, _, _, .cons h t, r => .cons h (t.append r)
theorem Reps.atI {K : PySem.W.Frag} {μ : List Addr} {H : Hp} {ds : List D} {vs : List V} {k : Int} {d : D} (r : Reps K μ H ds vs) (e : L2.atI ds k = some d) : ∃ v, L2.atI vs k = some v ∧ Rep K μ H d v := by
  unfold L2.atI at e ⊢
  rw [← r.length]
  cases h : ixN ds.length k with
  | none => rw [h] at e; cases e
  | some j =>
    rw [h] at e
    exact r.get e

/-- the pairs of a dict -/
inductive RepKs (K : PySem.W.Frag) (μ : List Addr) (H : Hp) : List (Key × D) → List (Key × V) → Prop
  | nil : RepKs K μ H [] []
  | cons {k : Key} {d : D} {v : V} {ds : List (Key × D)} {vs : List (Key × V)} : Rep K μ H d v → RepKs K μ H ds vs → RepKs K μ H ((k, d) :: ds) ((k, v) :: vs)
theorem RepKs.mono {K : PySem.W.Frag} {μ μ' : List Addr} {H H' : Hp} (e : Ext K μ H μ' H') : ∀ {ds : List (Key × D)} {vs : List (Key × V)}, RepKs K μ H ds vs → RepKs K μ' H' ds vs
  | _, _, .nil => .nil
  | _, _, .cons h r => .cons (h.mono e) (r.mono e)
theorem RepKs.length {K : PySem.W.Frag} {μ : List Addr} {H : Hp} : ∀ {ds : List (Key × D)} {vs : List (Key × V)}, RepKs K μ H ds vs → ds.length = vs.length
  | _, _, .nil => rfl
  | _, _, .cons _ r => by rw [List.length_cons, List.length_cons, r.length]
/-- an object of ours at a -/
def RepO (K : PySem.W.Frag) (μ : List Addr) (H : Hp) (a : Addr) : O → Prop
  | .lst ds => ∃ vs, H a = some (.lst vs) ∧ Reps K μ H ds vs
  | .dK kvs => ∃ vs, H a = some (.dK vs) ∧ RepKs K μ H kvs vs
theorem RepKs.mono' {K : PySem.W.Frag} {μ μ' : List Addr} {H : Hp} (e : ∀ (n : Nat) a, μ[n]? = some a → μ'[n]? = some a) : ∀ {ds : List (Key × D)} {vs : List (Key × V)}, RepKs K μ H ds vs → RepKs K μ' H ds vs
  | _, _, .nil => .nil
  | _, _, .cons h r => .cons (h.mono' e) (r.mono' e)
theorem RepO.mono' {K : PySem.W.Frag} {μ μ' : List Addr} {H : Hp} {a : Addr} {o : O} (e : ∀ (n : Nat) a, μ[n]? = some a → μ'[n]? = some a) (r : RepO K μ H a o) : RepO K μ' H a o := by
  cases o with
  | lst ds => obtain ⟨vs, q, r⟩ := r; exact ⟨vs, q, r.mono' e⟩
  | dK ds => obtain ⟨vs, q, r⟩ := r; exact ⟨vs, q, r.mono' e⟩
structure HR (K : PySem.W.Frag) (μ : List Addr) (h : Hh) (H : Hp) : Prop where
  len : μ.length = h.length
  inj : ∀ (n m : Nat) (a : Addr), μ[n]? = some a → μ[m]? = some a → n = m
  obj : ∀ (n : Nat) (a : Addr) (o : O), μ[n]? = some a → h[n]? = some o → RepO K μ H a o
theorem HR.at {K : PySem.W.Frag} {μ : List Addr} {h : Hh} {H : Hp} (r : HR K μ h H) {n : Nat} {o : O} (e : h[n]? = some o) : ∃ a, μ[n]? = some a ∧ RepO K μ H a o := by
  have hn : n < h.length := (List.getElem?_eq_some_iff.mp e).1
  have hm : n < μ.length := by rw [r.len]; exact hn
  exact ⟨μ[n], List.getElem?_eq_getElem hm, r.obj n _ o (List.getElem?_eq_getElem hm) e⟩
/-- what is not there is none of ours -/
theorem HR.fresh {K : PySem.W.Frag} {μ : List Addr} {h : Hh} {H : Hp} (r : HR K μ h H) {p : Addr} (hp : H p = none) : p ∉ μ := fun z => by
  obtain ⟨n, hn⟩ := List.getElem?_of_mem z
  have hl : n < h.length := by rw [← r.len]; exact (List.getElem?_eq_some_iff.mp hn).1
  have := r.obj n p h[n] hn (List.getElem?_eq_getElem hl)
  cases e : h[n] with
  | lst ds => rw [e] at this; obtain ⟨vs, q, _⟩ := this; rw [hp] at q; cases q
  | dK ds => rw [e] at this; obtain ⟨vs, q, _⟩ := this; rw [hp] at q; cases q

/-- something new that is none of ours -/
theorem ext_new {K : PySem.W.Frag} {μ : List Addr} {H : Hp} {p : Addr} {u : HO} (hp : H p = none) : Ext K μ H μ (upd H p u) :=
  ⟨fun _ _ h => h, fun a xs h => by
    rcases h with h | h
    · left
      rcases h with h | ⟨o, h⟩
      · exact .inl (by rw [upd_ne (fun z => by rw [z, hp] at h; cases h)]; exact h)
      · exact .inr ⟨o, by rw [upd_ne (fun z => by rw [z, hp] at h; cases h)]; exact h⟩
    · exact .inr h, fun a xs h => by
    rcases h with ⟨o, h⟩ | h
    · exact .inl ⟨o, by rw [upd_ne (fun z => by rw [z, hp] at h; cases h)]; exact h⟩
    · exact .inr h, fun a o h _ => by rw [upd_ne (fun z => by rw [z, hp] at h; cases h)]; exact h, fun _ h => .inl h⟩
/-- .. that is ours from now on -/
theorem Ext.add {K : PySem.W.Frag} {μ μ' : List Addr} {H H' : Hp} {p : Addr} (e : Ext K μ H μ' H') (hp : H p = none) : Ext K μ H (μ' ++ [p]) H' :=
  ⟨fun n a h => by rw [List.getElem?_append_left (List.getElem?_eq_some_iff.mp (e.loc n a h)).1]; exact e.loc n a h, e.tup, e.fz, e.oth,
    fun a h => by
      rcases List.mem_append.mp h with h | h
      · exact e.new a h
      · rw [List.mem_singleton.mp h]; exact .inr hp⟩
/-- what changes nothing that o hangs on -/
theorem RepO.keep {K : PySem.W.Frag} {μ μ' : List Addr} {H H' : Hp} {a : Addr} {o : O} (e : Ext K μ H μ' H') (k : ∀ u, H a = some u → H' a = some u) (r : RepO K μ H a o) : RepO K μ' H' a o := by
  cases o with
  | lst ds => obtain ⟨vs, q, r⟩ := r; exact ⟨vs, k _ q, r.mono e⟩
  | dK ds => obtain ⟨vs, q, r⟩ := r; exact ⟨vs, k _ q, r.mono e⟩
theorem keep_new {H : Hp} {p a : Addr} {u w : HO} (hp : H p = none) (h : H a = some w) : upd H p u a = some w := by
  rw [upd_ne (fun z => by rw [z, hp] at h; cases h)]; exact h
theorem HR.tup {K : PySem.W.Frag} {μ : List Addr} {h : Hh} {H : Hp} {p : Addr} {u : HO} (r : HR K μ h H) (hp : H p = none) : HR K μ h (upd H p u) :=
  ⟨r.len, r.inj, fun n a o e1 e2 => (r.obj n a o e1 e2).keep (ext_new hp) fun _ q => keep_new hp q⟩
/-- an object that is there becomes ours -/
theorem HR.add {K : PySem.W.Frag} {μ : List Addr} {h : Hh} {H : Hp} {p : Addr} {o : O} (r : HR K μ h H) (hp : p ∉ μ) (q : ∀ μ', (∀ (n : Nat) a, μ[n]? = some a → μ'[n]? = some a) → RepO K μ' H p o) : HR K (μ ++ [p]) (h ++ [o]) H := by
  have gr : ∀ (n : Nat) a, μ[n]? = some a → (μ ++ [p])[n]? = some a := fun n a e => by rw [List.getElem?_append_left (List.getElem?_eq_some_iff.mp e).1]; exact e
  refine ⟨by rw [List.length_append, List.length_append, r.len]; rfl, fun n m a e1 e2 => ?_, fun n a o1 e1 e2 => ?_⟩
  · have key : ∀ (n : Nat) (a : Addr), (μ ++ [p])[n]? = some a → (n < μ.length ∧ μ[n]? = some a) ∨ (n = μ.length ∧ a = p) := fun n a e => by
      by_cases hn : n < μ.length
      · rw [List.getElem?_append_left hn] at e; exact .inl ⟨hn, e⟩
      · right
        rw [List.getElem?_append_right (by omega)] at e
        have : n - μ.length = 0 := by
          cases q : n - μ.length with
          | zero => rfl
          | succ z => rw [q] at e; simp at e
        rw [this] at e
        simp at e
        exact ⟨by omega, e.symm⟩
    rcases key n a e1 with ⟨hn, q1⟩ | ⟨hn, q1⟩ <;> rcases key m a e2 with ⟨hm, q2⟩ | ⟨hm, q2⟩
    · exact r.inj n m a q1 q2
    · exact absurd (List.mem_of_getElem? q1) (q2 ▸ hp)
    · exact absurd (List.mem_of_getElem? q2) (q1 ▸ hp)
    · omega
  · by_cases hn : n < μ.length
    · rw [List.getElem?_append_left hn] at e1
      rw [List.getElem?_append_left (by rw [← r.len]; exact hn)] at e2
      exact (r.obj n a o1 e1 e2).mono' gr
    · rw [List.getElem?_append_right (by omega)] at e1
      have hz : n - μ.length = 0 := by
        cases z : n - μ.length with
        | zero => rfl
        | succ y => rw [z] at e1; simp at e1
      rw [hz] at e1
      simp at e1
      subst e1
      rw [List.getElem?_append_right (by rw [← r.len]; omega), ← r.len, hz] at e2
      simp at e2
      subst e2
      exact q _ gr
/-- a new object that is ours -/
theorem HR.alloc {K : PySem.W.Frag} {μ : List Addr} {h : Hh} {H : Hp} {p : Addr} {u : HO} {o : O} (r : HR K μ h H) (hp : H p = none) (hm : p ∉ μ) (q : ∀ μ', (∀ (n : Nat) a, μ[n]? = some a → μ'[n]? = some a) → RepO K μ' (upd H p u) p o) : HR K (μ ++ [p]) (h ++ [o]) (upd H p u) :=
  (r.tup hp).add hm q
/-- one of ours is changed -/
theorem HR.chg {K : PySem.W.Frag} {μ : List Addr} {h : Hh} {H : Hp} {n : Nat} {a : Addr} {o o' : O} {u : HO} (r : HR K μ h H) (hn : h[n]? = some o) (ha : μ[n]? = some a)
    (q : ∀ H', Ext K μ H μ H' → H' a = some u → RepO K μ H' a o') : HR K μ (h.set n o') (upd H a u) ∧ Ext K μ H μ (upd H a u) := by
  obtain ⟨w, hw, nt, nf⟩ : ∃ w, H a = some w ∧ (∀ xs, w ≠ .tup xs) ∧ ∀ o x, w ≠ .frz o x := by
    have z := r.obj n a o ha hn
    cases o with
    | lst ds => obtain ⟨vs, e, _⟩ := z; exact ⟨_, e, fun _ y => (nomatch y), fun _ _ y => (nomatch y)⟩
    | dK ds => obtain ⟨vs, e, _⟩ := z; exact ⟨_, e, fun _ y => (nomatch y), fun _ _ y => (nomatch y)⟩
  have ht : ∀ b xs, SqT K H b xs → SqT K (upd H a u) b xs := fun b xs z => by
    rcases z with z | z
    · left
      rcases z with z | ⟨ob, z⟩
      · exact .inl (by rw [upd_ne (fun y => by rw [y, hw] at z; exact nt _ (Option.some.inj z))]; exact z)
      · exact .inr ⟨ob, by rw [upd_ne (fun y => by rw [y, hw] at z; exact nf _ _ (Option.some.inj z))]; exact z⟩
    · exact .inr z
  have hf : ∀ b xs, Fz K H b xs → Fz K (upd H a u) b xs := fun b xs z => by
    rcases z with ⟨ob, z⟩ | z
    · exact .inl ⟨ob, by rw [upd_ne (fun y => by rw [y, hw] at z; exact nf _ _ (Option.some.inj z))]; exact z⟩
    · exact .inr z
  have ex : Ext K μ H μ (upd H a u) := ⟨fun _ _ z => z, ht, hf, fun b v e z => by rw [upd_ne (fun (y : b = a) => z (by rw [y]; exact List.mem_of_getElem? ha))]; exact e, fun _ z => .inl z⟩
  have hl : n < h.length := (List.getElem?_eq_some_iff.mp hn).1
  refine ⟨⟨by rw [List.length_set]; exact r.len, r.inj, fun m b v e1 e2 => ?_⟩, ex⟩
  by_cases hmn : m = n
  · subst hmn
    rw [List.getElem?_set_self hl] at e2
    cases e2
    rw [ha] at e1
    cases e1
    exact q _ ex upd_same
  · rw [List.getElem?_set_ne (Ne.symm hmn)] at e2
    have nb : b ≠ a := fun y => hmn (r.inj m n a (y ▸ e1) ha)
    exact (r.obj m b v e1 e2).keep ex fun _ g => by rw [upd_ne nb]; exact g

/-- the names -/
structure ER (K : PySem.W.Frag) (μ : List Addr) (ρ : En) (σ : St) (H : Hp) : Prop where
  len : ρ.length = σ.length
  val : ∀ (i : Nat) d, ρ[i]? = some (some d) → ∃ v, σ[i]? = some (some v) ∧ Rep K μ H d v
theorem ER.mono {K : PySem.W.Frag} {μ μ' : List Addr} {H H' : Hp} {ρ : En} {σ : St} (r : ER K μ ρ σ H) (e : Ext K μ H μ' H') : ER K μ' ρ σ H' :=
  ⟨r.len, fun i d h => let ⟨v, a, b⟩ := r.val i d h; ⟨v, a, b.mono e⟩⟩
theorem ER.set {K : PySem.W.Frag} {μ : List Addr} {H : Hp} {ρ : En} {σ : St} {d : D} {v : V} (r : ER K μ ρ σ H) (q : Rep K μ H d v) (i : Nat) : ER K μ (ρ.set i (some d)) (σ.set i (some v)) H := by
  refine ⟨by rw [List.length_set, List.length_set, r.len], fun j e hj => ?_⟩
  by_cases hij : i = j
  · subst hij
    rw [List.getElem?_set] at hj ⊢
    have hl : i < ρ.length := by
      by_cases hl : i < ρ.length
      · exact hl
      · rw [if_pos rfl, if_neg hl] at hj; cases hj
    rw [if_pos rfl, if_pos hl] at hj
    rw [if_pos rfl, if_pos (by rw [← r.len]; exact hl)]
    cases hj
    exact ⟨v, rfl, q⟩
  · rw [List.getElem?_set_ne hij] at hj ⊢
    exact r.val j e hj

/-- what is wanted behind an expression -/
def PostE {α β : Type} (K : PySem.W.Frag) (cv : Nat → Value) (R : List Addr → Hp → α → β → Prop) (μ : List Addr) (H : Hp) (r : Res α) (Q : β → Hp → Prop) (Z : Value → Hp → Prop) : Prop :=
  match r with
  | .ok d h' => ∀ μ' H' v, Ext K μ H μ' H' → HR K μ' h' H' → R μ' H' d v → Q v H'
  | .exc c h' => ∀ μ' H', Ext K μ H μ' H' → HR K μ' h' H' → Z (cv c) H'
  | .no => False
/-- an expression's reading as a rule of the layer -/
def lift {α β : Type} (K : PySem.W.Frag) (cv : Nat → Value) (R : List Addr → Hp → α → β → Prop) (Z : ZK) (m : En → Hh → Res α) : St → Hp → (β → Hp → Prop) → Prop :=
  fun σ H Q => ∃ μ ρ h, HR K μ h H ∧ ER K μ ρ σ H ∧ PostE K cv R μ H (m ρ h) Q (Z σ)
/-- a part, then the rest -/
theorem lift_bind {α β γ δ : Type} {K : PySem.W.Frag} {cv : Nat → Value} {R : List Addr → Hp → α → β → Prop} {R' : List Addr → Hp → γ → δ → Prop} {μ : List Addr} {ρ : En} {h : Hh} {σ : St} {H : Hp} {Z : ZK} {m : En → Hh → Res α} {f : α → Hh → Res γ} {Q : δ → Hp → Prop} {Q' : β → Hp → Prop}
    (hr : HR K μ h H) (er : ER K μ ρ σ H) (p : PostE K cv R' μ H ((m ρ h).bind f) Q (Z σ))
    (go : ∀ a h1 μ1 H1 x, m ρ h = .ok a h1 → Ext K μ H μ1 H1 → HR K μ1 h1 H1 → ER K μ1 ρ σ H1 → R μ1 H1 a x → PostE K cv R' μ1 H1 (f a h1) Q (Z σ) → Q' x H1) :
    lift K cv R Z m σ H Q' := by
  refine ⟨μ, ρ, h, hr, er, ?_⟩
  cases e : m ρ h with
  | ok a h1 =>
    rw [e, bind_ok] at p
    intro μ1 H1 x e1 r1 q1
    refine go a h1 μ1 H1 x e e1 r1 (er.mono e1) q1 ?_
    unfold PostE at p ⊢
    cases e2 : f a h1 with
    | ok b h2 => rw [e2] at p; exact fun μ2 H2 v e3 r3 q3 => p μ2 H2 v (e1.trans e3) r3 q3
    | exc c h2 => rw [e2] at p; exact fun μ2 H2 e3 r3 => p μ2 H2 (e1.trans e3) r3
    | no => rw [e2] at p; exact p
  | exc c h1 => rw [e, bind_exc] at p; exact p
  | no => rw [e, bind_no] at p; exact p
/-- the end of a step that changes nothing of the heap -/
theorem PostE.here {α β : Type} {K : PySem.W.Frag} {cv : Nat → Value} {R : List Addr → Hp → α → β → Prop} {μ : List Addr} {H : Hp} {d : α} {h : Hh} {v : β} {Q : β → Hp → Prop} {Z : Value → Hp → Prop} (p : PostE K cv R μ H (.ok d h) Q Z) (hr : HR K μ h H) (r : R μ H d v) : Q v H :=
  p μ H v Ext.refl hr r
end PI

set_option Elab.async false
set_option linter.all false
set_option maxRecDepth 100000
/-! The operations, by the layer's rules. -/
namespace PI
open PySem L2 PySem.Spec
open PyProof.Rows hiding St

section
variable {X : Cx} {pins : List (Addr × Obj)} {σ : St} {H : Hp} {s : Shared} {μ : List Addr} {h : Hh}

mutual
/-- a value read as data -/
theorem reads_of (I : Inv X pins σ H s) : ∀ {d : D} {v : V} {u : Value} {p : PyData}, Rep X.K μ H d v → RelV v u → D.pd h d = some p → ∃ as, Reads s.heap u p as
  | .non, _, _, _, r, q, e => by cases r; cases q; cases e; exact ⟨_, .none⟩
  | .bl b, _, _, _, r, q, e => by cases r; cases q; cases e; exact ⟨_, .bool b⟩
  | .int i, _, _, _, r, q, e => by cases r; obtain ⟨t, rfl⟩ := q; cases e; exact ⟨_, .int i t⟩
  | .str x, _, _, _, r, q, e => by cases r; obtain ⟨t, rfl⟩ := q; cases e; exact ⟨_, .str x t⟩
  | .tup ds, _, _, _, r, q, e => by
    cases r with
    | tup hs rs =>
      cases q
      unfold D.pd at e
      cases e1 : D.pds h ds with
      | none => rw [e1] at e; cases e
      | some ps =>
        rw [e1] at e; cases e
        obtain ⟨its, rv, ⟨o, g1, g2, n, g3⟩, _⟩ := I.tuple hs
        obtain ⟨as, ra⟩ := readsAll_of I rs rv e1
        exact ⟨_, .tuple g1 g2 g3 (by simpa using ra)⟩
  | .loc n, _, _, _, r, q, e => by cases e
  | .fl ds, _, _, _, r, q, e => by
    cases r with
    | fl hs rs =>
      cases q
      unfold D.pd at e
      cases e1 : D.pds h ds with
      | none => rw [e1] at e; cases e
      | some ps =>
        rw [e1] at e; cases e
        obtain ⟨its, rv, ⟨o, n, g1, g2, _, g3⟩, _⟩ := I.list hs.sq
        obtain ⟨as, ra⟩ := readsAll_of I rs rv e1
        exact ⟨_, .list g1 g2 g3 (by simpa using ra)⟩
theorem readsAll_of (I : Inv X pins σ H s) : ∀ {ds : List D} {vs : List V} {us : List Value} {ps : List PyData}, Reps X.K μ H ds vs → Vals vs us → D.pds h ds = some ps → ∃ as, ReadsAll s.heap us ps as
  | [], _, _, _, r, q, e => by cases r; cases q; cases e; exact ⟨_, .nil⟩
  | d :: ds, _, _, _, r, q, e => by
    cases r with
    | cons r1 r2 =>
      cases q with
      | cons q1 q2 =>
        unfold D.pds at e
        cases e1 : D.pd h d with
        | none => rw [e1] at e; cases e
        | some p =>
          cases e2 : D.pds h ds with
          | none => rw [e1, e2] at e; cases e
          | some ps =>
            rw [e1, e2] at e; cases e
            obtain ⟨as, ra⟩ := reads_of I r1 q1 e1
            obtain ⟨bs, rb⟩ := readsAll_of I r2 q2 e2
            exact ⟨_, .cons ra rb⟩
end
theorem HR.rd (hr : HR X.K μ h H) {n : Nat} {ds : List D} (e : rd h n = some ds) {a : Addr} (m : μ[n]? = some a) : ∃ vs, SqL X.K H a vs ∧ Reps X.K μ H ds vs := by
  unfold PI.rd at e
  cases e1 : h[n]? with
  | none => rw [e1] at e; cases e
  | some o =>
    rw [e1] at e
    have q := hr.obj n a o m e1
    cases o with
    | lst xs => cases e; obtain ⟨vs, q1, q2⟩ := q; exact ⟨vs, SqL.of q1, q2⟩
    | dK xs => cases e
theorem readsT_of (I : Inv X pins σ H s) (hr : HR X.K μ h H) {d : D} {v : V} {u : Value} {p : PyData} (r : Rep X.K μ H d v) (q : RelV v u) (e : pdT h d = some p) : ∃ as, Reads s.heap u p as := by
  cases d with
  | loc n =>
    cases r with
    | loc m =>
      cases q
      rw [pdT_loc] at e
      cases e1 : rd h n with
      | none => rw [e1] at e; cases e
      | some ds =>
        rw [e1] at e
        cases e2 : D.pds h ds with
        | none => rw [show (some ds).bind (fun xs => (D.pds h xs).map PyData.list) = (D.pds h ds).map PyData.list from rfl, e2] at e; cases e
        | some ps =>
          rw [show (some ds).bind (fun xs => (D.pds h xs).map PyData.list) = (D.pds h ds).map PyData.list from rfl, e2] at e; cases e
          obtain ⟨vs, hs, rs⟩ := hr.rd e1 m
          obtain ⟨its, rv, ⟨o, n', g1, g2, _, g3⟩, _⟩ := I.list hs
          obtain ⟨as, ra⟩ := readsAll_of I rs rv e2
          exact ⟨_, .list g1 g2 g3 (by simpa using ra)⟩
  | non => exact reads_of (h := h) I r q e
  | bl b => exact reads_of (h := h) I r q e
  | int i => exact reads_of (h := h) I r q e
  | str x => exact reads_of (h := h) I r q e
  | tup ds => exact reads_of (h := h) I r q e
  | fl ds => exact reads_of (h := h) I r q e
end

theorem line_le {n : Nat} (h : n ≤ 1000000) : n ≤ sizeLine := by rw [sizeLine_eq]; omega
theorem line_lt {n : Nat} (h : n < 1000000) : n < sizeLine := by rw [sizeLine_eq]; omega
section
variable {X : Cx} {cv : Nat → Value}
/-- an operation of two values, by our own -/
def r2 (K : PySem.W.Frag) (cv : Nat → Value) (f : D → D → Hh → Res D) : R2 := fun x y H Q => ∃ μ h a b Z, HR K μ h H ∧ Rep K μ H a x ∧ Rep K μ H b y ∧ PostE K cv (Rep K) μ H (f a b h) Q Z
def r1 (K : PySem.W.Frag) (cv : Nat → Value) (f : D → Hh → Res D) : V → Hp → VK → Prop := fun x H Q => ∃ μ h a Z, HR K μ h H ∧ Rep K μ H a x ∧ PostE K cv (Rep K) μ H (f a h) Q Z
theorem op_mulB : OpR X (binaryOp .Mult) (rI (fun i j => Builtin.Int.intBits i ≤ 2 ^ 20 ∧ Builtin.Int.intBits j ≤ 2 ^ 20) fun i j => .int (i * j)) := opI fun _ _ _ _ _ _ _ hc q => mul_int q (IntMulOk.of_bits hc.1 hc.2)
theorem op_shlB : OpR X (binaryOp .LShift) (rI (fun i j => Builtin.Int.intBits i ≤ 2 ^ 20 ∧ 0 ≤ j ∧ j ≤ 1000000) fun i j => .int (i * 2 ^ j.toNat)) := opI fun _ _ _ _ _ _ _ hc q => lshift_int hc.2.1 (by have := hc.1; have := hc.2.2; omega) q
theorem mul_ok {x : Str} {j : Int} (h : 0 ≤ j ∧ j ≤ 1000 ∧ x.length ≤ 1000) : MulOk x j := by
  obtain ⟨h0, h1, h2⟩ := h
  refine ⟨by simp; omega, fun a b c => ?_, fun a b => ?_⟩
  · have hj : 1 ≤ j := by omega
    have : (2 ^ 63 - 1) / 1000 ≤ (2 ^ 63 - 1 : Int) / j := Int.le_ediv_of_mul_le (by omega) (by
      have : ((2 ^ 63 - 1) / 1000 : Int) * j ≤ ((2 ^ 63 - 1) / 1000) * 1000 := Int.mul_le_mul_of_nonneg_left h1 (by decide)
      have e : (((2 ^ 63 - 1) / 1000 : Int) * 1000) ≤ 2 ^ 63 - 1 := by decide
      omega)
    have e : (1000 : Int) < (2 ^ 63 - 1) / 1000 := by decide
    omega
  · have hm : x.length * j.toNat ≤ 1000 * 1000 := Nat.mul_le_mul h2 (by omega)
    unfold PySem.Builtin.Str.tooLong
    exact decide_eq_false (by rw [sizeLine_eq]; omega)
theorem op_mulS : OpR X (binaryOp .Mult) (fun x y H Q => ∃ z j, x = .str z ∧ y = .int j ∧ (0 ≤ j ∧ j ≤ 1000 ∧ z.length ≤ 1000) ∧ Q (.str (Txt.mul z j)) H) := by
  intro pins s σ H x y v u Q I rx ry h
  obtain ⟨z, j, rfl, rfl, hc, q⟩ := h
  obtain ⟨t, rfl⟩ := rx
  obtain ⟨t', rfl⟩ := ry
  exact SB.mul (mul_ok hc) fun t' k => ⟨.str _, H, I.tok _, ⟨_, rfl⟩, q⟩
theorem op_bin (op : Operator) : OpR X (binaryOp op) (r2 X.K cv (binD op)) := by
  intro pins s σ H x y v u Q I rx ry hh
  obtain ⟨μ, h, a, b, Z, hr, ra, rb, p⟩ := hh
  unfold binD at p
  split at p
  · cases ra; cases rb; exact op_add pins s σ H _ _ v u Q I rx ry ⟨_, _, rfl, rfl, p.here hr (.int _)⟩
  · cases ra; cases rb; exact op_sub pins s σ H _ _ v u Q I rx ry ⟨_, _, rfl, rfl, p.here hr (.int _)⟩
  · cases ra; cases rb
    split at p
    · rename_i i j c
      exact op_mulB pins s σ H _ _ v u Q I rx ry ⟨_, _, rfl, rfl, ⟨of_decide_eq_true c.1, of_decide_eq_true c.2⟩, p.here hr (.int _)⟩
    · exact p.elim
  · cases ra; cases rb
    split at p
    · rename_i i j c
      exact op_fdiv pins s σ H _ _ v u Q I rx ry ⟨_, _, rfl, rfl, c, p.here hr (.int _)⟩
    · exact p.elim
  · cases ra; cases rb
    split at p
    · rename_i i j c
      exact op_mod pins s σ H _ _ v u Q I rx ry ⟨_, _, rfl, rfl, c, p.here hr (.int _)⟩
    · exact p.elim
  · cases ra; cases rb
    split at p
    · rename_i i j c
      exact op_pow pins s σ H _ _ v u Q I rx ry ⟨_, _, rfl, rfl, c, p.here hr (.int _)⟩
    · exact p.elim
  · cases ra; cases rb
    split at p
    · rename_i i j c
      exact op_shlB pins s σ H _ _ v u Q I rx ry ⟨_, _, rfl, rfl, ⟨of_decide_eq_true c.1, c.2⟩, p.here hr (.int _)⟩
    · exact p.elim
  · cases ra; cases rb
    split at p
    · rename_i i j c
      exact op_shr pins s σ H _ _ v u Q I rx ry ⟨_, _, rfl, rfl, c, p.here hr (.int _)⟩
    · exact p.elim
  · cases ra; cases rb; exact op_and pins s σ H _ _ v u Q I rx ry ⟨_, _, rfl, rfl, p.here hr (.int _)⟩
  · cases ra; cases rb; exact op_or pins s σ H _ _ v u Q I rx ry ⟨_, _, rfl, rfl, p.here hr (.int _)⟩
  · cases ra; cases rb
    split at p
    · rename_i i j c
      exact op_add_str pins s σ H _ _ v u Q I rx ry ⟨_, _, rfl, rfl, line_le c, p.here hr (.str _)⟩
    · exact p.elim
  · cases ra; cases rb
    split at p
    · rename_i i j c
      exact op_mulS pins s σ H _ _ v u Q I rx ry ⟨_, _, rfl, rfl, c, p.here hr (.str _)⟩
    · exact p.elim
  · rename_i n m
    cases ra with
    | loc ma =>
      cases rb with
      | loc mb =>
        split at p
        · rename_i xs ys e1 e2
          split at p
          · rename_i c
            obtain ⟨va, ha, qa⟩ := hr.obj n _ _ ma e1
            obtain ⟨vb, hb, qb⟩ := hr.obj m _ _ mb e2
            refine op_cat pins s σ H _ _ v u Q I rx ry ⟨_, _, _, _, rfl, rfl, ha, hb, by rw [← qa.length, ← qb.length]; exact line_le c, fun b hb => ?_⟩
            have nb : b ∉ μ := hr.fresh hb
            refine p _ _ _ ((ext_new hb).add hb) (hr.alloc hb nb fun μ' g => ⟨_, upd_same, ((qa.append qb).mono (ext_new hb)).mono' g⟩) (.loc ?_)
            rw [← hr.len, List.getElem?_append_right (Nat.le_refl _), Nat.sub_self]
            rfl
          · exact p.elim
        · exact p.elim
  · exact p.elim
theorem op_cmp (hu : X.A.units + 64 < cLine) (op : CmpOp) : OpR X (compareOp op) (r2 X.K cv (cmpD op)) := by
  intro pins s σ H x y v u Q I rx ry hh
  obtain ⟨μ, h, a, b, Z, hr, ra, rb, p⟩ := hh
  unfold cmpD at p
  split at p
  · cases ra; cases rb; exact op_lt pins s σ H _ _ v u Q I rx ry ⟨_, _, rfl, rfl, p.here hr (.bl _)⟩
  · cases ra; cases rb; exact op_le pins s σ H _ _ v u Q I rx ry ⟨_, _, rfl, rfl, p.here hr (.bl _)⟩
  · cases ra; cases rb; exact op_gt pins s σ H _ _ v u Q I rx ry ⟨_, _, rfl, rfl, p.here hr (.bl _)⟩
  · cases ra; cases rb; exact op_ge pins s σ H _ _ v u Q I rx ry ⟨_, _, rfl, rfl, p.here hr (.bl _)⟩
  · unfold eqR at p
    split at p
    · rename_i pu pv e1 e2
      split at p
      · rename_i c
        obtain ⟨as, q1⟩ := readsT_of I hr ra rx e1
        obtain ⟨bs, q2⟩ := readsT_of I hr rb ry e2
        exact SeqAt.compareEq_reads q1 q2 c.1 c.2.1 (by have := Nat.min_le_left pu.depth pv.depth; omega) ⟨.bl _, H, I, rfl, p.here hr (.bl _)⟩
      · exact p.elim
    · exact p.elim
  · unfold eqR at p
    split at p
    · rename_i pu pv e1 e2
      split at p
      · rename_i c
        obtain ⟨as, q1⟩ := readsT_of I hr ra rx e1
        obtain ⟨bs, q2⟩ := readsT_of I hr rb ry e2
        exact SeqAt.compareNe_reads q1 q2 c.1 c.2.1 (by have := Nat.min_le_left pu.depth pv.depth; omega) ⟨.bl _, H, I, rfl, p.here hr (.bl _)⟩
      · exact p.elim
    · exact p.elim
  · cases ra; cases rb; cases rx; cases ry
    rename_i b1 b2
    exact wpAny_is_plain rfl (fin_bl I (p.here hr (.bl _)) (by cases b1 <;> cases b2 <;> rfl))
  · cases ra; cases rb; cases rx; cases ry
    rename_i b1 b2
    exact wpAny_isNot_plain rfl (fin_bl I (p.here hr (.bl _)) (by cases b1 <;> cases b2 <;> rfl))
  · exact p.elim
end
end PI

set_option Elab.async false
set_option linter.all false
set_option maxRecDepth 100000
/-! The text is read as our functions say. -/
namespace PI
open PySem L2 PySem.Spec
open PyProof.Rows hiding St

def RB : List Addr → Hp → Bool → Bool → Prop := fun _ _ b c => b = c
/-- what a def promises: our function's end -/
def spI (K : PySem.W.Frag) (cv : Nat → Value) (np : Nat) (c : List D → Hh → Res D) : Sp := fun vs H Q E =>
  vs.length = np ∧ ∃ μ h ds, HR K μ h H ∧ Reps K μ H ds vs ∧ PostE K cv (Rep K) μ H (c ds h) Q (fun C H' => E C none H')

def bnames : List Str := ["len", "isinstance", "int", "bool", "str", "tuple", "list", "range", "max"]
/-- which names a scope asks of the top -/
def gOf (sc : Scope) (x : Str) : Bool := decide (sc.names.lookup x = some .globalImplicit)
/-- a comprehension's scope within another one -/
def relab (scope osc : Scope) : Scope :=
  { scope with names := scope.names.map fun (n, k) => if (k == .free && osc.kind == .function && osc.names.lookup n == some .cell) then (n, .cell) else (n, k) }
def Tg.idx : Tg → List Nat
  | .one i _ => [i]
  | .tup is _ => is.map (·.1)
/-- a target's names are the scope's own -/
def Tg.ok (sc : Scope) (N : List Str) (t : Tg) : Bool := t.idx.all fun i => decide (i < N.length) && decide (sc.names.lookup (N.getD i "") = some .local)
def Tg.okS (N : List Str) (t : Tg) : Bool := t.idx.all fun i => decide (i < N.length)
def goodN (x : Str) : Bool := !(x == ("__debug__" : Str)) && !(x == ("__classdict__" : Str))
mutual
/-- the names that e asks of the text's top stand there -/
def E.ok (sc : Scope) (n : Nm) : E → Bool
  | .non _ | .bl _ _ | .int _ _ | .str _ _ => true
  | .var i _ => decide (i < n.N.length)
  | .bin _ a b _ => a.ok sc n && b.ok sc n
  | .un op a _ => a.ok sc n && (match op with | .Not => a.okT | _ => true)
  | .cmp op a b _ => a.ok sc n && b.ok sc n && !behindInMarks op (b.py n)
  | .and a b r _ => a.ok sc n && b.ok sc n && r.ok sc n && a.okT && b.okT && r.okT
  | .or a b r _ => a.ok sc n && b.ok sc n && r.ok sc n && a.okT && b.okT && r.okT
  | .ite c a b _ => c.ok sc n && a.ok sc n && b.ok sc n && c.okT
  | .call f a r _ _ => decide (f < n.F.length) && gOf sc (n.F.getD f "") && a.ok sc n && r.ok sc n
  | .len a _ _ => gOf sc "len" && a.ok sc n
  | .isi T a _ _ _ => gOf sc "isinstance" && gOf sc (tyName T) && decide (T < 5) && a.ok sc n
  | .sub a i _ => a.ok sc n && i.ok sc n
  | .tup es _ => es.ok sc n
  | .ofL l => l.ok sc n
  | .tupL l _ _ => gOf sc "tuple" && l.ok sc n
  | .tupE e _ _ => gOf sc "tuple" && e.ok sc n
  | .listE e _ _ => gOf sc "list" && e.ok sc n
  | .cut a lo hi _ _ => a.ok sc n && lo.ok sc n && hi.ok sc n
  | .dic _ => true
  | .m0 _ o p1 p => o.ok sc n && decide (p1.endLine = p.line)
  | .m1 _ o a p1 p => o.ok sc n && a.ok sc n && decide (p1.endLine = p.line)
  | .max2 a b _ _ => gOf sc "max" && a.ok sc n && b.ok sc n
def Eo.ok (sc : Scope) (n : Nm) : Eo → Bool
  | .none => true
  | .some e => e.ok sc n
def L.ok (sc : Scope) (n : Nm) : L → Bool
  | .disp es _ => es.ok sc n
  | .comp elt t it c NC cap csc _ => it.ok sc n && compOk sc csc n.N NC cap && decide NC.Nodup && NC.all goodN && t.ok (relab csc sc) NC && elt.ok (relab csc sc) ⟨NC, n.F⟩ && c.ok (relab csc sc) ⟨NC, n.F⟩ && c.okT && c.short
def I.ok (sc : Scope) (n : Nm) : I → Bool
  | .seq e => e.ok sc n
  | .lst l => l.ok sc n
  | .rng a _ _ => gOf sc "range" && a.ok sc n
def Es.ok (sc : Scope) (n : Nm) : Es → Bool
  | .nil => true
  | .cons e r => e.ok sc n && r.ok sc n
/-- a test that is the value's truth, or and, or, not of such -/
def E.okT : E → Bool
  | .non _ | .bl _ _ | .int _ _ | .str _ _ => false
  | .ite _ _ _ _ => false
  | .ofL _ => false
  | .dic _ => false
  | .un op a _ => match op with | .Not => a.okT | _ => true
  | _ => true
def Es.okT : Es → Bool
  | .nil => true
  | .cons e r => e.okT && r.okT
/-- none, or one -/
def Es.short : Es → Bool
  | .nil => true
  | .cons _ .nil => true
  | .cons _ (.cons _ _) => false
end

structure Kx (X : Cx) (Z : ZK) (k : Nat) (n : Nm) (cv : Nat → Value) (cl : Nat → List D → Hh → Res D) : Prop where
  th : Thr X Z
  rm : Room k X.A
  nN : X.N = n.N
  nd : X.N.Nodup
  cm : X.calm = true
  kd : X.env.scope.kind = .function
  nm : ∀ x ∈ n.N, Vis X.env.scope x ∧ goodN x = true
  bm : ∀ x, x ∈ bnames → X.mg x = none
  fn : ∀ i x, n.F[i]? = some x → (x == ("__debug__" : Str)) = false ∧ ∃ f fd ps, X.mg x = some (.ref f) ∧ PySem.W.keepIn X.K (.ref f) = true ∧ Binds X.K fd ps [] ∧ (∀ ds h, cl i ds h ≠ .no → ds.length = ps.length) ∧
    FnOk X.prog X.w X.K X.mg X.base (CXs X.prog X.w) k f fd ps (spI X.K cv ps.length (cl i))
theorem Kx.gl {X : Cx} {Z : ZK} {k : Nat} {n : Nm} {cv : Nat → Value} {cl : Nat → List D → Hh → Res D} (C : Kx X Z k n cv cl) {x : Str} (h : gOf X.env.scope x = true) : Gl X x := show X.env.scope.names.lookup x = some .globalImplicit from of_decide_eq_true h
theorem goodN_of {x : Str} (h : goodN x = true) : (x == ("__debug__" : Str)) = false ∧ (x == ("__classdict__" : Str)) = false := by unfold goodN at h; simpa using h

theorem bind_pure {α : Type} (r : Res α) : (r.bind fun a h => .ok a h) = r := by cases r <;> rfl
theorem bind_assoc {α β γ : Type} (r : Res α) (f : α → Hh → Res β) (q : β → Hh → Res γ) : (r.bind f).bind q = r.bind fun a h => (f a h).bind q := by cases r <;> rfl
theorem PE.mono {X : Cx} {e : Expr} {t t' : TE} (p : PE X e t) (h : ∀ σ H Q, t' σ H Q → t σ H Q) : PE X e t' := fun pins s σ H Q I q => p pins s σ H Q I (h σ H Q q)
theorem PT.mono {X : Cx} {e : Expr} {t t' : TT} (p : PT X e t) (h : ∀ σ H Q, t' σ H Q → t σ H Q) : PT X e t' := fun pins s σ H Q I q => p pins s σ H Q I (h σ H Q q)
theorem PW.mono {X : Cx} {e : Expr} {t t' : TT} (p : PW X e t) (h : ∀ σ H Q, t' σ H Q → t σ H Q) : PW X e t' := fun wh pins s σ H Q I q => p wh pins s σ H Q I (h σ H Q q)
theorem PA.mono {X : Cx} {e : List Expr} {t t' : TA} (p : PA X e t) (h : ∀ σ H Q, t' σ H Q → t σ H Q) : PA X e t' := fun ps pins s σ H Q I q => p ps pins s σ H Q I (h σ H Q q)

/-- a truth -/
def toB (d : D) (h : Hh) : Res Bool := match d with | .bl b => .ok b h | _ => .no
theorem evT_eq (cl : Nat → List D → Hh → Res D) (e : E) (ρ : En) (h : Hh) : e.evT cl ρ h = (e.ev cl ρ h).bind toB := rfl
section
variable {X : Cx} {Z : ZK} {k : Nat} {n : Nm} {cv : Nat → Value} {cl : Nat → List D → Hh → Res D}
theorem L.py_star (l : L) (r : List Expr) (env : Env) : starEach (l.py n :: r) env = (false, eval (l.py n) env) :: starEach r env := by cases l <;> (unfold L.py; rfl)
theorem star_cons (e : E) (r : List Expr) (env : Env) : starEach (e.py n :: r) env = (false, eval (e.py n) env) :: starEach r env := by
  cases e with
  | ofL l => unfold E.py; exact L.py_star l r env
  | _ => unfold E.py; rfl
theorem star_plain : ∀ (r : Es) (pos : Pos) (env : Env), (backTo pos (starEach (r.py n) env)).any (·.1) = false
  | .nil, _, _ => by unfold Es.py; rfl
  | .cons e r, pos, env => by
    unfold Es.py
    rw [star_cons]
    exact star_plain r pos env
theorem plain_ix (e : E) : PlainIx (e.py n) := by
  intro o i
  cases e with
  | ofL l => cases l <;> (unfold E.py L.py; rfl)
  | _ => unfold E.py; rfl
/-- the truth of a value that is one -/
theorem pt_lift {e : Expr} {m : En → Hh → Res D} (p : PE X e (lift X.K cv (Rep X.K) Z m)) (he : ∀ whole, isTrue e X.env whole = (do let v ← whole; standAt e.pos; holding [v] (truthy v))) :
    PT X e (lift X.K cv RB Z fun ρ h => (m ρ h).bind toB) := by
  refine PT.mono (pt_val p he) fun σ H Q ⟨μ, ρ, h, hr, er, q⟩ => ?_
  refine lift_bind (m := m) hr er q fun a h1 μ1 H1 x _ e1 r1 er1 qa p1 => ?_
  unfold toB at p1
  cases qa with
  | bl b => exact ⟨b, rfl, p1.here r1 rfl⟩
  | _ => exact p1.elim

noncomputable def Es.evAndT (cl : Nat → List D → Hh → Res D) : Es → En → Bool → Hh → Res Bool
  | .nil, _, c, h => .ok c h
  | .cons e r, ρ, c, h => if c then (e.evT cl ρ h).bind fun c' h2 => r.evAndT cl ρ c' h2 else .ok false h
noncomputable def Es.evOrT (cl : Nat → List D → Hh → Res D) : Es → En → Bool → Hh → Res Bool
  | .nil, _, c, h => .ok c h
  | .cons e r, ρ, c, h => if c then .ok true h else (e.evT cl ρ h).bind fun c' h2 => r.evOrT cl ρ c' h2
theorem and_toB : ∀ (r : Es) (ρ : En) (d : D) (h : Hh), (r.evAnd cl ρ d h).bind toB = (toB d h).bind fun c h1 => r.evAndT cl ρ c h1
  | .nil, ρ, d, h => by unfold Es.evAnd Es.evAndT; rw [bind_pure]; rfl
  | .cons e r, ρ, d, h => by
    unfold Es.evAnd Es.evAndT tru
    cases d with
    | bl b =>
      cases b with
      | false => rfl
      | true =>
        show (((e.ev cl ρ h).bind fun y h2 => r.evAnd cl ρ y h2).bind toB) = ((e.ev cl ρ h).bind toB).bind fun c' h2 => r.evAndT cl ρ c' h2
        rw [bind_assoc, bind_assoc]
        congr 1
        funext y h2
        exact and_toB r ρ y h2
    | _ => rfl
theorem or_toB : ∀ (r : Es) (ρ : En) (d : D) (h : Hh), (r.evOr cl ρ d h).bind toB = (toB d h).bind fun c h1 => r.evOrT cl ρ c h1
  | .nil, ρ, d, h => by unfold Es.evOr Es.evOrT; rw [bind_pure]; rfl
  | .cons e r, ρ, d, h => by
    unfold Es.evOr Es.evOrT tru
    cases d with
    | bl b =>
      cases b with
      | true => rfl
      | false =>
        show (((e.ev cl ρ h).bind fun y h2 => r.evOr cl ρ y h2).bind toB) = ((e.ev cl ρ h).bind toB).bind fun c' h2 => r.evOrT cl ρ c' h2
        rw [bind_assoc, bind_assoc]
        congr 1
        funext y h2
        exact or_toB r ρ y h2
    | _ => rfl
end
end PI

set_option Elab.async false
set_option linter.all false
set_option maxRecDepth 100000
set_option maxHeartbeats 4000000
/-! Expressions. -/
namespace PI
open PySem L2 PySem.Spec
open PyProof.Rows hiding St
section
variable {X : Cx} {Z : ZK} {k : Nat} {n : Nm} {cv : Nat → Value} {cl : Nat → List D → Hh → Res D}

/-- what is shown of an expression -/
structure SE (X : Cx) (Z : ZK) (n : Nm) (cv : Nat → Value) (cl : Nat → List D → Hh → Res D) (e : E) : Prop where
  pe : PE X (e.py n) (lift X.K cv (Rep X.K) Z (e.ev cl))
  pt : e.okT = true → PT X (e.py n) (lift X.K cv RB Z (e.evT cl))
/-- .. of an argument list; of the rest of an and, an or -/
structure SEs (X : Cx) (Z : ZK) (n : Nm) (cv : Nat → Value) (cl : Nat → List D → Hh → Res D) (r : Es) : Prop where
  pa : PA X (r.py n) (lift X.K cv (Reps X.K) Z (r.ev cl))
  an : ∀ (b : E) (p : Pos), SE X Z n cv cl b → PE X (.BoolOp .And (b.py n :: r.py n) p) (lift X.K cv (Rep X.K) Z fun ρ h => (b.ev cl ρ h).bind fun y h2 => r.evAnd cl ρ y h2)
  anT : ∀ (b : E) (p : Pos), SE X Z n cv cl b → b.okT = true → r.okT = true → PW X (.BoolOp .And (b.py n :: r.py n) p) (lift X.K cv RB Z fun ρ h => (b.evT cl ρ h).bind fun c h2 => r.evAndT cl ρ c h2)
  orr : ∀ (b : E) (p : Pos), SE X Z n cv cl b → PE X (.BoolOp .Or (b.py n :: r.py n) p) (lift X.K cv (Rep X.K) Z fun ρ h => (b.ev cl ρ h).bind fun y h2 => r.evOr cl ρ y h2)
  orT : ∀ (b : E) (p : Pos), SE X Z n cv cl b → b.okT = true → r.okT = true → PW X (.BoolOp .Or (b.py n :: r.py n) p) (lift X.K cv RB Z fun ρ h => (b.evT cl ρ h).bind fun c h2 => r.evOrT cl ρ c h2)

theorem lift_C {v : V} {d : D} {Q : VK} {σ : St} {H : Hp} (hv : ∀ K μ H, Rep K μ H d v) (p : lift X.K cv (Rep X.K) Z (fun _ h => .ok d h) σ H Q) : tC v σ H Q := by
  obtain ⟨μ, ρ, h, hr, er, q⟩ := p
  exact q.here hr (hv _ _ _)
theorem lift2 {f : D → D → Hh → Res D} {a b : E} {σ : St} {H : Hp} {Q : VK} (p : lift X.K cv (Rep X.K) Z (fun ρ h => (a.ev cl ρ h).bind fun x h1 => (b.ev cl ρ h1).bind fun y h2 => f x y h2) σ H Q) :
    tOp (r2 X.K cv f) (lift X.K cv (Rep X.K) Z (a.ev cl)) (lift X.K cv (Rep X.K) Z (b.ev cl)) σ H Q := by
  obtain ⟨μ, ρ, h, hr, er, q⟩ := p
  refine lift_bind (m := a.ev cl) hr er q fun da h1 μ1 H1 x _ e1 r1 er1 qa p1 => ?_
  refine lift_bind (m := b.ev cl) r1 er1 p1 fun db h2 μ2 H2 y _ e2 r2 er2 qb p2 => ?_
  exact ⟨μ2, h2, da, db, _, r2, qa.mono e2, qb, p2⟩
theorem lift1 {f : D → Hh → Res D} {a : E} {σ : St} {H : Hp} {Q : VK} (p : lift X.K cv (Rep X.K) Z (fun ρ h => (a.ev cl ρ h).bind fun x h1 => f x h1) σ H Q) :
    tUn (r1 X.K cv f) (lift X.K cv (Rep X.K) Z (a.ev cl)) σ H Q := by
  obtain ⟨μ, ρ, h, hr, er, q⟩ := p
  refine lift_bind (m := a.ev cl) hr er q fun da h1 μ1 H1 x _ e1 r1 er1 qa p1 => ?_
  exact ⟨μ1, h1, da, _, r1, qa, p1⟩

theorem un_op (op : UnaryOp) (h : op = .Invert ∨ op = .USub) : UnR X (unaryOp op) (r1 X.K cv (unD op)) := by
  intro pins s σ H x v Q I rx hh
  obtain ⟨μ, h', a, Z', hr, ra, p⟩ := hh
  rcases h with rfl | rfl
  · unfold unD at p
    cases ra with
    | int i => exact un_inv pins s σ H _ v Q I rx ⟨i, rfl, p.here hr (.int _)⟩
    | _ => exact p.elim
  · unfold unD at p
    cases ra with
    | int i => exact un_neg pins s σ H _ v Q I rx ⟨i, rfl, p.here hr (.int _)⟩
    | _ => exact p.elim

theorem ix_dict (hu : X.A.units + 1 < cLine) : IxR X (fun x y H Q => ∃ a v, x = .ref a ∧ DGet H a y (some v) ∧ Q v H) := by
  intro value slice pins s σ H x y v u Q I rx ry h hs
  obtain ⟨a, w, rfl, g, q⟩ := h
  cases rx
  have ty : s.TypeIs (.ref a) "dict" := by
    rcases g with ⟨kvs, k, e, ey, l⟩ | ⟨kvs, k, b, e, ey, eb, l⟩
    · obtain ⟨_, _, vs, _, o, es, ep, e1, ex, _⟩ := e.ok I.hok
      exact ⟨o, e1, ex.1⟩
    · obtain ⟨_, _, xs, _, o, es, ep, e1, ex, _⟩ := e.ok I.hok
      exact ⟨o, e1, ex.1⟩
  exact tail_any ty slot_dict_getitem.lookup (d_getItem hu I g ry fun w' s' I' r' => ⟨w, H, I', r', q⟩) hs
theorem RepKs.val {K : PySem.W.Frag} {μ : List Addr} {H : Hp} {k : Key} {d : D} : ∀ {ds : List (Key × D)} {vs : List (Key × V)}, RepKs K μ H ds vs → valD ds k = some d → ∃ v, valV vs k = some v ∧ Rep K μ H d v
  | _, _, .nil, e => by unfold valD at e; simp at e
  | _, _, .cons (k := k') (d := d') (v := v') h r, e => by
    by_cases hk : k' = k
    · rw [valV_pos (p := (k', v')) hk]
      unfold valD at e
      rw [List.find?_cons_of_pos (by simpa using hk)] at e
      cases e
      exact ⟨_, rfl, h⟩
    · rw [valV_neg (p := (k', v')) hk]
      unfold valD at e
      rw [List.find?_cons_of_neg (by simpa using hk)] at e
      exact RepKs.val r e
theorem keyD_rep {K : PySem.W.Frag} {μ : List Addr} {H : Hp} {d : D} {v : V} {k : Key} (r : Rep K μ H d v) (e : keyD d = some k) : v = kV k := by
  unfold keyD at e
  cases r <;> first | (cases e; rfl) | cases e
theorem ix_ours (hu : X.A.units + 1 < cLine) : IxR X (r2 X.K cv subD) := by
  intro value slice pins s σ H x y v u Q I rx ry hh hs
  obtain ⟨μ, h, a, b, Z', hr, ra, rb, p⟩ := hh
  cases ra with
  | tup h1 h2 =>
    cases rb with
    | int k =>
      rw [sub_tup] at p
      split at p
      · rename_i d e
        obtain ⟨w, e1, e2⟩ := h2.atI e
        exact ix_tup value slice pins s σ H _ _ v u Q I rx ry ⟨_, _, _, w, rfl, rfl, h1, e1, p.here hr e2⟩ hs
      · exact p.elim
    | _ => exact p.elim
  | fl h1 h2 =>
    cases rb with
    | int k =>
      rw [sub_fl] at p
      split at p
      · rename_i d e
        obtain ⟨w, e1, e2⟩ := h2.atI e
        exact ix_list value slice pins s σ H _ _ v u Q I rx ry ⟨_, _, _, w, rfl, rfl, h1.sq, e1, p.here hr e2⟩ hs
      · exact p.elim
    | _ => exact p.elim
  | str z =>
    cases rb with
    | int k =>
      rw [sub_str] at p
      split at p
      · rename_i c
        split at p
        · rename_i d e
          exact ix_str value slice pins s σ H _ _ v u Q I rx ry ⟨_, _, _, rfl, rfl, line_le c, e, p.here hr (.str _)⟩ hs
        · exact p.elim
      · exact p.elim
    | _ => exact p.elim
  | @loc nn a m =>
    rw [sub_loc] at p
    cases e1 : h[nn]? with
    | none => rw [e1] at p; exact p.elim
    | some o =>
      rw [e1] at p
      have q := hr.obj nn a o m e1
      cases o with
      | lst xs =>
        obtain ⟨vs, q1, q2⟩ := q
        cases rb with
        | int k =>
          cases e2 : atI xs k with
          | none => simp only [e2] at p; exact p.elim
          | some d =>
            simp only [e2] at p
            obtain ⟨w, e3, e4⟩ := q2.atI e2
            exact ix_list value slice pins s σ H _ _ v u Q I rx ry ⟨_, _, _, w, rfl, rfl, SqL.of q1, e3, p.here hr e4⟩ hs
        | _ => exact p.elim
      | dK kvs =>
        obtain ⟨vs, q1, q2⟩ := q
        cases e2 : keyD b with
        | none => simp only [e2, Option.bind_none] at p; exact p.elim
        | some k =>
          simp only [e2, Option.bind_some] at p
          cases e3 : valD kvs k with
          | none => simp only [e3] at p; exact p.elim
          | some d =>
            simp only [e3] at p
            obtain ⟨w, e4, e5⟩ := q2.val e3
            have ey := keyD_rep rb e2
            subst ey
            exact ix_dict hu value slice pins s σ H _ _ v u Q I rx ry ⟨_, w, rfl, e4 ▸ DGet.k q1, p.here hr e5⟩ hs
  | _ => exact p.elim

def rLen (K : PySem.W.Frag) (cv : Nat → Value) : List V → Hp → VK → Prop := fun xs H Q => ∃ x, xs = [x] ∧ r1 K cv lenD x H Q
theorem call_lenI : CallR X (.builtin "len") (rLen X.K cv) := by
  intro pins s σ H xs us Q I r hh
  obtain ⟨x, rfl, μ, h, a, Z', hr, ra, p⟩ := hh
  refine call_len pins s σ H _ us Q I r ⟨x, ?_⟩
  cases ra with
  | tup h1 h2 => exact ⟨_, rfl, .inr ⟨_, h1, h2.length⟩, p.here hr (.int _)⟩
  | @loc nn b m =>
    rw [len_loc] at p
    cases e1 : rd h nn with
    | none => rw [e1] at p; exact p.elim
    | some ys =>
      rw [e1] at p
      obtain ⟨vs, hs1, rs⟩ := hr.rd e1 m
      exact ⟨_, rfl, .inl ⟨_, hs1, rs.length⟩, p.here hr (.int _)⟩
  | fl h1 h2 => exact ⟨_, rfl, .inl ⟨_, h1.sq, h2.length⟩, p.here hr (.int _)⟩
  | str y =>
    rw [len_str] at p
    split at p
    · rename_i c; exact ⟨_, rfl, ⟨line_le c, rfl⟩, p.here hr (.int _)⟩
    · exact p.elim
  | _ => exact p.elim

def isD (T : Nat) (d : D) (h : Hh) : Res D := match isI h d T with | some b => .ok (.bl b) h | none => .no
theorem call_isI (T : Nat) (hT : T < 5) : CallR X (.builtin "isinstance") (fun xs H Q => ∃ x, xs = [x, .ty (tyStr T)] ∧ r1 X.K cv (isD T) x H Q) := by
  intro pins s σ H xs us Q I r hh
  obtain ⟨x, rfl, μ, h, a, Z', hr, ra, p⟩ := hh
  obtain ⟨u, w', rfl, rx, rw'⟩ := vals2 r
  cases (show w' = Value.type (tyStr T) from rw')
  unfold isD at p
  have key : ∀ (b : Bool), Q (.bl b) H → ∀ tk, EP X pins σ Q (.bool b) { s with toks := tk } := fun b q tk => ⟨.bl b, H, I.tok _, rfl, q⟩
  cases ra with
  | non =>
    have p1 : Q (.bl false) H := p.here hr (.bl _)
    refine isinst_ok I rx .non (b := false) ?_ (key _ p1)
    match T, hT with | 0, _ => rfl | 1, _ => rfl | 2, _ => rfl | 3, _ => rfl | 4, _ => rfl
  | bl y =>
    have p1 : Q (.bl (T == 0 || T == 1)) H := p.here hr (.bl _)
    refine isinst_ok I rx (.bl y) (b := (T == 0 || T == 1)) ?_ (key _ p1)
    match T, hT with | 0, _ => rfl | 1, _ => rfl | 2, _ => rfl | 3, _ => rfl | 4, _ => rfl
  | int y =>
    have p1 : Q (.bl (T == 0)) H := p.here hr (.bl _)
    refine isinst_ok I rx (.int y) (b := (T == 0)) ?_ (key _ p1)
    match T, hT with | 0, _ => rfl | 1, _ => rfl | 2, _ => rfl | 3, _ => rfl | 4, _ => rfl
  | str y =>
    have p1 : Q (.bl (T == 2)) H := p.here hr (.bl _)
    refine isinst_ok I rx (.str y) (b := (T == 2)) ?_ (key _ p1)
    match T, hT with | 0, _ => rfl | 1, _ => rfl | 2, _ => rfl | 3, _ => rfl | 4, _ => rfl
  | tup h1 h2 =>
    have p1 : Q (.bl (T == 3)) H := p.here hr (.bl _)
    cases rx
    obtain ⟨its, rv, ⟨o, g1, g2, _⟩, _⟩ := I.tuple h1
    refine PySem.W.kia_one PySem.W.kitx_tuple I.kIn ⟨_, g1, g2⟩ (b := (T == 3)) ?_ (fun z => nomatch z) (key _ p1)
    match T, hT with | 0, _ => rfl | 1, _ => rfl | 2, _ => rfl | 3, _ => rfl | 4, _ => rfl
  | fl h1 h2 =>
    have p1 : Q (.bl (T == 4)) H := p.here hr (.bl _)
    cases rx
    obtain ⟨its, rv, ⟨o, n', g1, g2, _⟩, _⟩ := I.list h1.sq
    refine PySem.W.kia_one PySem.W.kitx_list I.kIn ⟨_, g1, g2⟩ (b := (T == 4)) ?_ (fun z => nomatch z) (key _ p1)
    match T, hT with | 0, _ => rfl | 1, _ => rfl | 2, _ => rfl | 3, _ => rfl | 4, _ => rfl
  | @loc nn b m =>
    cases e1 : rd h nn with
    | none => rw [show isI h (.loc nn) T = (rd h nn).map fun _ => T == 4 from rfl, e1] at p; exact p.elim
    | some ys =>
      rw [show isI h (.loc nn) T = (rd h nn).map fun _ => T == 4 from rfl, e1] at p
      have p1 : Q (.bl (T == 4)) H := p.here hr (.bl _)
      obtain ⟨vs, hs1, rs⟩ := hr.rd e1 m
      cases rx
      obtain ⟨its, rv, ⟨o, n', g1, g2, _⟩, _⟩ := I.list hs1
      refine PySem.W.kia_one PySem.W.kitx_list I.kIn ⟨_, g1, g2⟩ (b := (T == 4)) ?_ (fun z => nomatch z) (key _ p1)
      match T, hT with | 0, _ => rfl | 1, _ => rfl | 2, _ => rfl | 3, _ => rfl | 4, _ => rfl
end
end PI

set_option Elab.async false
set_option linter.all false
set_option maxRecDepth 100000
set_option maxHeartbeats 4000000
/-! More operations: methods of lists, slices, list(), tuple(), max, stores, what a for walks. -/
namespace PI
open PySem L2 PySem.Spec
open PyProof.Rows hiding St
section
variable {X : Cx} {Z : ZK} {k : Nat} {n : Nm} {cv : Nat → Value} {cl : Nat → List D → Hh → Res D}

/-! ### methods -/
def rM0 (K : PySem.W.Frag) (cv : Nat → Value) (m : M0) : V → List V → Hp → VK → Prop := fun x vs H Q => vs = [] ∧ r1 K cv (m0D m) x H Q
def rM1 (K : PySem.W.Frag) (cv : Nat → Value) (m : M1) : V → List V → Hp → VK → Prop := fun x vs H Q => ∃ y, vs = [y] ∧ r2 K cv (m1D m) x y H Q
theorem lst_of {K : PySem.W.Frag} {μ : List Addr} {H : Hp} {h : Hh} (hr : HR K μ h H) {n : Nat} {a : Addr} {xs : List D} (m : μ[n]? = some a) (e : h[n]? = some (.lst xs)) : ∃ vs, H a = some (.lst vs) ∧ Reps K μ H xs vs := hr.obj n a _ m e
theorem Reps.reverse {K : PySem.W.Frag} {μ : List Addr} {H : Hp} : ∀ {ds : List D} {vs : List V}, Reps K μ H ds vs → Reps K μ H ds.reverse vs.reverse
  | _, _, .nil => .nil
  | _, _, .cons h r => by rw [List.reverse_cons, List.reverse_cons]; exact r.reverse.append (.cons h .nil)
theorem Reps.dropLast {K : PySem.W.Frag} {μ : List Addr} {H : Hp} : ∀ {ds : List D} {vs : List V}, Reps K μ H ds vs → Reps K μ H ds.dropLast vs.dropLast
  | _, _, .nil => .nil
  | _, _, .cons h .nil => .nil
  | _, _, .cons h (.cons h' r) => .cons h (Reps.dropLast (.cons h' r))
theorem Reps.set {K : PySem.W.Frag} {μ : List Addr} {H : Hp} {d : D} {v : V} (q : Rep K μ H d v) : ∀ {ds : List D} {vs : List V} (i : Nat), Reps K μ H ds vs → Reps K μ H (ds.set i d) (vs.set i v)
  | _, _, _, .nil => .nil
  | _, _, 0, .cons _ r => .cons q r
  | _, _, i + 1, .cons h r => .cons h (Reps.set q i r)
theorem Reps.take {K : PySem.W.Frag} {μ : List Addr} {H : Hp} : ∀ {ds : List D} {vs : List V} (i : Nat), Reps K μ H ds vs → Reps K μ H (ds.take i) (vs.take i)
  | _, _, 0, _ => .nil
  | _, _, _ + 1, .nil => .nil
  | _, _, i + 1, .cons h r => .cons h (Reps.take i r)
theorem Reps.drop {K : PySem.W.Frag} {μ : List Addr} {H : Hp} : ∀ {ds : List D} {vs : List V} (i : Nat), Reps K μ H ds vs → Reps K μ H (ds.drop i) (vs.drop i)
  | _, _, 0, r => r
  | _, _, _ + 1, .nil => .nil
  | _, _, i + 1, .cons _ r => Reps.drop i r
theorem Reps.cut {K : PySem.W.Frag} {μ : List Addr} {H : Hp} {ds : List D} {vs : List V} (r : Reps K μ H ds vs) (lo hi : Option Int) : Reps K μ H (cutXs ds lo hi) (cutV vs lo hi) := by
  unfold cutXs cutV
  rw [← r.length]
  exact (r.drop _).take _
theorem mt_pop0 : MtR X "list.pop" (rM0 X.K cv .pop) := by
  intro pins s σ H x xs v us Q I rx rs hh
  obtain ⟨rfl, μ, h, a, Z', hr, ra, p⟩ := hh
  unfold m0D at p
  cases ra with
  | @loc nn b m =>
    cases e1 : h[nn]? with
    | none => simp only [e1] at p; exact p.elim
    | some o =>
      cases o with
      | dK _ => simp only [e1] at p; exact p.elim
      | lst ds =>
        simp only [e1] at p
        obtain ⟨vs, q1, q2⟩ := lst_of hr m e1
        cases e2 : ds.getLast? with
        | none => simp only [e2] at p; exact p.elim
        | some d =>
          simp only [e2] at p
          rw [List.getLast?_eq_getElem?] at e2
          obtain ⟨w, e3, e4⟩ := q2.get e2
          rw [q2.length] at e3
          obtain ⟨hr', ex⟩ := hr.chg (u := .lst vs.dropLast) (o' := .lst ds.dropLast) e1 m fun H' ex e => ⟨_, e, (q2.mono ex).dropLast⟩
          exact mt_pop pins s σ H _ _ v us Q I rx rs ⟨b, vs, w, rfl, rfl, q1, e3, p μ _ w ex hr' (e4.mono ex)⟩
  | _ => exact p.elim
theorem mt_reverse0 : MtR X "list.reverse" (rM0 X.K cv .reverse) := by
  intro pins s σ H x xs v us Q I rx rs hh
  obtain ⟨rfl, μ, h, a, Z', hr, ra, p⟩ := hh
  unfold m0D at p
  cases ra with
  | @loc nn b m =>
    cases e1 : h[nn]? with
    | none => simp only [e1] at p; exact p.elim
    | some o =>
      cases o with
      | dK _ => simp only [e1] at p; exact p.elim
      | lst ds =>
        simp only [e1] at p
        obtain ⟨vs, q1, q2⟩ := lst_of hr m e1
        obtain ⟨hr', ex⟩ := hr.chg (u := .lst vs.reverse) (o' := .lst ds.reverse) e1 m fun H' ex e => ⟨_, e, (q2.mono ex).reverse⟩
        exact mt_reverse pins s σ H _ _ v us Q I rx rs ⟨b, vs, rfl, rfl, q1, p μ _ .non ex hr' .non⟩
  | _ => exact p.elim
theorem mt_append1 : MtR X "list.append" (rM1 X.K cv .append) := by
  intro pins s σ H x xs v us Q I rx rs hh
  obtain ⟨y, rfl, μ, h, a, d, Z', hr, ra, rb, p⟩ := hh
  unfold m1D at p
  cases ra with
  | @loc nn b m =>
    cases e1 : h[nn]? with
    | none => simp only [e1] at p; exact p.elim
    | some o =>
      cases o with
      | dK _ => simp only [e1] at p; exact p.elim
      | lst ds =>
        simp only [e1] at p
        obtain ⟨vs, q1, q2⟩ := lst_of hr m e1
        split at p
        · rename_i c
          obtain ⟨hr', ex⟩ := hr.chg (u := .lst (vs ++ [y])) (o' := .lst (ds ++ [d])) e1 m fun H' ex e => ⟨_, e, (q2.mono ex).append (.cons (rb.mono ex) .nil)⟩
          exact mt_append pins s σ H _ _ v us Q I rx rs ⟨b, vs, y, rfl, rfl, q1, by rw [← q2.length]; exact line_lt c, p μ _ .non ex hr' .non⟩
        · exact p.elim
  | _ => exact p.elim
theorem mt_extend1 : MtR X "list.extend" (rM1 X.K cv .extend) := by
  intro pins s σ H x xs v us Q I rx rs hh
  obtain ⟨y, rfl, μ, h, a, d, Z', hr, ra, rb, p⟩ := hh
  unfold m1D at p
  cases ra with
  | @loc nn b m =>
    cases e1 : h[nn]? with
    | none => simp only [e1] at p; exact p.elim
    | some o =>
      cases o with
      | dK _ => simp only [e1] at p; exact p.elim
      | lst ds =>
        simp only [e1] at p
        obtain ⟨vs, q1, q2⟩ := lst_of hr m e1
        cases rb with
        | @loc nm b2 m2 =>
          cases e2 : h[nm]? with
          | none => simp only [e2] at p; exact p.elim
          | some o2 =>
            cases o2 with
            | dK _ => simp only [e2] at p; exact p.elim
            | lst ds2 =>
              simp only [e2] at p
              obtain ⟨vs2, q3, q4⟩ := lst_of hr m2 e2
              split at p
              · rename_i c
                obtain ⟨hr', ex⟩ := hr.chg (u := .lst (vs ++ vs2)) (o' := .lst (ds ++ ds2)) e1 m fun H' ex e => ⟨_, e, (q2.mono ex).append (q4.mono ex)⟩
                exact mt_extend pins s σ H _ _ v us Q I rx rs ⟨b, b2, vs, vs2, rfl, rfl, q1, q3, by rw [← q2.length, ← q4.length]; exact line_le c, p μ _ .non ex hr' .non⟩
              · exact p.elim
        | _ => exact p.elim
  | _ => exact p.elim

/-! ### slices, list(), tuple(), max -/
def rCut (K : PySem.W.Frag) (cv : Nat → Value) : V → Option Int → Option Int → Hp → VK → Prop := fun x lo hi H Q => ∃ μ h a Z, HR K μ h H ∧ Rep K μ H a x ∧ PostE K cv (Rep K) μ H (cutD a lo hi h) Q Z
theorem new_loc {K : PySem.W.Frag} {cv : Nat → Value} {μ : List Addr} {H : Hp} {h : Hh} {ds : List D} {vs : List V} {Q : VK} {Z : Value → Hp → Prop} (hr : HR K μ h H) (r : Reps K μ H ds vs) (p : PostE K cv (Rep K) μ H (new (.lst ds) h) Q Z) :
    ∀ b, H b = none → Q (.ref b) (upd H b (.lst vs)) := fun b hb => by
  refine p _ _ _ ((ext_new hb).add hb) (hr.alloc hb (hr.fresh hb) fun μ' g => ⟨_, upd_same, (r.mono (ext_new hb)).mono' g⟩) (.loc ?_)
  rw [← hr.len, List.getElem?_append_right (Nat.le_refl _), Nat.sub_self]
  rfl
theorem cut_tup {xs : List D} {lo hi : Option Int} {h : Hh} : cutD (.tup xs) lo hi h = if HT.sIx xs.length 0 lo = 0 ∧ HT.sIx xs.length xs.length hi = xs.length then .no else .ok (.tup (cutXs xs lo hi)) h := rfl
theorem cut_loc {n : Nat} {lo hi : Option Int} {h : Hh} : cutD (.loc n) lo hi h = match rd h n with | some xs => new (.lst (cutXs xs lo hi)) h | none => .no := rfl
theorem sl_ours : SlR X (rCut X.K cv) := by
  intro pins s σ H x v vl vu lo hi sl Q I rx hs pl pu hh
  obtain ⟨μ, h, a, Z', hr, ra, p⟩ := hh
  cases ra with
  | tup h1 h2 =>
    rw [cut_tup] at p
    split at p
    · exact p.elim
    · rename_i c
      rw [h2.length] at c
      exact sl_tup pins s σ H _ v vl vu lo hi sl Q I rx hs pl pu ⟨_, _, rfl, h1, c, fun b hb => p μ _ _ (ext_new hb) (hr.tup hb) (.tup (SqT.of upd_same) ((h2.cut lo hi).mono (ext_new hb)))⟩
  | fl h1 h2 => exact sl_list pins s σ H _ v vl vu lo hi sl Q I rx hs pl pu ⟨_, _, rfl, h1.sq, new_loc hr (h2.cut lo hi) p⟩
  | @loc nn b m =>
    rw [cut_loc] at p
    cases e1 : rd h nn with
    | none => simp only [e1] at p; exact p.elim
    | some xs =>
      simp only [e1] at p
      obtain ⟨vs, hs1, rs⟩ := hr.rd e1 m
      exact sl_list pins s σ H _ v vl vu lo hi sl Q I rx hs pl pu ⟨_, _, rfl, hs1, new_loc hr (rs.cut lo hi) p⟩
  | _ => exact p.elim
/-- a sequence -/
theorem seqOf_rep {K : PySem.W.Frag} {μ : List Addr} {H : Hp} {h : Hh} {d : D} {v : V} {xs : List D} (hr : HR K μ h H) (r : Rep K μ H d v) (e : seqOf d h = some xs) : ∃ a vs, v = .ref a ∧ ((SqL K H a vs ∧ (∀ ys, d ≠ .tup ys)) ∨ (SqT K H a vs ∧ d = .tup xs)) ∧ Reps K μ H xs vs := by
  unfold seqOf at e
  cases r with
  | tup h1 h2 => cases e; exact ⟨_, _, rfl, .inr ⟨h1, rfl⟩, h2⟩
  | fl h1 h2 => cases e; exact ⟨_, _, rfl, .inl ⟨h1.sq, fun _ z => nomatch z⟩, h2⟩
  | @loc nn b m =>
    unfold PI.rd at e
    cases e1 : h[nn]? with
    | none => simp only [e1] at e; cases e
    | some o =>
      cases o with
      | dK _ => simp only [e1] at e; cases e
      | lst ds =>
        simp only [e1] at e
        cases e
        obtain ⟨vs, q1, q2⟩ := lst_of hr m e1
        exact ⟨_, _, rfl, .inl ⟨SqL.of q1, fun _ z => nomatch z⟩, q2⟩
  | _ => cases e
def listD (d : D) (h : Hh) : Res D := match seqOf d h with | some xs => new (.lst xs) h | none => .no
def tupD (d : D) (h : Hh) : Res D := match seqOf d h with | some xs => .ok (.tup xs) h | none => .no
theorem call_listI : CallR X (.type "list") (fun xs H Q => ∃ x, xs = [x] ∧ r1 X.K cv listD x H Q) := by
  intro pins s σ H xs us Q I r hh
  obtain ⟨x, rfl, μ, h, a, Z', hr, ra, p⟩ := hh
  unfold listD at p
  cases e : seqOf a h with
  | none => rw [e] at p; exact p.elim
  | some ds =>
    rw [e] at p
    obtain ⟨b, vs, rfl, q1, q2⟩ := seqOf_rep hr ra e
    exact call_list_of pins s σ H _ us Q I r ⟨b, vs, rfl, q1.elim (fun z => .inl z.1) (fun z => .inr z.1), new_loc hr q2 p⟩
theorem call_tupI : CallR X (.type "tuple") (fun xs H Q => ∃ x, xs = [x] ∧ r1 X.K cv tupD x H Q) := by
  intro pins s σ H xs us Q I r hh
  obtain ⟨x, rfl, μ, h, a, Z', hr, ra, p⟩ := hh
  unfold tupD at p
  cases e : seqOf a h with
  | none => rw [e] at p; exact p.elim
  | some ds =>
    rw [e] at p
    obtain ⟨b, vs, rfl, q1, q2⟩ := seqOf_rep hr ra e
    refine call_tuple_of pins s σ H _ us Q I r ⟨b, vs, rfl, ?_⟩
    rcases q1 with ⟨q1, _⟩ | ⟨q1, rfl⟩
    · exact .inl ⟨q1, fun l hl => p μ _ _ (ext_new hl) (hr.tup hl) (.tup (SqT.of upd_same) (q2.mono (ext_new hl)))⟩
    · exact .inr ⟨q1, p.here hr ra⟩
def maxD (a b : D) (h : Hh) : Res D := match a, b with | .int i, .int j => .ok (.int (if j > i then j else i)) h | _, _ => .no
theorem call_maxI (hc : X.calm = true) : CallR X (.builtin "max") (fun xs H Q => ∃ x y, xs = [x, y] ∧ r2 X.K cv maxD x y H Q) := by
  intro pins s σ H xs us Q I r hh
  obtain ⟨x, y, rfl, μ, h, a, b, Z', hr, ra, rb, p⟩ := hh
  unfold maxD at p
  cases ra with
  | int i =>
    cases rb with
    | int j => exact call_max2 hc pins s σ H _ us Q I r ⟨i, j, rfl, p.here hr (.int _)⟩
    | _ => exact p.elim
  | _ => exact p.elim

/-! ### stores -/
def rPut (K : PySem.W.Frag) : TSet := fun o i v H Q => ∃ μ h a b c h', HR K μ h H ∧ Rep K μ H a o ∧ Rep K μ H b i ∧ Rep K μ H c v ∧ putS a b c h = some h' ∧ ∀ μ' H', Ext K μ H μ' H' → HR K μ' h' H' → Q H'
theorem RepKs.map {K : PySem.W.Frag} {μ : List Addr} {H : Hp} {k : Key} {d : D} {v : V} (q : Rep K μ H d v) : ∀ {ds : List (Key × D)} {vs : List (Key × V)}, RepKs K μ H ds vs →
    RepKs K μ H (ds.map fun kv => if kv.1 = k then (kv.1, d) else kv) (vs.map fun kv => if kv.1 = k then (kv.1, v) else kv)
  | _, _, .nil => .nil
  | _, _, .cons (k := k') h r => by
    rw [List.map_cons, List.map_cons]
    by_cases e : k' = k
    · rw [if_pos e, if_pos e]; exact .cons q (RepKs.map q r)
    · rw [if_neg e, if_neg e]; exact .cons h (RepKs.map q r)
theorem RepKs.any {K : PySem.W.Frag} {μ : List Addr} {H : Hp} (k : Key) : ∀ {ds : List (Key × D)} {vs : List (Key × V)}, RepKs K μ H ds vs → (ds.any fun kv => decide (kv.1 = k)) = (vs.any fun kv => decide (kv.1 = k))
  | _, _, .nil => rfl
  | _, _, .cons h r => by rw [List.any_cons, List.any_cons, RepKs.any k r]
theorem RepKs.snoc {K : PySem.W.Frag} {μ : List Addr} {H : Hp} {k : Key} {d : D} {v : V} (q : Rep K μ H d v) : ∀ {ds : List (Key × D)} {vs : List (Key × V)}, RepKs K μ H ds vs → RepKs K μ H (ds ++ [(k, d)]) (vs ++ [(k, v)])
  | _, _, .nil => .cons q .nil
  | _, _, .cons h r => .cons h (RepKs.snoc q r)
theorem RepKs.put {K : PySem.W.Frag} {μ : List Addr} {H : Hp} {k : Key} {d : D} {v : V} {ds : List (Key × D)} {vs : List (Key × V)} (r : RepKs K μ H ds vs) (q : Rep K μ H d v) : RepKs K μ H (putD ds k d) (putK vs k v) := by
  unfold putD putK
  rw [← r.any k]
  split
  · exact r.map q
  · exact r.snoc q
theorem set_ours (hu : X.A.units + 1 < cLine) : PSet X (rPut X.K) := by
  intro pins s σ H o i v ov iv u Q I ro ri rv hh
  obtain ⟨μ, h, a, b, c, h', hr, ra, rb, rc, e, q⟩ := hh
  unfold putS at e
  cases ra with
  | @loc nn p m =>
    cases e1 : h[nn]? with
    | none => simp only [e1] at e; cases e
    | some ob =>
      cases ob with
      | lst xs =>
        simp only [e1] at e
        obtain ⟨vs, q1, q2⟩ := lst_of hr m e1
        cases rb with
        | int k =>
          cases e2 : ixN xs.length k with
          | none => simp only [e2, Option.map_none] at e; cases e
          | some j =>
            simp only [e2, Option.map_some] at e
            cases e
            obtain ⟨hr', ex⟩ := hr.chg (u := .lst (vs.set j v)) (o' := .lst (xs.set j c)) e1 m fun H' ex e => ⟨_, e, (q2.mono ex).set (rc.mono ex) j⟩
            exact set_list pins s σ H _ _ v ov iv u Q I ro ri rv ⟨p, vs, k, j, rfl, rfl, q1, by rw [← q2.length]; exact e2, q μ _ ex hr'⟩
        | _ => cases e
      | dK kvs =>
        simp only [e1] at e
        obtain ⟨vs, q1, q2⟩ := (hr.obj nn p _ m e1 : RepO X.K μ H p (.dK kvs))
        cases e2 : keyD b with
        | none => simp only [e2, Option.bind_none] at e; cases e
        | some k =>
          simp only [e2, Option.bind_some] at e
          split at e
          · rename_i hl
            cases e
            have ey := keyD_rep rb e2
            subst ey
            obtain ⟨hr', ex⟩ := hr.chg (u := .dK (putK vs k v)) (o' := .dK (putD kvs k c)) e1 m fun H' ex e => ⟨_, e, (q2.mono ex).put (rc.mono ex)⟩
            cases ro
            exact d_setItem hu I (DPut.k q1 (by rw [← q2.length]; exact line_lt hl)) ri rv fun s' I' => ⟨_, I', q μ _ ex hr'⟩
          · cases e
  | _ => cases e
end
end PI

set_option Elab.async false
set_option linter.all false
set_option maxRecDepth 100000
set_option maxHeartbeats 4000000
/-! What a for walks; targets; comprehensions; loops. -/
namespace PI
open PySem L2 PySem.Spec
open PyProof.Rows hiding St

/-- a part, then the rest, all reckoned from an elder heap -/
theorem lift_bind0 {α β γ δ : Type} {K : PySem.W.Frag} {cv : Nat → Value} {R : List Addr → Hp → α → β → Prop} {R' : List Addr → Hp → γ → δ → Prop} {μ0 μ : List Addr} {ρ : En} {h : Hh} {σ : St} {H0 H : Hp} {Z : ZK} {Zz : Value → Hp → Prop} {m : En → Hh → Res α} {f : α → Hh → Res γ} {Q : δ → Hp → Prop} {Q' : β → Hp → Prop}
    (e0 : Ext K μ0 H0 μ H) (hr : HR K μ h H) (er : ER K μ ρ σ H) (p : PostE K cv R' μ0 H0 ((m ρ h).bind f) Q Zz) (hz : ∀ C H', Zz C H' → Z σ C H')
    (go : ∀ a h1 μ1 H1 x, m ρ h = .ok a h1 → Ext K μ H μ1 H1 → HR K μ1 h1 H1 → ER K μ1 ρ σ H1 → R μ1 H1 a x → PostE K cv R' μ0 H0 (f a h1) Q Zz → Q' x H1) :
    lift K cv R Z m σ H Q' := by
  refine ⟨μ, ρ, h, hr, er, ?_⟩
  cases e : m ρ h with
  | ok a h1 =>
    rw [e, bind_ok] at p
    exact fun μ1 H1 x e1 r1 q1 => go a h1 μ1 H1 x e e1 r1 (er.mono e1) q1 p
  | exc c h1 =>
    rw [e, bind_exc] at p
    exact fun μ1 H1 e1 r1 => hz _ _ (p μ1 H1 (e0.trans e1) r1)
  | no => rw [e, bind_no] at p; exact p

/-- J walks ds as long as the lists of c stay -/
def Src (K : PySem.W.Frag) (μ0 : List Addr) (H0 : Hp) (c : Ck) (ds : List D) (J : It) : Prop := ∀ μ h H, Ext K μ0 H0 μ H → HR K μ h H → stay c h →
  (∀ i d, ds[i]? = some d → J.go i H ∧ ∀ x H', J.yld i H x H' → H' = H ∧ Rep K μ H d x) ∧ J.stop ds.length H
def RJ (K : PySem.W.Frag) : List Addr → Hp → (Ck × List D) → It → Prop := fun μ H q J => Src K μ H q.1 q.2 J
/-- a new list that is none of ours yet -/
def RL (K : PySem.W.Frag) (H0 : Hp) : List Addr → Hp → List D → V → Prop := fun μ H ds v => ∃ p vs, v = .ref p ∧ H p = some (.lst vs) ∧ Reps K μ H ds vs ∧ p ∉ μ ∧ H0 p = none
abbrev liftL (K : PySem.W.Frag) (cv : Nat → Value) (Z : ZK) (m : En → Hh → Res (List D)) : TE := fun σ H Q => lift K cv (RL K H) Z m σ H Q

section
variable {K : PySem.W.Frag} {μ : List Addr} {H : Hp} {h : Hh} {ds : List D} {vs : List V} {a : Addr}
theorem src_sq {c : Ck} (k : ∀ μ1 h1 H1, Ext K μ H μ1 H1 → HR K μ1 h1 H1 → stay c h1 → ∃ vs, SqL K H1 a vs ∧ Reps K μ1 H1 ds vs) : Src K μ H c ds (Itl K a) := fun μ1 h1 H1 ex hr st => by
  obtain ⟨vs, q1, q2⟩ := k μ1 h1 H1 ex hr st
  refine ⟨fun i d e => ?_, ⟨vs, q1, by rw [← q2.length]; exact Nat.le_refl _⟩⟩
  obtain ⟨w, e1, e2⟩ := q2.get e
  refine ⟨⟨vs, w, q1, e1⟩, fun x H' y => ⟨y.1, ?_⟩⟩
  have := y.2 vs q1
  rw [e1] at this
  cases this
  exact e2
theorem src_loc {n : Nat} (m : μ[n]? = some a) : Src K μ H [(n, ds)] ds (Itl K a) := src_sq fun μ1 h1 H1 ex hr st => by
  have e : rd h1 n = some ds := st (n, ds) (List.mem_singleton.mpr rfl)
  have m1 := ex.loc n a m
  unfold PI.rd at e
  cases e1 : h1[n]? with
  | none => simp only [e1] at e; cases e
  | some o =>
    cases o with
    | dK _ => simp only [e1] at e; cases e
    | lst xs =>
      simp only [e1] at e
      cases e
      obtain ⟨vs, q1, q2⟩ := lst_of hr m1 e1
      exact ⟨vs, SqL.of q1, q2⟩
theorem src_fl (f : Fz K H a vs) (r : Reps K μ H ds vs) : Src K μ H [] ds (Itl K a) := src_sq fun μ1 h1 H1 ex hr st => ⟨vs, (ex.fz _ _ f).sq, r.mono ex⟩
theorem src_new (e : H a = some (.lst vs)) (n : a ∉ μ) (r : Reps K μ H ds vs) : Src K μ H [] ds (Itl K a) := src_sq fun μ1 h1 H1 ex hr st => ⟨vs, SqL.of (ex.oth _ _ e n), r.mono ex⟩
theorem src_tup (f : SqT K H a vs) (r : Reps K μ H ds vs) : Src K μ H [] ds (Itt K a) := fun μ1 h1 H1 ex hr st => by
  have q1 := ex.tup _ _ f
  have q2 := r.mono ex
  refine ⟨fun i d e => ?_, ⟨vs, q1, by rw [← q2.length]; exact Nat.le_refl _⟩⟩
  obtain ⟨w, e1, e2⟩ := q2.get e
  refine ⟨⟨vs, w, q1, e1⟩, fun x H' y => ⟨y.1, ?_⟩⟩
  have := y.2 vs q1
  rw [e1] at this
  cases this
  exact e2
theorem src_str (z : Str) : Src K μ H [] (z.cps.toList.map fun c => .str ⟨#[c]⟩) (Its z) := fun μ1 h1 H1 ex hr st => by
  refine ⟨fun i d e => ?_, by show z.length ≤ _; rw [List.length_map]; exact Nat.le_of_eq rfl⟩
  rw [List.getElem?_map] at e
  cases e1 : z.cps.toList[i]? with
  | none => rw [e1] at e; cases e
  | some c =>
    rw [e1] at e
    cases e
    refine ⟨?_, fun x H' y => ⟨y.1, ?_⟩⟩
    · have := (List.getElem?_eq_some_iff.mp e1).1
      exact (by simpa using this : i < z.cps.size)
    · obtain ⟨c', e2, rfl⟩ := y.2
      rw [e1] at e2
      cases e2
      exact .str _
theorem src_rng (j : Nat) : Src K μ H [] ((List.range j).map fun (k : Nat) => .int (k : Nat)) (Itr 0 j) := fun μ1 h1 H1 ex hr st => by
  refine ⟨fun i d e => ?_, by show j ≤ _; rw [List.length_map, List.length_range]; exact Nat.le_refl _⟩
  rw [List.getElem?_map] at e
  cases e1 : (List.range j)[i]? with
  | none => rw [e1] at e; cases e
  | some c =>
    rw [e1] at e
    cases e
    obtain ⟨hi, e2⟩ := List.getElem?_eq_some_iff.mp e1
    rw [List.length_range] at hi
    rw [List.getElem_range] at e2
    subst e2
    refine ⟨hi, fun x H' y => ⟨y.1, ?_⟩⟩
    rw [y.2, Int.zero_add]
    exact .int _
end

section
variable {X : Cx} {Z : ZK} {k : Nat} {n : Nm} {cv : Nat → Value} {cl : Nat → List D → Hh → Res D} {tg : Expr}
/-- a list, a tuple, a text -/
theorem pi_any {l : Expr} {tl : TE} (hl : PE X l tl) : PI X tg l (fun σ H R => tl σ H fun x H1 => (∃ a, x = .ref a ∧ (∃ xs, SqL X.K H1 a xs) ∧ R (Itl X.K a) H1) ∨ (∃ a, x = .ref a ∧ (∃ xs, SqT X.K H1 a xs) ∧ R (Itt X.K a) H1) ∨ ∃ z, x = .str z ∧ R (Its z) H1) := by
  intro pins s σ H R I h
  refine thn (hl pins s σ H _ I h) fun v s1 ⟨x, H1, I1, r1, q1⟩ => ?_
  rcases q1 with ⟨a, rfl, ⟨xs, hq⟩, q⟩ | ⟨a, rfl, ⟨xs, hq⟩, q⟩ | ⟨x, rfl, q⟩
  · cases r1
    obtain ⟨its, rv, p, hz⟩ := I1.list hq
    refine wpAny_pyIter_list p.isList ?_
    refine ⟨s1.heap.objs.size, [s1.heap.objs.size], _, _, H1, rfl, I1.kept (t' := s1.toks) fun b o e => Heap.get?_push_of_some _ e, turn_list a _, ⟨_, Heap.get?_push_size _ rfl, rfl, rfl⟩, fun b hb => ?_, q⟩
    have e : b = s1.heap.objs.size := by simpa using hb
    subst e
    exact I1.fpOk (Nat.le_refl _) (I1.hok.fresh (Nat.le_refl _))
  · cases r1
    obtain ⟨its, rv, p, hz⟩ := I1.tuple hq
    refine wpAny_pyIter_tuple (show s1.heap.IsTuple a its.toArray from p) ?_
    refine ⟨s1.heap.objs.size, [s1.heap.objs.size], _, _, H1, rfl, I1.kept (t' := s1.toks) fun b o e => Heap.get?_push_of_some _ e, turn_tuple a _, ⟨_, Heap.get?_push_size _ rfl, rfl, rfl⟩, fun b hb => ?_, q⟩
    have e : b = s1.heap.objs.size := by simpa using hb
    subst e
    exact I1.fpOk (Nat.le_refl _) (I1.hok.fresh (Nat.le_refl _))
  · obtain ⟨t, rfl⟩ := r1
    have fp : ∀ b ∈ [s1.heap.objs.size], FpOk X pins H1 b := fun b hb => by
      have e : b = s1.heap.objs.size := by simpa using hb
      subst e
      exact I1.fpOk (Nat.le_refl _) (I1.hok.fresh (Nat.le_refl _))
    cases ha : x.cps.all (· < 128) with
    | false =>
      refine wpAny_pyIter_wide ha ?_
      exact ⟨s1.heap.objs.size, [s1.heap.objs.size], _, _, H1, rfl, I1.kept (t' := s1.toks) fun b o e => Heap.get?_push_of_some _ e, turn_wide _ x t, ⟨_, Heap.get?_push_size _ rfl, rfl, rfl⟩, fp, q⟩
    | true =>
      refine wpAny_pyIter_ascii ha ?_
      exact ⟨s1.heap.objs.size, [s1.heap.objs.size], _, _, H1, rfl, I1.kept (t' := s1.toks) fun b o e => Heap.get?_push_of_some _ e, turn_ascii _ x t, ⟨_, Heap.get?_push_size _ rfl, rfl, rfl⟩, fp, q⟩
theorem PI.mono {iter : Expr} {t t' : TI} (p : L2.PI X tg iter t) (h : ∀ σ H R, t' σ H R → t σ H R) : L2.PI X tg iter t' := fun pins s σ H R I q => p pins s σ H R I (h σ H R q)

/-! ### targets -/
def gB (K : PySem.W.Frag) (t : Tg) : TG := fun v σ H Q => ∃ μ ρ d ρ' h, HR K μ h H ∧ ER K μ ρ σ H ∧ Rep K μ H d v ∧ bindT t d ρ = some ρ' ∧
  ∀ σ', ER K μ ρ' σ' H → σ'.length = σ.length → (∀ i, i ∉ t.idx → σ'[i]? = σ[i]?) → Q σ' H
theorem PG.mono {t t' : TG} (p : PG X tg t) (h : ∀ v σ H Q, t' v σ H Q → t v σ H Q) : PG X tg t' := fun pins s σ H v u Q I r q => p pins s σ H v u Q I r (h v σ H Q q)
/-- names in a row -/
def gNs : List (Nat × Pos) → TGs
  | [] => gNil
  | q :: r => gCons (gName q.1) (gNs r)
theorem pgs_names (hN : X.N.Nodup) : ∀ (is : List (Nat × Pos)), (∀ q ∈ is, q.1 < X.N.length ∧ Loc X.env.scope (X.N.getD q.1 "") ∧ (X.fn (X.N.getD q.1 "") = true ∨ X.env.scope.names.lookup (X.N.getD q.1 "") = some .local)) →
    PGs X (is.map fun q => .Name (X.N.getD q.1 "") q.2) (gNs is)
  | [], _ => pgs_nil
  | q :: r, h => by
    have hq := h q (List.mem_cons_self ..)
    exact pgs_cons (pg_name (i := q.1) hN (by rw [List.getD_eq_getElem?_getD, List.getElem?_eq_getElem hq.1]; rfl) hq.2.1 hq.2.2) (pgs_names hN r fun z hz => h z (List.mem_cons_of_mem _ hz))
theorem names_len (N : List Str) (env : Env) : ∀ is : List (Nat × Pos), (assignEach (is.map fun q => .Name (N.getD q.1 "") q.2) env).length = is.length ∧ (assignEach (is.map fun q => .Name (N.getD q.1 "") q.2) env).findIdx? (·.1) = none
  | [] => ⟨rfl, rfl⟩
  | q :: r => by
    have ih := names_len N env r
    rw [List.map_cons]
    refine ⟨?_, ?_⟩
    · show ((false, _) :: assignEach (r.map fun q => .Name (N.getD q.1 "") q.2) env).length = _
      rw [List.length_cons, ih.1, List.length_cons]
    · show ((false, _) :: assignEach (r.map fun q => .Name (N.getD q.1 "") q.2) env).findIdx? (·.1) = none
      rw [List.findIdx?_cons, ih.2]
      rfl
theorem fold_er {K : PySem.W.Frag} {μ : List Addr} {H : Hp} : ∀ (is : List (Nat × Pos)) {ds : List D} {vs : List V} {ρ : En} {σ : St} {Q : St → Hp → Prop}, Reps K μ H ds vs → ds.length = is.length → ER K μ ρ σ H →
    (∀ σ', ER K μ ((is.zip ds).foldl (fun ρ q => ρ.set q.1.1 (some q.2)) ρ) σ' H → σ'.length = σ.length → (∀ i, i ∉ is.map (·.1) → σ'[i]? = σ[i]?) → Q σ' H) → gNs is vs σ H Q
  | [], _, _, ρ, σ, Q, r, hl, er, q => by
    cases r with
    | nil => exact ⟨rfl, q σ er rfl fun _ _ => rfl⟩
    | cons _ _ => cases hl
  | p :: is, _, _, ρ, σ, Q, r, hl, er, q => by
    cases r with
    | nil => cases hl
    | cons r1 r2 =>
      refine ⟨_, _, rfl, ?_⟩
      refine fold_er is r2 (by simpa using hl) (er.set r1 p.1) fun σ' e1 e2 e3 => ?_
      refine q σ' e1 (e2.trans List.length_set) fun i hi => ?_
      rw [List.map_cons] at hi
      rw [e3 i fun z => hi (List.mem_cons_of_mem _ z), List.getElem?_set_ne fun z => hi (by rw [← z]; exact List.mem_cons_self ..)]
theorem pg_T (hc : X.calm = true) (hN : X.N.Nodup) (t : Tg) (h : ∀ i ∈ t.idx, i < X.N.length ∧ Loc X.env.scope (X.N.getD i "") ∧ (X.fn (X.N.getD i "") = true ∨ X.env.scope.names.lookup (X.N.getD i "") = some .local)) : PG X (t.py X.N) (gB X.K t) := by
  cases t with
  | one i p =>
    have hq := h i (List.mem_singleton.mpr rfl)
    refine PG.mono (pg_name (i := i) hN (by rw [List.getD_eq_getElem?_getD, List.getElem?_eq_getElem hq.1]; rfl) hq.2.1 hq.2.2) fun v σ H Q ⟨μ, ρ, d, ρ', h, hr, er, r, e, q⟩ => ?_
    cases e
    exact q _ (er.set r i) List.length_set fun j hj => List.getElem?_set_ne fun z => hj (by rw [← z]; exact List.mem_singleton.mpr rfl)
  | tup is p =>
    refine PG.mono (pg_tup (k := 0) (pos := p) hc (pgs_names hN is fun q hq => h q.1 (List.mem_map.mpr ⟨q, hq, rfl⟩)) (names_len X.N X.env is).1 (names_len X.N X.env is).2) fun v σ H Q ⟨μ, ρ, d, ρ', h, hr, er, r, e, q⟩ => ?_
    unfold bindT at e
    cases r with
    | tup h1 h2 =>
      simp only at e
      split at e
      · rename_i c
        cases e
        exact ⟨_, _, rfl, h1, by rw [← h2.length]; exact c, fold_er is h2 c er q⟩
      · cases e
    | _ => cases e
end
end PI

set_option Elab.async false
set_option linter.all false
set_option maxRecDepth 100000
set_option maxHeartbeats 4000000
/-! Comprehensions. -/
namespace PI
open PySem L2 PySem.Spec
open PyProof.Rows hiding St
theorem line_ge : (1000000 : Nat) < sizeLine := by rw [sizeLine_eq]; decide
section
variable {X : Cx} {Z : ZK} {k : Nat} {n : Nm} {cv : Nat → Value} {cl : Nat → List D → Hh → Res D}
theorem capER {K : PySem.W.Frag} {μ : List Addr} {H : Hp} {ρ : En} {σ : St} (cap : List (Option Nat)) (er : ER K μ ρ σ H) : ER K μ (capE cap ρ) (capσ cap σ) H := by
  refine ⟨by unfold capE capσ; rw [List.length_map, List.length_map], fun j d e => ?_⟩
  unfold capE at e
  unfold capσ
  rw [List.getElem?_map] at e ⊢
  cases e1 : cap[j]? with
  | none => rw [e1] at e; cases e
  | some o =>
    rw [e1] at e
    cases o with
    | none => cases e
    | some i =>
      have e' : (ρ[i]?).bind id = some d := Option.some.inj e
      cases e2 : ρ[i]? with
      | none => rw [e2] at e'; cases e'
      | some o2 =>
        rw [e2] at e'
        have e3 : o2 = some d := e'
        subst e3
        obtain ⟨v, q1, q2⟩ := er.val i d e2
        exact ⟨v, by show some ((σ[i]?).bind id) = _; rw [q1]; rfl, q2⟩
/-- the names that a target binds are none of those that are captured -/
theorem cap_none {osc scope : Scope} {N NC : List Str} {cap : List (Option Nat)} {t : Tg} (cok : compOk osc scope N NC cap = true) (ht : t.ok (relab scope osc) NC = true) (σ : St) : ∀ i ∈ t.idx, (capσ cap σ)[i]? = some none := by
  intro i hi
  unfold Tg.ok at ht
  have h1 := List.all_eq_true.mp ht i hi
  rw [Bool.and_eq_true] at h1
  have hl : i < NC.length := of_decide_eq_true h1.1
  have hloc : (relab scope osc).names.lookup (NC.getD i "") = some .local := of_decide_eq_true h1.2
  unfold compOk at cok
  simp only [Bool.and_eq_true] at cok
  obtain ⟨⟨⟨⟨⟨k1, k2⟩, k3⟩, k4⟩, k5⟩, k6⟩ := cok
  have hj := List.all_eq_true.mp k6 i (List.mem_range.mpr hl)
  have hN : NC[i]? = some (NC.getD i "") := by rw [List.getD_eq_getElem?_getD, List.getElem?_eq_getElem hl]; rfl
  have hc : i < cap.length := by rw [beq_iff_eq.mp k5]; exact hl
  unfold capσ
  rw [List.getElem?_map]
  cases e : cap[i]? with
  | none => rw [List.getElem?_eq_none_iff] at e; omega
  | some o =>
    cases o with
    | none => rfl
    | some m =>
      exfalso
      rw [e, hN] at hj
      simp only [Bool.and_eq_true, beq_iff_eq] at hj
      have hfree := hj.2
      -- free in the scope, so no local of the relabelled one
      have key : ∀ (names : List (Str × NameKind)) (x : Str), names.lookup x = some .free → (names.map fun (q : Str × NameKind) => if (q.2 == .free && osc.kind == .function && osc.names.lookup q.1 == some .cell) then (q.1, NameKind.cell) else (q.1, q.2)).lookup x ≠ some .local := by
        intro names
        induction names with
        | nil => intro x h; cases h
        | cons q r ih =>
          intro x h
          rw [List.map_cons]
          obtain ⟨q1, q2⟩ := q
          rw [List.lookup_cons] at h
          by_cases hx : x == q1
          · rw [hx] at h
            cases h
            by_cases c : ((NameKind.free == .free && osc.kind == .function && osc.names.lookup q1 == some .cell) = true)
            · rw [if_pos c, List.lookup_cons, hx]; exact fun z => nomatch z
            · rw [if_neg c, List.lookup_cons, hx]; exact fun z => nomatch z
          · have hx' : (x == q1) = false := by simpa using hx
            rw [hx'] at h
            have := ih x h
            split
            · rw [List.lookup_cons, hx']; exact this
            · rw [List.lookup_cons, hx']; exact this
      exact key scope.names _ hfree hloc

/-- a comprehension's reading -/
theorem read_comp {scope : Scope} {NC : List Str} {cap : List (Option Nat)} {t : Tg} {mi : En → Hh → Res (Ck × List D)} {mc : En → Hh → Res Bool} {me : En → Hh → Res D}
    (cok : compOk X.env.scope scope X.N NC cap = true) (ht : t.ok (relab scope X.env.scope) NC = true) {σ : St} {H : Hp} {Q : VK}
    (p : liftL X.K cv Z (fun ρ h => (mi ρ h).bind fun q h1 => if q.2.length ≤ 1000000 then compL q.1 (compF t (capE cap ρ) mc me) q.2 [] h1 else .no) σ H Q) :
    tComp Z cap (lift X.K cv (RJ X.K) Z mi) (gB X.K t) (fun Zc => lift X.K cv RB Zc mc) (fun Zc => lift X.K cv (Rep X.K) Zc me) σ H Q := by
  obtain ⟨μ, ρ, h, hr, er, p⟩ := p
  refine lift_bind0 (m := mi) Ext.refl hr er p (fun _ _ z => z) fun q h1 μ1 H1 J _ e1 r1 er1 src p1 => ?_
  split at p1
  rotate_left
  · exact p1.elim
  rename_i hlen
  obtain ⟨c, ds⟩ := q
  refine ⟨fun i m ys H2 => m = ds.length - i ∧ i ≤ ds.length ∧ ∃ μ2 h2 acc, Ext X.K μ1 H1 μ2 H2 ∧ HR X.K μ2 h2 H2 ∧ Reps X.K μ2 H2 acc ys ∧ acc.length ≤ i ∧ PostE X.K cv (RL X.K H) μ H (compL c (compF t (capE cap ρ) mc me) (ds.drop i) acc h2) Q (Z σ),
    ⟨ds.length, by simp, Nat.zero_le _, μ1, h1, [], Ext.refl, r1, .nil, Nat.le_refl _, p1⟩, ?_⟩
  rintro i m ys H2 ⟨rfl, hi', μ2, h2, acc, e2, r2, ry, ha, p2⟩
  have hyl : ys.length ≤ i := by rw [← ry.length]; exact ha
  have hll : ds.length ≤ 1000000 := hlen
  by_cases hlt : i < ds.length
  · right
    rw [List.drop_eq_getElem_cons hlt] at p2
    unfold compL at p2
    split at p2
    rotate_left
    · exact p2.elim
    rename_i st
    obtain ⟨s1, s2⟩ := src μ2 h2 H2 e2 r2 st
    obtain ⟨g1, g2⟩ := s1 i ds[i] (List.getElem?_eq_getElem hlt)
    refine ⟨g1, by have := line_ge; omega, fun x H3 y => ?_⟩
    obtain ⟨rfl, rx⟩ := g2 x H3 y
    have er2 : ER X.K μ2 ρ σ H3 := er1.mono e2
    unfold compF at p2
    cases eb : bindT t ds[i] (capE cap ρ) with
    | none => rw [eb] at p2; exact p2.elim
    | some ρ' =>
      rw [eb] at p2
      refine ⟨μ2, capE cap ρ, ds[i], ρ', h2, r2, capER cap er2, rx, eb, fun σ4 er4 hl4 hs4 => ⟨⟨hl4, fun j v ej => ?_⟩, ?_⟩⟩
      · have nj : j ∉ t.idx := fun z => by rw [cap_none cok ht σ j z] at ej; cases ej
        rw [hs4 j nj]; exact ej
      have p3 : PostE X.K cv (RL X.K H) μ H ((mc ρ' h2).bind fun b h3 => (if b then (me ρ' h3).bind fun d h4 => Res.ok (some d) h4 else Res.ok none h3).bind fun o h' => compL c (compF t (capE cap ρ) mc me) (ds.drop (i + 1)) (addO acc o) h') Q (Z σ) := by
        have p2' := p2
        rw [bind_assoc] at p2'
        exact p2'
      refine lift_bind0 (m := mc) (R := RB) (e1.trans e2) r2 er4 p3 (fun _ _ z => z) fun b h3 μ3 H3' bb _ e3 r3 er5 qb p4 => ?_
      have qb' : b = bb := qb
      subst qb'
      cases b with
      | false =>
        refine iteF ⟨ds.length - (i + 1), by omega, rfl, hlt, μ3, h3, acc, e2.trans e3, r3, ry.mono e3, Nat.le_succ_of_le ha, p4⟩
      | true =>
        refine iteT ?_
        have p5 : PostE X.K cv (RL X.K H) μ H ((me ρ' h3).bind fun d h4 => compL c (compF t (capE cap ρ) mc me) (ds.drop (i + 1)) (acc ++ [d]) h4) Q (Z σ) := by
          have p4' := p4
          rw [if_pos rfl, bind_assoc] at p4'
          exact p4'
        refine lift_bind0 (m := me) ((e1.trans e2).trans e3) r3 er5 p5 (fun _ _ z => z) fun d h4 μ4 H4 v _ e4 r4 er6 qd p6 => ?_
        exact ⟨ds.length - (i + 1), by omega, rfl, hlt, μ4, h4, acc ++ [d], (e2.trans e3).trans e4, r4, ((ry.mono e3).mono e4).append (.cons qd .nil), by rw [List.length_append]; exact Nat.succ_le_succ ha, p6⟩
  · left
    have ei : i = ds.length := by omega
    subst ei
    rw [List.drop_length] at p2
    unfold compL at p2
    split at p2
    rotate_left
    · exact p2.elim
    rename_i st
    refine ⟨(src μ2 h2 H2 e2 r2 st).2, by have := line_ge; omega, fun a ha' => ?_⟩
    have ex := (e1.trans e2)
    have na := r2.fresh ha'
    have n0 : H a = none := by
      cases e : H a with
      | none => rfl
      | some o => rw [ex.oth a o e fun z => na (ex.sub z)] at ha'; cases ha'
    exact p2 μ2 _ _ (ex.trans (ext_new ha')) (r2.tup ha') ⟨a, ys, rfl, upd_same, ry.mono (ext_new ha'), na, n0⟩


theorem pe_compI {elt iter : Expr} {ifs : List Expr} {scope : Scope} {NC : List Str} {cap : List (Option Nat)} {t : Tg} {pos : Pos} {mi : En → Hh → Res (Ck × List D)} {mc : En → Hh → Res Bool} {me : En → Hh → Res D}
    (hc : X.calm = true) (th : Thr X Z) (hi : L2.PI X (t.py NC) iter (lift X.K cv (RJ X.K) Z mi)) (cok : compOk X.env.scope scope X.N NC cap = true) (ht : t.ok (relab scope X.env.scope) NC = true)
    (hg : ∀ C s H fp pn xe, PG (compCx X NC scope C s H fp pn xe) (t.py NC) (gB X.K t))
    (hf : ∀ C s H fp pn xe Zc, Thr (compCx X NC scope C s H fp pn xe) Zc → PF (compCx X NC scope C s H fp pn xe) ifs (lift X.K cv RB Zc mc))
    (hb : ∀ C s H fp pn xe Zc, Thr (compCx X NC scope C s H fp pn xe) Zc → PE (compCx X NC scope C s H fp pn xe) elt (lift X.K cv (Rep X.K) Zc me))
    (hs : ∀ x, foldedSetIterable iter X.env x = pure x) :
    PE X (.ListComp elt [⟨t.py NC, iter, ifs, 0⟩] scope pos) (liftL X.K cv Z fun ρ h => (mi ρ h).bind fun q h1 => if q.2.length ≤ 1000000 then compL q.1 (compF t (capE cap ρ) mc me) q.2 [] h1 else .no) :=
  PE.mono (pe_comp hc th hi cok hg (tf := fun Zc => lift X.K cv RB Zc mc) (te := fun Zc => lift X.K cv (Rep X.K) Zc me) hf hb hs) fun σ H Q p => read_comp cok ht p

/-- the block's context -/
theorem Kx.comp {scope : Scope} {NC : List Str} {cap : List (Option Nat)} (C : Kx X Z k n cv cl) (cok : compOk X.env.scope scope X.N NC cap = true) (hnd : NC.Nodup) (hgood : NC.all goodN = true) {Cc : Addr} {s : Shared} {H : Hp} {fp : List Addr} {pn : List (Addr × Obj)} {xe : Value → Shared → Prop} {Zc : ZK}
    (th : Thr (compCx X NC scope Cc s H fp pn xe) Zc) : Kx (compCx X NC scope Cc s H fp pn xe) Zc k ⟨NC, n.F⟩ cv cl := by
  obtain ⟨c1, c2, c3, c4, c5, c6, c7⟩ := compOk_parts cok
  refine ⟨th, C.rm, rfl, hnd, rfl, c1, fun x hx => ⟨?_, List.all_eq_true.mp hgood x hx⟩, C.bm, C.fn⟩
  obtain ⟨j, hj⟩ := List.getElem?_of_mem hx
  have cok' := cok
  unfold compOk at cok'
  simp only [Bool.and_eq_true] at cok'
  obtain ⟨⟨⟨⟨⟨k1, k2⟩, k3⟩, k4⟩, k5⟩, k6⟩ := cok'
  have hl : j < NC.length := (List.getElem?_eq_some_iff.mp hj).1
  have hk := List.all_eq_true.mp k6 j (List.mem_range.mpr hl)
  have rel : (relabel scope X.env).names.lookup x = (scope.names.lookup x).map fun k => if k = .free then .cell else k := kindOf_rel (scope := scope) C.kd fun y hy e => c4 y hy e
  rw [hj] at hk
  show Vis (relabel scope X.env) x
  unfold Vis
  rw [rel]
  cases e : cap[j]? with
  | none => rw [e] at hk; cases hk
  | some o =>
    rw [e] at hk
    cases o with
    | none =>
      have hk' : scope.names.lookup x = some .local := by simpa using hk
      rw [hk']; exact .inl rfl
    | some m =>
      simp only [Bool.and_eq_true, beq_iff_eq] at hk
      rw [hk.2]; exact .inr (.inl rfl)
end
end PI

set_option Elab.async false
set_option linter.all false
set_option maxRecDepth 100000
set_option maxHeartbeats 4000000
/-! Expressions: the text is read as our functions say. -/
namespace PI
open PySem L2 PySem.Spec
open PyProof.Rows hiding St
section
variable {X : Cx} {Z : ZK} {k : Nat} {n : Nm} {cv : Nat → Value} {cl : Nat → List D → Hh → Res D}

theorem boot_T (T : Nat) (h : T < 5) : bootBuiltins (tyName T) = some (.type (tyStr T)) ∧ tyName T ≠ "__name__" ∧ (tyName T == ("__debug__" : Str)) = false ∧ tyName T ∈ bnames := by
  match T, h with
  | 0, _ => exact ⟨rfl, by decide, by decide, by decide⟩
  | 1, _ => exact ⟨rfl, by decide, by decide, by decide⟩
  | 2, _ => exact ⟨rfl, by decide, by decide, by decide⟩
  | 3, _ => exact ⟨rfl, by decide, by decide, by decide⟩
  | 4, _ => exact ⟨rfl, by decide, by decide, by decide⟩
theorem getD_some {α : Type} {xs : List α} {i : Nat} {d : α} (h : i < xs.length) : xs[i]? = some (xs.getD i d) := by
  rw [List.getD_eq_getElem?_getD, List.getElem?_eq_getElem h]; rfl
theorem getD_mem {α : Type} {xs : List α} {i : Nat} {d : α} (h : i < xs.length) : xs.getD i d ∈ xs := List.mem_of_getElem? (getD_some h)
theorem PO.mono {X : Cx} {e : Option Expr} {t t' : TO} (p : PO X e t) (h : ∀ σ H Q, t' σ H Q → t σ H Q) : PO X e t' := fun pins s σ H Q I q => p pins s σ H Q I (h σ H Q q)
theorem base_plain (o : E) (x : Str) (env : Env) : attributeBase (o.py n) x env (eval (o.py n) env) = eval (o.py n) env := by
  cases o with
  | ofL l => cases l <;> (unfold E.py L.py; rfl)
  | _ => unfold E.py; rfl
theorem few_one (a : E) (pos : Pos) (env : Env) : ((backTo pos (starEach [a.py n] env)).all (fun x => !x.1) && (backToKw pos (keywordEach [] env)).all (fun x => x.1.isSome)
      && decide (([a.py n] : List Expr).length + ([] : List Keyword).length + (if ([] : List Keyword).isEmpty then 0 else 1) < 30)) = true := by
  rw [star_cons]; rfl
theorem m0_ty {K : PySem.W.Frag} {μ : List Addr} {H : Hp} {h : Hh} {m : M0} {d : D} {v : V} (hr : HR K μ h H) (r : Rep K μ H d v) (e : m0D m d h ≠ .no) : tyV K "list" v H := by
  unfold m0D at e
  cases r with
  | @loc nn b mm =>
    cases e1 : h[nn]? with
    | none => simp only [e1] at e; exact absurd rfl e
    | some o =>
      cases o with
      | dK _ => simp only [e1] at e; exact absurd rfl e
      | lst ds => obtain ⟨vs, q1, q2⟩ := lst_of hr mm e1; exact .inl ⟨rfl, vs, SqL.of q1⟩
  | _ => exact absurd rfl e
theorem onL_ty {K : PySem.W.Frag} {cv : Nat → Value} {R : List Addr → Hp → D → V → Prop} {μ : List Addr} {H : Hp} {h : Hh} {d : D} {v : V} {r : Res D} {Q : VK} {Z : Value → Hp → Prop} (hr : HR K μ h H) (q : Rep K μ H d v) (p : PostE K cv R μ H (onL d h r) Q Z) : tyV K "list" v H ∧ PostE K cv R μ H r Q Z := by
  unfold onL at p
  cases q with
  | @loc nn b mm =>
    cases e1 : h[nn]? with
    | none => simp only [e1] at p; exact p.elim
    | some o =>
      cases o with
      | dK _ => simp only [e1] at p; exact p.elim
      | lst ds => simp only [e1] at p; obtain ⟨vs, q1, q2⟩ := lst_of hr mm e1; exact ⟨.inl ⟨rfl, vs, SqL.of q1⟩, p⟩
  | _ => exact p.elim
theorem fold_plain (it : I) {env : Env} : ∀ x, foldedSetIterable (it.py n) env x = pure x := by
  intro x
  cases it with
  | seq e =>
    cases e with
    | ofL l => cases l <;> (unfold I.py E.py L.py; rfl)
    | _ => unfold I.py E.py; rfl
  | lst l => cases l <;> (unfold I.py L.py; rfl)
  | rng a p0 p => unfold I.py; rfl
theorem comp_ok {elt : E} {t : Tg} {it : I} {c : Es} {NC : List Str} {cap : List (Option Nat)} {csc : Scope} {p : Pos} (C : Kx X Z k n cv cl) (h : (L.comp elt t it c NC cap csc p).ok X.env.scope n = true) :
    it.ok X.env.scope n = true ∧ compOk X.env.scope csc X.N NC cap = true ∧ NC.Nodup ∧ NC.all goodN = true ∧ t.ok (relab csc X.env.scope) NC = true ∧ elt.ok (relab csc X.env.scope) ⟨NC, n.F⟩ = true ∧ c.ok (relab csc X.env.scope) ⟨NC, n.F⟩ = true ∧ c.okT = true ∧ c.short = true := by
  unfold L.ok at h
  simp only [Bool.and_eq_true, decide_eq_true_eq] at h
  obtain ⟨⟨⟨⟨⟨⟨⟨⟨k1, k2⟩, k3⟩, k4⟩, k5⟩, k6⟩, k7⟩, k8⟩, k9⟩ := h
  exact ⟨k1, by rw [C.nN]; exact k2, k3, k4, k5, k6, k7, k8, k9⟩
theorem pf_none {Zc : ZK} {m : Nm} : PF X (Es.nil.py m) (lift X.K cv RB Zc (Es.nil.evC cl)) := by
  unfold Es.py
  refine fun pins s σ H Q I q => pf_nil pins s σ H Q I ?_
  obtain ⟨μ, ρ, h, hr, er, q⟩ := q
  unfold Es.evC at q
  exact q.here hr rfl
theorem comp_pg {scope : Scope} {NC : List Str} {cap : List (Option Nat)} {t : Tg} (cok : compOk X.env.scope scope X.N NC cap = true) (hnd : NC.Nodup) (ht : t.ok (relab scope X.env.scope) NC = true) {Cc : Addr} {s : Shared} {H : Hp} {fp : List Addr} {pn : List (Addr × Obj)} {xe : Value → Shared → Prop} :
    PG (compCx X NC scope Cc s H fp pn xe) (t.py NC) (gB X.K t) := by
  refine pg_T (X := compCx X NC scope Cc s H fp pn xe) rfl hnd t fun i hi => ?_
  unfold Tg.ok at ht
  have h1 := List.all_eq_true.mp ht i hi
  rw [Bool.and_eq_true] at h1
  have h2 : (relab scope X.env.scope).names.lookup (NC.getD i "") = some .local := of_decide_eq_true h1.2
  exact ⟨of_decide_eq_true h1.1, .inl h2, .inr h2⟩

mutual
theorem sE : ∀ (e : E) (X : Cx) (Z : ZK) (k : Nat) (n : Nm) (cv : Nat → Value) (cl : Nat → List D → Hh → Res D), Kx X Z k n cv cl → e.ok X.env.scope n = true → SE X Z n cv cl e
  | .non p, X, Z, k, n, cv, cl, C, _ => ⟨PE.mono pe_non fun σ H Q q => lift_C (fun _ _ _ => .non) q, fun z => nomatch z⟩
  | .bl b p, X, Z, k, n, cv, cl, C, _ => ⟨PE.mono pe_bl fun σ H Q q => lift_C (fun _ _ _ => .bl b) q, fun z => nomatch z⟩
  | .int i p, X, Z, k, n, cv, cl, C, _ => ⟨PE.mono pe_int fun σ H Q q => lift_C (fun _ _ _ => .int i) q, fun z => nomatch z⟩
  | .str x p, X, Z, k, n, cv, cl, C, _ => ⟨PE.mono pe_str fun σ H Q q => lift_C (fun _ _ _ => .str x) q, fun z => nomatch z⟩
  | .var i p, X, Z, k, n, cv, cl, C, h => by
    have hi : i < n.N.length := of_decide_eq_true h
    have hm := C.nm _ (getD_mem (d := ("" : Str)) hi)
    have hv := hm.1
    have hg := goodN_of hm.2
    have pe : PE X ((E.var i p).py n) (lift X.K cv (Rep X.K) Z ((E.var i p).ev cl)) := by
      unfold E.py
      refine PE.mono (pe_var (i := i) (by rw [C.nN]; exact getD_some hi) hv hg.1 hg.2) fun σ H Q ⟨μ, ρ, h, hr, er, q⟩ => ?_
      unfold E.ev at q
      cases e : ρ[i]? with
      | none => rw [e] at q; exact q.elim
      | some o =>
        cases o with
        | none => rw [e] at q; exact q.elim
        | some d =>
          rw [e] at q
          obtain ⟨v, e1, r1⟩ := er.val i d e
          exact ⟨v, e1, q.here hr r1⟩
    exact ⟨pe, fun _ => by unfold E.py at pe ⊢; exact pt_lift pe fun _ => rfl⟩
  | .bin op a b p, X, Z, k, n, cv, cl, C, h => by
    have h' : a.ok X.env.scope n = true ∧ b.ok X.env.scope n = true := by unfold E.ok at h; simpa using h
    have sa := sE a X Z k n cv cl C h'.1
    have sb := sE b X Z k n cv cl C h'.2
    have pe : PE X ((E.bin op a b p).py n) (lift X.K cv (Rep X.K) Z ((E.bin op a b p).ev cl)) := by
      unfold E.py
      refine PE.mono (pe_op (op_bin (cv := cv) op) sa.pe sb.pe) fun σ H Q q => ?_
      unfold E.ev at q
      exact lift2 q
    exact ⟨pe, fun _ => by unfold E.py at pe ⊢; exact pt_lift pe fun _ => rfl⟩
  | .un op a p, X, Z, k, n, cv, cl, C, h => by
    have h' : a.ok X.env.scope n = true := by unfold E.ok at h; simp at h; exact h.1
    have sa := sE a X Z k n cv cl C h'
    cases op with
    | Not =>
      refine ⟨?_, fun z => ?_⟩
      · unfold E.py
        refine PE.mono (pe_not sa.pe) fun σ H Q ⟨μ, ρ, h, hr, er, q⟩ => ?_
        unfold E.ev at q
        refine lift_bind (m := a.ev cl) hr er q fun d h1 μ1 H1 x _ e1 r1 er1 qa p1 => ?_
        unfold unD at p1
        cases qa with
        | bl b => exact ⟨b, rfl, p1.here r1 (.bl _)⟩
        | _ => exact p1.elim
      · unfold E.py
        have z' : a.okT = true := by unfold E.okT at z; exact z
        refine PT.mono (pt_not (sa.pt z')) fun σ H Q ⟨μ, ρ, h, hr, er, q⟩ => ?_
        refine ⟨μ, ρ, h, hr, er, ?_⟩
        have e1 : (E.un .Not a p).evT cl ρ h = (a.evT cl ρ h).bind fun b h1 => .ok (!b) h1 := by
          rw [evT_eq, evT_eq, bind_assoc]
          show ((a.ev cl ρ h).bind fun x h1 => unD .Not x h1).bind toB = _
          rw [bind_assoc]
          congr 1
          funext d h1
          unfold unD toB
          cases d <;> rfl
        rw [e1] at q
        cases e2 : a.evT cl ρ h with
        | ok b h1 =>
          rw [e2] at q
          intro μ1 H1 v x1 x2 x3
          have x3' : b = v := x3
          subst x3'
          exact q μ1 H1 (!b) x1 x2 rfl
        | exc c h1 => rw [e2] at q; exact q
        | no => rw [e2] at q; exact q
    | Invert =>
      have pe : PE X ((E.un .Invert a p).py n) (lift X.K cv (Rep X.K) Z ((E.un .Invert a p).ev cl)) := by
        unfold E.py
        refine PE.mono (pe_un (un_op (cv := cv) .Invert (.inl rfl)) sa.pe) fun σ H Q q => ?_
        unfold E.ev at q
        exact lift1 q
      exact ⟨pe, fun _ => by unfold E.py at pe ⊢; exact pt_lift pe fun _ => rfl⟩
    | USub =>
      have pe : PE X ((E.un .USub a p).py n) (lift X.K cv (Rep X.K) Z ((E.un .USub a p).ev cl)) := by
        unfold E.py
        refine PE.mono (pe_un (un_op (cv := cv) .USub (.inr rfl)) sa.pe) fun σ H Q q => ?_
        unfold E.ev at q
        exact lift1 q
      exact ⟨pe, fun _ => by unfold E.py at pe ⊢; exact pt_lift pe fun _ => rfl⟩
    | UAdd =>
      have no : ∀ {β : Type} {σ : St} {H : Hp} {R : List Addr → Hp → D → β → Prop} {Q : β → Hp → Prop}, lift X.K cv R Z ((E.un .UAdd a p).ev cl) σ H Q → lift X.K cv (Rep X.K) Z (a.ev cl) σ H (fun _ _ => False) := by
        intro β σ H R Q ⟨μ, ρ, h, hr, er, q⟩
        unfold E.ev at q
        refine lift_bind (m := a.ev cl) hr er q fun d h1 μ1 H1 x _ e1 r1 er1 qa p1 => ?_
        unfold unD at p1
        cases d <;> exact p1.elim
      have pe : PE X ((E.un .UAdd a p).py n) (lift X.K cv (Rep X.K) Z ((E.un .UAdd a p).ev cl)) := by
        unfold E.py
        refine PE.mono (pe_un (r := fun _ _ _ => False) (fun _ _ _ _ _ _ _ _ _ z => z.elim) sa.pe) fun σ H Q q => no q
      exact ⟨pe, fun _ => by unfold E.py at pe ⊢; exact pt_lift pe fun _ => rfl⟩
  | .cmp op a b p, X, Z, k, n, cv, cl, C, h => by
    have h' : (a.ok X.env.scope n = true ∧ b.ok X.env.scope n = true) ∧ behindInMarks op (b.py n) = false := by unfold E.ok at h; simpa using h
    have sa := sE a X Z k n cv cl C h'.1.1
    have sb := sE b X Z k n cv cl C h'.1.2
    refine ⟨?_, fun _ => ?_⟩
    · unfold E.py
      refine PE.mono (pe_cmpR (op_cmp (cv := cv) C.rm.units op) sa.pe sb.pe h'.2) fun σ H Q q => ?_
      unfold E.ev at q
      exact lift2 q
    · unfold E.py
      refine PT.mono (pt_cmpR (op_cmp (cv := cv) C.rm.units op) sa.pe sb.pe h'.2) fun σ H Q ⟨μ, ρ, h, hr, er, q⟩ => ?_
      rw [evT_eq] at q
      unfold E.ev at q
      rw [bind_assoc] at q
      unfold tTest
      refine lift_bind (m := a.ev cl) hr er q fun da h1 μ1 H1 x _ e1 r1 er1 qa p1 => ?_
      rw [bind_assoc] at p1
      refine lift_bind (m := b.ev cl) r1 er1 p1 fun db h2 μ2 H2 y _ e2 r2 er2 qb p2 => ?_
      refine ⟨μ2, h2, da, db, Z σ, r2, qa.mono e2, qb, ?_⟩
      cases e3 : cmpD op da db h2 with
      | ok d h3 =>
        rw [e3] at p2
        intro μ3 H3 v x1 x2 x3
        unfold Res.bind toB at p2
        cases x3 with
        | bl c => exact ⟨c, rfl, p2 μ3 H3 c x1 x2 rfl⟩
        | _ => exact p2.elim
      | exc c h3 => rw [e3] at p2; exact p2
      | no => rw [e3] at p2; exact p2
  | .and a b r p, X, Z, k, n, cv, cl, C, h => by
    have h' : ((((a.ok X.env.scope n = true ∧ b.ok X.env.scope n = true) ∧ r.ok X.env.scope n = true) ∧ a.okT = true) ∧ b.okT = true) ∧ r.okT = true := by unfold E.ok at h; simpa using h
    have sa := sE a X Z k n cv cl C h'.1.1.1.1.1
    have sb := sE b X Z k n cv cl C h'.1.1.1.1.2
    have sr := sEs r X Z k n cv cl C h'.1.1.1.2
    refine ⟨?_, fun _ => ?_⟩
    · unfold E.py
      refine PE.mono (pe_and sa.pe (sr.an b p sb)) fun σ H Q ⟨μ, ρ, h, hr, er, q⟩ => ?_
      unfold E.ev at q
      refine lift_bind (m := a.ev cl) hr er q fun d h1 μ1 H1 x _ e1 r1 er1 qa p1 => ?_
      unfold tru at p1
      cases qa with
      | bl c =>
        refine ⟨c, rfl, ?_⟩
        cases c with
        | true => exact iteT ⟨μ1, ρ, h1, r1, er1, p1⟩
        | false => exact iteF (p1.here r1 (.bl _))
      | _ => exact p1.elim
    · unfold E.py
      refine PT.mono (PW.pt (pw_and (sa.pt h'.1.1.2) (sr.anT b p sb h'.1.2 h'.2))) fun σ H Q ⟨μ, ρ, h, hr, er, q⟩ => ?_
      have e0 : (E.and a b r p).evT cl ρ h = (a.evT cl ρ h).bind fun c h1 => if c then (b.evT cl ρ h1).bind fun c' h2 => r.evAndT cl ρ c' h2 else .ok false h1 := by
        rw [evT_eq, evT_eq, bind_assoc]
        show ((a.ev cl ρ h).bind fun x h1 => tru x h1 fun c h1 => if c then (b.ev cl ρ h1).bind fun y h2 => r.evAnd cl ρ y h2 else .ok (.bl false) h1).bind toB = _
        rw [bind_assoc]
        congr 1
        funext d h1
        unfold tru
        cases d with
        | bl c =>
          cases c with
          | false => rfl
          | true =>
            show ((b.ev cl ρ h1).bind fun y h2 => r.evAnd cl ρ y h2).bind toB = (b.evT cl ρ h1).bind fun c' h2 => r.evAndT cl ρ c' h2
            rw [evT_eq, bind_assoc, bind_assoc]
            congr 1
            funext y h2
            exact and_toB r ρ y h2
        | _ => rfl
      rw [e0] at q
      refine lift_bind (m := a.evT cl) (R := RB) hr er q fun c h1 μ1 H1 x _ e1 r1 er1 qa p1 => ?_
      have qa' : c = x := qa
      subst qa'
      cases c with
      | true => exact iteT ⟨μ1, ρ, h1, r1, er1, p1⟩
      | false => exact iteF (p1.here r1 rfl)
  | .or a b r p, X, Z, k, n, cv, cl, C, h => by
    have h' : ((((a.ok X.env.scope n = true ∧ b.ok X.env.scope n = true) ∧ r.ok X.env.scope n = true) ∧ a.okT = true) ∧ b.okT = true) ∧ r.okT = true := by unfold E.ok at h; simpa using h
    have sa := sE a X Z k n cv cl C h'.1.1.1.1.1
    have sb := sE b X Z k n cv cl C h'.1.1.1.1.2
    have sr := sEs r X Z k n cv cl C h'.1.1.1.2
    refine ⟨?_, fun _ => ?_⟩
    · unfold E.py
      refine PE.mono (pe_or sa.pe (sr.orr b p sb)) fun σ H Q ⟨μ, ρ, h, hr, er, q⟩ => ?_
      unfold E.ev at q
      refine lift_bind (m := a.ev cl) hr er q fun d h1 μ1 H1 x _ e1 r1 er1 qa p1 => ?_
      unfold tru at p1
      cases qa with
      | bl c =>
        refine ⟨c, rfl, ?_⟩
        cases c with
        | true => exact iteT (p1.here r1 (.bl _))
        | false => exact iteF ⟨μ1, ρ, h1, r1, er1, p1⟩
      | _ => exact p1.elim
    · unfold E.py
      refine PT.mono (PW.pt (pw_or (sa.pt h'.1.1.2) (sr.orT b p sb h'.1.2 h'.2))) fun σ H Q ⟨μ, ρ, h, hr, er, q⟩ => ?_
      have e0 : (E.or a b r p).evT cl ρ h = (a.evT cl ρ h).bind fun c h1 => if c then .ok true h1 else (b.evT cl ρ h1).bind fun c' h2 => r.evOrT cl ρ c' h2 := by
        rw [evT_eq, evT_eq, bind_assoc]
        show ((a.ev cl ρ h).bind fun x h1 => tru x h1 fun c h1 => if c then .ok (.bl true) h1 else (b.ev cl ρ h1).bind fun y h2 => r.evOr cl ρ y h2).bind toB = _
        rw [bind_assoc]
        congr 1
        funext d h1
        unfold tru
        cases d with
        | bl c =>
          cases c with
          | true => rfl
          | false =>
            show ((b.ev cl ρ h1).bind fun y h2 => r.evOr cl ρ y h2).bind toB = (b.evT cl ρ h1).bind fun c' h2 => r.evOrT cl ρ c' h2
            rw [evT_eq, bind_assoc, bind_assoc]
            congr 1
            funext y h2
            exact or_toB r ρ y h2
        | _ => rfl
      rw [e0] at q
      refine lift_bind (m := a.evT cl) (R := RB) hr er q fun c h1 μ1 H1 x _ e1 r1 er1 qa p1 => ?_
      have qa' : c = x := qa
      subst qa'
      cases c with
      | true => exact iteT (p1.here r1 rfl)
      | false => exact iteF ⟨μ1, ρ, h1, r1, er1, p1⟩
  | .ite c a b p, X, Z, k, n, cv, cl, C, h => by
    have h' : ((c.ok X.env.scope n = true ∧ a.ok X.env.scope n = true) ∧ b.ok X.env.scope n = true) ∧ c.okT = true := by unfold E.ok at h; simpa using h
    have sc := sE c X Z k n cv cl C h'.1.1.1
    have sa := sE a X Z k n cv cl C h'.1.1.2
    have sb := sE b X Z k n cv cl C h'.1.2
    refine ⟨?_, fun z => nomatch z⟩
    unfold E.py
    refine PE.mono (pe_ifExp (sc.pt h'.2) sa.pe sb.pe) fun σ H Q ⟨μ, ρ, h, hr, er, q⟩ => ?_
    unfold E.ev at q
    have e0 : ((c.ev cl ρ h).bind fun x h1 => tru x h1 fun t h1 => if t then a.ev cl ρ h1 else b.ev cl ρ h1) = (c.evT cl ρ h).bind fun t h1 => if t then a.ev cl ρ h1 else b.ev cl ρ h1 := by
      rw [evT_eq, bind_assoc]
      congr 1
      funext d h1
      unfold tru toB
      cases d <;> rfl
    rw [e0] at q
    refine lift_bind (m := c.evT cl) (R := RB) hr er q fun t h1 μ1 H1 x _ e1 r1 er1 qa p1 => ?_
    have qa' : t = x := qa
    subst qa'
    cases t with
    | true => exact iteT ⟨μ1, ρ, h1, r1, er1, p1⟩
    | false => exact iteF ⟨μ1, ρ, h1, r1, er1, p1⟩
  | .call f a r p0 p, X, Z, k, n, cv, cl, C, h => by
    have h' : ((f < n.F.length ∧ gOf X.env.scope (n.F.getD f "") = true) ∧ a.ok X.env.scope n = true) ∧ r.ok X.env.scope n = true := by unfold E.ok at h; simpa using h
    have sa := sE a X Z k n cv cl C h'.1.2
    have sr := sEs r X Z k n cv cl C h'.2
    obtain ⟨hdb, fa, fd, ps, hm, hk, hb, hl, F⟩ := C.fn f _ (getD_some (d := ("" : Str)) h'.1.1.1)
    have pe : PE X ((E.call f a r p0 p).py n) (lift X.K cv (Rep X.K) Z ((E.call f a r p0 p).ev cl)) := by
      unfold E.py
      refine PE.mono (pe_callX F C.rm (C.gl h'.1.1.2) hm hk hb .nil C.th (pa_cons sa.pe sr.pa (star_cons a _ _)) hdb (star_cons a _ _) (star_plain r p X.env)) fun σ H Q ⟨μ, ρ, h, hr, er, q⟩ => ?_
      unfold E.ev at q
      unfold tCallX tCons
      refine lift_bind (m := a.ev cl) hr er q fun da h1 μ1 H1 x _ e1 r1 er1 qa p1 => ?_
      refine lift_bind (m := r.ev cl) r1 er1 p1 fun ds h2 μ2 H2 xs _ e2 r2 er2 qb p2 => ?_
      show spI X.K cv ps.length (cl f) ((x :: xs) ++ []) H2 Q fun C _ H' => Z σ C H'
      rw [List.append_nil]
      have z := hl (da :: ds) h2 fun z => by rw [z] at p2; exact p2
      exact ⟨by rw [List.length_cons, ← qb.length, ← List.length_cons (a := da)]; exact z, μ2, h2, da :: ds, r2, .cons (qa.mono e2) qb, p2⟩
    exact ⟨pe, fun _ => by unfold E.py at pe ⊢; exact pt_lift pe fun _ => rfl⟩
  | .len a p0 p, X, Z, k, n, cv, cl, C, h => by
    have h' : gOf X.env.scope "len" = true ∧ a.ok X.env.scope n = true := by unfold E.ok at h; simpa using h
    have sa := sE a X Z k n cv cl C h'.2
    have pe : PE X ((E.len a p0 p).py n) (lift X.K cv (Rep X.K) Z ((E.len a p0 p).ev cl)) := by
      unfold E.py
      refine PE.mono (pe_callB (call_lenI (cv := cv)) (C.gl h'.1) (C.bm _ (by decide)) PySem.boot_len (pa_cons sa.pe pa_nil (star_cons a _ _)) (by decide) (by decide) (star_cons a _ _) rfl) fun σ H Q ⟨μ, ρ, h, hr, er, q⟩ => ?_
      unfold E.ev at q
      refine lift_bind (m := a.ev cl) hr er q fun da h1 μ1 H1 x _ e1 r1 er1 qa p1 => ?_
      exact ⟨x, rfl, μ1, h1, da, _, r1, qa, p1⟩
    exact ⟨pe, fun _ => by unfold E.py at pe ⊢; exact pt_lift pe fun _ => rfl⟩
  | .isi T a p0 p1 p, X, Z, k, n, cv, cl, C, h => by
    have h' : ((gOf X.env.scope "isinstance" = true ∧ gOf X.env.scope (tyName T) = true) ∧ T < 5) ∧ a.ok X.env.scope n = true := by unfold E.ok at h; simpa using h
    have sa := sE a X Z k n cv cl C h'.2
    obtain ⟨b1, b2, b3, b4⟩ := boot_T T h'.1.2
    have pe : PE X ((E.isi T a p0 p1 p).py n) (lift X.K cv (Rep X.K) Z ((E.isi T a p0 p1 p).ev cl)) := by
      unfold E.py
      refine PE.mono (pe_callB (call_isI (cv := cv) T h'.1.2) (C.gl h'.1.1.1) (C.bm _ (by decide)) PyProof.Rows.boot_isinstance (pa_cons sa.pe (pa_cons (pe_bltn (v := .ty (tyStr T)) (C.gl h'.1.1.2) (C.bm _ b4) b1 rfl b2 b3) pa_nil) (star_cons a _ _)) (by decide) (by decide) (star_cons a _ _) rfl) fun σ H Q ⟨μ, ρ, h, hr, er, q⟩ => ?_
      unfold E.ev at q
      refine lift_bind (m := a.ev cl) hr er q fun da h1 μ1 H1 x _ e1 r1 er1 qa p1 => ?_
      exact ⟨x, rfl, μ1, h1, da, _, r1, qa, p1⟩
    exact ⟨pe, fun _ => by unfold E.py at pe ⊢; exact pt_lift pe fun _ => rfl⟩
  | .sub a i p, X, Z, k, n, cv, cl, C, h => by
    have h' : a.ok X.env.scope n = true ∧ i.ok X.env.scope n = true := by unfold E.ok at h; simpa using h
    have sa := sE a X Z k n cv cl C h'.1
    have sb := sE i X Z k n cv cl C h'.2
    have pe : PE X ((E.sub a i p).py n) (lift X.K cv (Rep X.K) Z ((E.sub a i p).ev cl)) := by
      unfold E.py
      refine PE.mono (pe_ix (ix_ours (cv := cv) (hu_of C.rm)) sa.pe sb.pe (plain_ix i)) fun σ H Q q => ?_
      unfold E.ev at q
      exact lift2 q
    exact ⟨pe, fun _ => by unfold E.py at pe ⊢; exact pt_lift pe fun _ => rfl⟩
  | .tup es p, X, Z, k, n, cv, cl, C, h => by
    have h' : es.ok X.env.scope n = true := by unfold E.ok at h; exact h
    have sr := sEs es X Z k n cv cl C h'
    have pe : PE X ((E.tup es p).py n) (lift X.K cv (Rep X.K) Z ((E.tup es p).ev cl)) := by
      unfold E.py
      refine PE.mono (pe_tup sr.pa) fun σ H Q ⟨μ, ρ, h, hr, er, q⟩ => ?_
      unfold E.ev at q
      refine lift_bind (m := es.ev cl) hr er q fun ds h1 μ1 H1 xs _ e1 r1 er1 qa p1 => ?_
      split at p1
      · rename_i c
        refine ⟨by rw [← qa.length]; exact Nat.le_of_lt (small1000 c), fun a ha => ?_⟩
        exact p1 μ1 _ (.ref a) (ext_new ha) (r1.tup ha) (.tup (SqT.of upd_same) (qa.mono (ext_new ha)))
      · exact p1.elim
    exact ⟨pe, fun _ => by unfold E.py at pe ⊢; exact pt_lift pe fun _ => rfl⟩
  | .ofL l, X, Z, k, n, cv, cl, C, h => by
    have sl := sL l X Z k n cv cl C (by unfold E.ok at h; exact h)
    refine ⟨?_, fun z => nomatch z⟩
    unfold E.py
    refine PE.mono sl fun σ H Q ⟨μ, ρ, h, hr, er, q⟩ => ?_
    unfold E.ev at q
    refine lift_bind0 (m := l.ev cl) Ext.refl hr er q (fun _ _ z => z) fun ds h1 μ1 H1 x _ e1 r1 er1 qa p1 => ?_
    obtain ⟨p, vs, rfl, g1, g2, g3, g4⟩ := qa
    refine p1 (μ1 ++ [p]) H1 _ (e1.add g4) (r1.add g3 fun μ' gr => ⟨vs, g1, g2.mono' gr⟩) (.loc ?_)
    rw [← r1.len, List.getElem?_append_right (Nat.le_refl _), Nat.sub_self]
    rfl
  | .tupL l p0 p, X, Z, k, n, cv, cl, C, h => by
    have h' : gOf X.env.scope "tuple" = true ∧ l.ok X.env.scope n = true := by unfold E.ok at h; simpa using h
    have sl := sL l X Z k n cv cl C h'.2
    have pe : PE X ((E.tupL l p0 p).py n) (lift X.K cv (Rep X.K) Z ((E.tupL l p0 p).ev cl)) := by
      unfold E.py
      refine PE.mono (pe_callTy call_tuple_of (C.gl h'.1) (C.bm _ (by decide)) PyProof.Rows.boot_tuple (pa_cons sl pa_nil (L.py_star l _ _)) (by decide) (by decide) (L.py_star l _ _) rfl) fun σ H Q ⟨μ, ρ, h, hr, er, q⟩ => ?_
      unfold E.ev at q
      refine lift_bind0 (m := l.ev cl) Ext.refl hr er q (fun _ _ z => z) fun ds h1 μ1 H1 x _ e1 r1 er1 qa p1 => ?_
      obtain ⟨b, vs, rfl, g1, g2, g3, g4⟩ := qa
      exact ⟨b, vs, rfl, .inl ⟨SqL.of g1, fun a ha => p1 μ1 _ _ (e1.trans (ext_new ha)) (r1.tup ha) (.tup (SqT.of upd_same) (g2.mono (ext_new ha)))⟩⟩
    exact ⟨pe, fun _ => by unfold E.py at pe ⊢; exact pt_lift pe fun _ => rfl⟩
  | .tupE e p0 p, X, Z, k, n, cv, cl, C, h => by
    have h' : gOf X.env.scope "tuple" = true ∧ e.ok X.env.scope n = true := by unfold E.ok at h; simpa using h
    have se := sE e X Z k n cv cl C h'.2
    have pe : PE X ((E.tupE e p0 p).py n) (lift X.K cv (Rep X.K) Z ((E.tupE e p0 p).ev cl)) := by
      unfold E.py
      refine PE.mono (pe_callTy (call_tupI (cv := cv)) (C.gl h'.1) (C.bm _ (by decide)) PyProof.Rows.boot_tuple (pa_cons se.pe pa_nil (star_cons e _ _)) (by decide) (by decide) (star_cons e _ _) rfl) fun σ H Q ⟨μ, ρ, h, hr, er, q⟩ => ?_
      unfold E.ev at q
      refine lift_bind (m := e.ev cl) hr er q fun da h1 μ1 H1 x _ e1 r1 er1 qa p1 => ?_
      exact ⟨x, rfl, μ1, h1, da, _, r1, qa, p1⟩
    exact ⟨pe, fun _ => by unfold E.py at pe ⊢; exact pt_lift pe fun _ => rfl⟩
  | .listE e p0 p, X, Z, k, n, cv, cl, C, h => by
    have h' : gOf X.env.scope "list" = true ∧ e.ok X.env.scope n = true := by unfold E.ok at h; simpa using h
    have se := sE e X Z k n cv cl C h'.2
    have pe : PE X ((E.listE e p0 p).py n) (lift X.K cv (Rep X.K) Z ((E.listE e p0 p).ev cl)) := by
      unfold E.py
      refine PE.mono (pe_callTy (call_listI (cv := cv)) (C.gl h'.1) (C.bm _ (by decide)) PyProof.Rows.boot_list (pa_cons se.pe pa_nil (star_cons e _ _)) (by decide) (by decide) (star_cons e _ _) rfl) fun σ H Q ⟨μ, ρ, h, hr, er, q⟩ => ?_
      unfold E.ev at q
      refine lift_bind (m := e.ev cl) hr er q fun da h1 μ1 H1 x _ e1 r1 er1 qa p1 => ?_
      exact ⟨x, rfl, μ1, h1, da, _, r1, qa, p1⟩
    exact ⟨pe, fun _ => by unfold E.py at pe ⊢; exact pt_lift pe fun _ => rfl⟩
  | .cut a lo hi p2 p, X, Z, k, n, cv, cl, C, h => by
    have h' : (a.ok X.env.scope n = true ∧ lo.ok X.env.scope n = true) ∧ hi.ok X.env.scope n = true := by unfold E.ok at h; simpa using h
    have sa := sE a X Z k n cv cl C h'.1.1
    have sl := sEo lo X Z k n cv cl C h'.1.2
    have sh := sEo hi X Z k n cv cl C h'.2
    have pe : PE X ((E.cut a lo hi p2 p).py n) (lift X.K cv (Rep X.K) Z ((E.cut a lo hi p2 p).ev cl)) := by
      unfold E.py
      refine PE.mono (pe_slice (sl_ours (cv := cv)) sa.pe sl sh) fun σ H Q ⟨μ, ρ, h, hr, er, q⟩ => ?_
      unfold E.ev at q
      refine lift_bind (m := a.ev cl) hr er q fun da h1 μ1 H1 x _ e1 r1 er1 qa p1 => ?_
      refine lift_bind (m := lo.ev cl) (R := fun _ _ a b => a = b) r1 er1 p1 fun l h2 μ2 H2 l' _ e2 r2 er2 ql p2 => ?_
      have ql' : l = l' := ql
      subst ql'
      refine lift_bind (m := hi.ev cl) (R := fun _ _ a b => a = b) r2 er2 p2 fun u h3 μ3 H3 u' _ e3 r3 er3 qu p3 => ?_
      have qu' : u = u' := qu
      subst qu'
      exact ⟨μ3, h3, da, _, r3, (qa.mono e2).mono e3, p3⟩
    exact ⟨pe, fun _ => by unfold E.py at pe ⊢; exact pt_lift pe fun _ => rfl⟩
  | .dic p, X, Z, k, n, cv, cl, C, h => by
    refine ⟨?_, fun z => nomatch z⟩
    unfold E.py
    refine PE.mono pe_dnewK fun σ H Q ⟨μ, ρ, h, hr, er, q⟩ => ?_
    unfold E.ev at q
    intro b hb
    refine q _ _ _ ((ext_new hb).add hb) (hr.alloc hb (hr.fresh hb) fun μ' g => ⟨_, upd_same, .nil⟩) (.loc ?_)
    rw [← hr.len, List.getElem?_append_right (Nat.le_refl _), Nat.sub_self]
    rfl
  | .m0 m o p1 p, X, Z, k, n, cv, cl, C, h => by
    have h' : o.ok X.env.scope n = true ∧ p1.endLine = p.line := by unfold E.ok at h; simpa using h
    have so := sE o X Z k n cv cl C h'.1
    have hl : (p1.endLine == p.line) = true := beq_iff_eq.mpr h'.2
    have pe : PE X ((E.m0 m o p1 p).py n) (lift X.K cv (Rep X.K) Z ((E.m0 m o p1 p).ev cl)) := by
      unfold E.py
      cases m with
      | pop =>
        refine PE.mono (pe_bm0 PySem.F.plainAttrs_list PySem.F.slot_list_pop PySem.F.type_list_pop (mt_pop0 (cv := cv)) so.pe (base_plain o _ _) hl) fun σ H Q ⟨μ, ρ, h, hr, er, q⟩ => ?_
        unfold E.ev at q
        refine lift_bind (m := o.ev cl) hr er q fun da h1 μ1 H1 x _ e1 r1 er1 qa p1 => ?_
        exact ⟨m0_ty r1 qa fun z => by rw [z] at p1; exact p1, rfl, μ1, h1, da, _, r1, qa, p1⟩
      | reverse =>
        refine PE.mono (pe_bm0 PySem.F.plainAttrs_list PySem.F.slot_list_reverse PySem.F.type_list_reverse (mt_reverse0 (cv := cv)) so.pe (base_plain o _ _) hl) fun σ H Q ⟨μ, ρ, h, hr, er, q⟩ => ?_
        unfold E.ev at q
        refine lift_bind (m := o.ev cl) hr er q fun da h1 μ1 H1 x _ e1 r1 er1 qa p1 => ?_
        exact ⟨m0_ty r1 qa fun z => by rw [z] at p1; exact p1, rfl, μ1, h1, da, _, r1, qa, p1⟩
    exact ⟨pe, fun _ => by unfold E.py at pe ⊢; exact pt_lift pe fun _ => rfl⟩
  | .m1 m o a p1 p, X, Z, k, n, cv, cl, C, h => by
    have h' : (o.ok X.env.scope n = true ∧ a.ok X.env.scope n = true) ∧ p1.endLine = p.line := by unfold E.ok at h; simpa using h
    have so := sE o X Z k n cv cl C h'.1.1
    have sa := sE a X Z k n cv cl C h'.1.2
    have hl : (p1.endLine == p.line) = true := beq_iff_eq.mpr h'.2
    have pe : PE X ((E.m1 m o a p1 p).py n) (lift X.K cv (Rep X.K) Z ((E.m1 m o a p1 p).ev cl)) := by
      unfold E.py
      cases m with
      | append =>
        refine PE.mono (pe_bm PySem.F.plainAttrs_list PySem.F.slot_list_append PySem.F.type_list_append (mt_append1 (cv := cv)) so.pe (pa_cons sa.pe pa_nil (star_cons a _ _)) (base_plain o _ _) (few_one a _ _) hl (star_cons a _ _) rfl) fun σ H Q ⟨μ, ρ, h, hr, er, q⟩ => ?_
        unfold E.ev at q
        refine lift_bind (m := o.ev cl) hr er q fun da h1 μ1 H1 x _ e1 r1 er1 qa p1 => ?_
        obtain ⟨ty, p1⟩ := onL_ty r1 qa p1
        refine ⟨ty, ?_⟩
        refine lift_bind (m := a.ev cl) r1 er1 p1 fun db h2 μ2 H2 y _ e2 r2 er2 qb p2 => ?_
        exact ⟨y, rfl, μ2, h2, da, db, _, r2, qa.mono e2, qb, p2⟩
      | extend =>
        refine PE.mono (pe_bm PySem.F.plainAttrs_list PySem.F.slot_list_extend PySem.F.type_list_extend (mt_extend1 (cv := cv)) so.pe (pa_cons sa.pe pa_nil (star_cons a _ _)) (base_plain o _ _) (few_one a _ _) hl (star_cons a _ _) rfl) fun σ H Q ⟨μ, ρ, h, hr, er, q⟩ => ?_
        unfold E.ev at q
        refine lift_bind (m := o.ev cl) hr er q fun da h1 μ1 H1 x _ e1 r1 er1 qa p1 => ?_
        obtain ⟨ty, p1⟩ := onL_ty r1 qa p1
        refine ⟨ty, ?_⟩
        refine lift_bind (m := a.ev cl) r1 er1 p1 fun db h2 μ2 H2 y _ e2 r2 er2 qb p2 => ?_
        exact ⟨y, rfl, μ2, h2, da, db, _, r2, qa.mono e2, qb, p2⟩
    exact ⟨pe, fun _ => by unfold E.py at pe ⊢; exact pt_lift pe fun _ => rfl⟩
  | .max2 a b p0 p, X, Z, k, n, cv, cl, C, h => by
    have h' : (gOf X.env.scope "max" = true ∧ a.ok X.env.scope n = true) ∧ b.ok X.env.scope n = true := by unfold E.ok at h; simpa using h
    have sa := sE a X Z k n cv cl C h'.1.2
    have sb := sE b X Z k n cv cl C h'.2
    have pe : PE X ((E.max2 a b p0 p).py n) (lift X.K cv (Rep X.K) Z ((E.max2 a b p0 p).ev cl)) := by
      unfold E.py
      refine PE.mono (pe_callB (call_maxI (cv := cv) C.cm) (C.gl h'.1.1) (C.bm _ (by decide)) PyProof.Rows.boot_max (pa_cons sa.pe (pa_cons sb.pe pa_nil (star_cons b _ _)) (star_cons a _ _)) (by decide) (by decide) (star_cons a _ _) (by rw [star_cons]; rfl)) fun σ H Q ⟨μ, ρ, h, hr, er, q⟩ => ?_
      unfold E.ev at q
      refine lift_bind (m := a.ev cl) hr er q fun da h1 μ1 H1 x _ e1 r1 er1 qa p1 => ?_
      refine lift_bind (m := b.ev cl) r1 er1 p1 fun db h2 μ2 H2 y _ e2 r2 er2 qb p2 => ?_
      exact ⟨x, y, rfl, μ2, h2, da, db, _, r2, qa.mono e2, qb, p2⟩
    exact ⟨pe, fun _ => by unfold E.py at pe ⊢; exact pt_lift pe fun _ => rfl⟩
theorem sEo : ∀ (e : Eo) (X : Cx) (Z : ZK) (k : Nat) (n : Nm) (cv : Nat → Value) (cl : Nat → List D → Hh → Res D), Kx X Z k n cv cl → e.ok X.env.scope n = true → PO X (e.py n) (lift X.K cv (fun _ _ a b => a = b) Z (e.ev cl))
  | .none, X, Z, k, n, cv, cl, C, h => by
    unfold Eo.py
    refine PO.mono po_none fun σ H Q ⟨μ, ρ, h, hr, er, q⟩ => ?_
    unfold Eo.ev at q
    exact q.here hr rfl
  | .some e, X, Z, k, n, cv, cl, C, h => by
    have se := sE e X Z k n cv cl C (by unfold Eo.ok at h; exact h)
    unfold Eo.py
    refine PO.mono (po_some se.pe) fun σ H Q ⟨μ, ρ, h, hr, er, q⟩ => ?_
    unfold Eo.ev at q
    refine lift_bind (m := e.ev cl) hr er q fun d h1 μ1 H1 x _ e1 r1 er1 qa p1 => ?_
    unfold intO at p1
    cases qa with
    | int i => exact ⟨i, rfl, p1.here r1 rfl⟩
    | _ => exact p1.elim
theorem sL : ∀ (l : L) (X : Cx) (Z : ZK) (k : Nat) (n : Nm) (cv : Nat → Value) (cl : Nat → List D → Hh → Res D), Kx X Z k n cv cl → l.ok X.env.scope n = true → PE X (l.py n) (liftL X.K cv Z (l.ev cl))
  | .disp es p, X, Z, k, n, cv, cl, C, h => by
    have sr := sEs es X Z k n cv cl C (by unfold L.ok at h; exact h)
    unfold L.py
    refine PE.mono (pe_lst sr.pa) fun σ H Q ⟨μ, ρ, h, hr, er, q⟩ => ?_
    unfold L.ev at q
    refine lift_bind0 (m := es.ev cl) Ext.refl hr er q (fun _ _ z => z) fun ds h1 μ1 H1 xs _ e1 r1 er1 qa p1 => ?_
    split at p1
    · rename_i c
      refine ⟨by rw [← qa.length]; exact Nat.le_of_lt (small1000 c), fun a ha => ?_⟩
      have na := r1.fresh ha
      have n0 : H a = none := by
        cases e : H a with
        | none => rfl
        | some o => rw [e1.oth a o e fun z => na (e1.sub z)] at ha; cases ha
      exact p1 μ1 _ _ (e1.trans (ext_new ha)) (r1.tup ha) ⟨a, xs, rfl, upd_same, qa.mono (ext_new ha), na, n0⟩
    · exact p1.elim
  | .comp elt t it c NC cap csc p, X, Z, k, n, cv, cl, C, h => by
    obtain ⟨k1, k2', k3, k4, k5, k6, k7, k8, k9⟩ := comp_ok C h
    unfold L.py
    have hit := sI it X Z k n cv cl C k1 (t.py NC)
    exact pe_compI (X := X) (Z := Z) (cv := cv) (mi := it.ev cl) (mc := c.evC cl) (me := elt.ev cl) (pos := p) (elt := elt.py ⟨NC, n.F⟩) (iter := it.py n) (ifs := c.py ⟨NC, n.F⟩) C.cm C.th hit k2' k5
      (fun Cc s H fp pn xe => comp_pg k2' k3 k5)
      (fun Cc s H fp pn xe Zc th => by
        have Cc' := C.comp k2' k3 k4 th
        cases c with
        | nil => exact pf_none
        | cons e r =>
          cases r with
          | cons _ _ => cases k9
          | nil =>
            have se := sE e _ Zc k ⟨NC, n.F⟩ cv cl Cc' (by unfold Es.ok at k7; simp at k7; exact k7.1)
            have ht := se.pt (by unfold Es.okT at k8; simp at k8; exact k8.1)
            unfold Es.py
            exact pf_one ht)
      (fun Cc s H fp pn xe Zc th => (sE elt _ Zc k ⟨NC, n.F⟩ cv cl (C.comp k2' k3 k4 th) k6).pe) (fold_plain it)
theorem sI : ∀ (it : I) (X : Cx) (Z : ZK) (k : Nat) (n : Nm) (cv : Nat → Value) (cl : Nat → List D → Hh → Res D), Kx X Z k n cv cl → it.ok X.env.scope n = true → ∀ tg, L2.PI X tg (it.py n) (lift X.K cv (RJ X.K) Z (it.ev cl))
  | .seq e, X, Z, k, n, cv, cl, C, h => fun tg => by
    have se := sE e X Z k n cv cl C (by unfold I.ok at h; exact h)
    unfold I.py
    refine PI.mono (pi_any se.pe) fun σ H Q ⟨μ, ρ, h, hr, er, q⟩ => ?_
    unfold I.ev at q
    refine lift_bind (m := e.ev cl) hr er q fun d h1 μ1 H1 x _ e1 r1 er1 qa p1 => ?_
    cases qa with
    | tup g1 g2 => exact .inr (.inl ⟨_, rfl, ⟨_, g1⟩, p1.here r1 (src_tup g1 g2)⟩)
    | fl g1 g2 => exact .inl ⟨_, rfl, ⟨_, g1.sq⟩, p1.here r1 (src_fl g1 g2)⟩
    | str z => exact .inr (.inr ⟨_, rfl, p1.here r1 (src_str z)⟩)
    | @loc nn a m =>
      cases e2 : rd h1 nn with
      | none => simp only [e2] at p1; exact p1.elim
      | some xs =>
        simp only [e2] at p1
        obtain ⟨vs, hs1, rs⟩ := r1.rd e2 m
        exact .inl ⟨_, rfl, ⟨_, hs1⟩, p1.here r1 (src_loc m)⟩
    | _ => exact p1.elim
  | .lst l, X, Z, k, n, cv, cl, C, h => fun tg => by
    have sl := sL l X Z k n cv cl C (by unfold I.ok at h; exact h)
    unfold I.py
    refine PI.mono (pi_list sl) fun σ H Q ⟨μ, ρ, h, hr, er, q⟩ => ?_
    unfold I.ev at q
    refine lift_bind0 (m := l.ev cl) Ext.refl hr er q (fun _ _ z => z) fun ds h1 μ1 H1 x _ e1 r1 er1 qa p1 => ?_
    obtain ⟨p, vs, rfl, g1, g2, g3, g4⟩ := qa
    exact ⟨p, rfl, ⟨vs, SqL.of g1⟩, p1 μ1 H1 _ e1 r1 (src_new g1 g3 g2)⟩
  | .rng a p0 p, X, Z, k, n, cv, cl, C, h => fun tg => by
    have h' : gOf X.env.scope "range" = true ∧ a.ok X.env.scope n = true := by unfold I.ok at h; simpa using h
    have sa := sE a X Z k n cv cl C h'.2
    unfold I.py
    refine PI.mono (pi_range1 (C.gl h'.1) (C.bm _ (by decide)) (pa_cons sa.pe pa_nil (star_cons a _ _)) (star_cons a _ _)) fun σ H Q ⟨μ, ρ, h, hr, er, q⟩ => ?_
    unfold I.ev at q
    refine lift_bind (m := a.ev cl) hr er q fun d h1 μ1 H1 x _ e1 r1 er1 qa p1 => ?_
    cases qa with
    | int j =>
      simp only at p1
      split at p1
      · rename_i c
        exact ⟨j, rfl, by have := c.1; omega, by have := c.2; omega, p1.here r1 (src_rng j.toNat)⟩
      · exact p1.elim
    | _ => exact p1.elim
theorem sEs : ∀ (r : Es) (X : Cx) (Z : ZK) (k : Nat) (n : Nm) (cv : Nat → Value) (cl : Nat → List D → Hh → Res D), Kx X Z k n cv cl → r.ok X.env.scope n = true → SEs X Z n cv cl r
  | .nil, X, Z, k, n, cv, cl, C, _ => by
    refine ⟨?_, fun b p sb => ?_, fun b p sb hb _ => ?_, fun b p sb => ?_, fun b p sb hb _ => ?_⟩
    · unfold Es.py
      refine PA.mono pa_nil fun σ H Q ⟨μ, ρ, h, hr, er, q⟩ => ?_
      unfold Es.ev at q
      exact q.here hr .nil
    · unfold Es.py
      refine PE.mono (pe_one sb.pe) fun σ H Q q => ?_
      simpa only [Es.evAnd, bind_pure] using q
    · unfold Es.py
      refine PW.mono (pw_and1 (sb.pt hb)) fun σ H Q q => ?_
      simpa only [Es.evAndT, bind_pure] using q
    · unfold Es.py
      refine PE.mono (pe_one sb.pe) fun σ H Q q => ?_
      simpa only [Es.evOr, bind_pure] using q
    · unfold Es.py
      refine PW.mono (pw_or1 (sb.pt hb)) fun σ H Q q => ?_
      simpa only [Es.evOrT, bind_pure] using q
  | .cons e r, X, Z, k, n, cv, cl, C, h => by
    have h' : e.ok X.env.scope n = true ∧ r.ok X.env.scope n = true := by unfold Es.ok at h; simpa using h
    have se := sE e X Z k n cv cl C h'.1
    have sr := sEs r X Z k n cv cl C h'.2
    refine ⟨?_, fun b p sb => ?_, fun b p sb hb hr' => ?_, fun b p sb => ?_, fun b p sb hb hr' => ?_⟩
    · unfold Es.py
      refine PA.mono (pa_cons se.pe sr.pa (star_cons e _ _)) fun σ H Q ⟨μ, ρ, h, hr, er, q⟩ => ?_
      unfold Es.ev at q
      refine lift_bind (m := e.ev cl) hr er q fun da h1 μ1 H1 x _ e1 r1 er1 qa p1 => ?_
      refine lift_bind (m := r.ev cl) r1 er1 p1 fun ds h2 μ2 H2 xs _ e2 r2 er2 qb p2 => ?_
      exact p2.here r2 (.cons (qa.mono e2) qb)
    · unfold Es.py
      refine PE.mono (pe_and sb.pe (sr.an e p se)) fun σ H Q ⟨μ, ρ, h, hr, er, q⟩ => ?_
      refine lift_bind (m := b.ev cl) hr er q fun d h1 μ1 H1 x _ e1 r1 er1 qa p1 => ?_
      unfold Es.evAnd tru at p1
      cases qa with
      | bl c =>
        refine ⟨c, rfl, ?_⟩
        cases c with
        | true => exact iteT ⟨μ1, ρ, h1, r1, er1, p1⟩
        | false => exact iteF (p1.here r1 (.bl _))
      | _ => exact p1.elim
    · unfold Es.py
      have hr2 : e.okT = true ∧ r.okT = true := by unfold Es.okT at hr'; simpa using hr'
      refine PW.mono (pw_and (sb.pt hb) (sr.anT e p se hr2.1 hr2.2)) fun σ H Q ⟨μ, ρ, h, hr, er, q⟩ => ?_
      refine lift_bind (m := b.evT cl) (R := RB) hr er q fun c h1 μ1 H1 x _ e1 r1 er1 qa p1 => ?_
      have qa' : c = x := qa
      subst qa'
      unfold Es.evAndT at p1
      cases c with
      | true => exact iteT ⟨μ1, ρ, h1, r1, er1, p1⟩
      | false => exact iteF (p1.here r1 rfl)
    · unfold Es.py
      refine PE.mono (pe_or sb.pe (sr.orr e p se)) fun σ H Q ⟨μ, ρ, h, hr, er, q⟩ => ?_
      refine lift_bind (m := b.ev cl) hr er q fun d h1 μ1 H1 x _ e1 r1 er1 qa p1 => ?_
      unfold Es.evOr tru at p1
      cases qa with
      | bl c =>
        refine ⟨c, rfl, ?_⟩
        cases c with
        | true => exact iteT (p1.here r1 (.bl _))
        | false => exact iteF ⟨μ1, ρ, h1, r1, er1, p1⟩
      | _ => exact p1.elim
    · unfold Es.py
      have hr2 : e.okT = true ∧ r.okT = true := by unfold Es.okT at hr'; simpa using hr'
      refine PW.mono (pw_or (sb.pt hb) (sr.orT e p se hr2.1 hr2.2)) fun σ H Q ⟨μ, ρ, h, hr, er, q⟩ => ?_
      refine lift_bind (m := b.evT cl) (R := RB) hr er q fun c h1 μ1 H1 x _ e1 r1 er1 qa p1 => ?_
      have qa' : c = x := qa
      subst qa'
      unfold Es.evOrT at p1
      cases c with
      | true => exact iteT (p1.here r1 rfl)
      | false => exact iteF ⟨μ1, ρ, h1, r1, er1, p1⟩
end
end
end PI

set_option Elab.async false
set_option linter.all false
set_option maxRecDepth 100000
set_option maxHeartbeats 4000000
/-! Statements; a def; a whole text. -/
namespace PI
open PySem L2 PySem.Spec
open PyProof.Rows hiding St

def PostS (K : PySem.W.Frag) (cv : Nat → Value) (μ : List Addr) (H : Hp) (r : RS) (En : Ends) (Z : ZK) : Prop :=
  match r with
  | .nx ρ h' => ∀ μ' H' σ', Ext K μ H μ' H' → HR K μ' h' H' → ER K μ' ρ σ' H' → En.nx σ' H'
  | .bk ρ h' => ∀ μ' H' σ', Ext K μ H μ' H' → HR K μ' h' H' → ER K μ' ρ σ' H' → En.bk σ' H'
  | .ct ρ h' => ∀ μ' H' σ', Ext K μ H μ' H' → HR K μ' h' H' → ER K μ' ρ σ' H' → En.ct σ' H'
  | .rt d h' => ∀ μ' H' v, Ext K μ H μ' H' → HR K μ' h' H' → Rep K μ' H' d v → En.rt v H'
  | .ex c ρ h' => ∀ μ' H' σ', Ext K μ H μ' H' → HR K μ' h' H' → ER K μ' ρ σ' H' → Z σ' (cv c) H'
  | .no => False
def liftS (K : PySem.W.Frag) (cv : Nat → Value) (Z : ZK) (m : En → Hh → RS) : TS := fun En σ H => ∃ μ ρ h, HR K μ h H ∧ ER K μ ρ σ H ∧ PostS K cv μ H (m ρ h) En Z
theorem PostS.ext {K : PySem.W.Frag} {cv : Nat → Value} {μ μ1 : List Addr} {H H1 : Hp} {r : RS} {En : Ends} {Z : ZK} (p : PostS K cv μ H r En Z) (e : Ext K μ H μ1 H1) : PostS K cv μ1 H1 r En Z := by
  unfold PostS at p ⊢
  cases r with
  | nx ρ h => exact fun μ' H' σ' e1 r1 q1 => p μ' H' σ' (e.trans e1) r1 q1
  | bk ρ h => exact fun μ' H' σ' e1 r1 q1 => p μ' H' σ' (e.trans e1) r1 q1
  | ct ρ h => exact fun μ' H' σ' e1 r1 q1 => p μ' H' σ' (e.trans e1) r1 q1
  | rt d h => exact fun μ' H' σ' e1 r1 q1 => p μ' H' σ' (e.trans e1) r1 q1
  | ex c ρ h => exact fun μ' H' σ' e1 r1 q1 => p μ' H' σ' (e.trans e1) r1 q1
  | no => exact p
/-- a part, then the rest of the statement -/
theorem liftS_bind {α β : Type} {K : PySem.W.Frag} {cv : Nat → Value} {R : List Addr → Hp → α → β → Prop} {μ : List Addr} {ρ : En} {h : Hh} {σ : St} {H : Hp} {Z : ZK} {m : En → Hh → Res α} {f : α → Hh → RS} {En : Ends} {Q' : β → Hp → Prop}
    (hr : HR K μ h H) (er : ER K μ ρ σ H) (p : PostS K cv μ H (andS ρ (m ρ h) f) En Z)
    (go : ∀ a h1 μ1 H1 x, m ρ h = .ok a h1 → Ext K μ H μ1 H1 → HR K μ1 h1 H1 → ER K μ1 ρ σ H1 → R μ1 H1 a x → PostS K cv μ1 H1 (f a h1) En Z → Q' x H1) :
    lift K cv R Z m σ H Q' := by
  refine ⟨μ, ρ, h, hr, er, ?_⟩
  unfold andS at p
  cases e : m ρ h with
  | ok a h1 =>
    rw [e] at p
    exact fun μ1 H1 x e1 r1 q1 => go a h1 μ1 H1 x e e1 r1 (er.mono e1) q1 (PostS.ext p e1)
  | exc c h1 =>
    rw [e] at p
    exact fun μ1 H1 e1 r1 => p μ1 H1 σ e1 r1 (er.mono e1)
  | no => rw [e] at p; exact p

def E.noC : E → Bool
  | .ofL (.comp _ _ _ _ _ _ _ _) => false
  | _ => true
mutual
def S.ok (sc : Scope) (n : Nm) : S → Bool
  | .set i e _ _ => decide (i < n.N.length) && e.ok sc n
  | .ret e _ => e.ok sc n
  | .iff c a b _ => c.ok sc n && c.okT && a.ok sc n && b.ok sc n
  | .ex e _ => e.ok sc n && e.noC
  | .put o i v _ _ => o.ok sc n && i.ok sc n && v.ok sc n
  | .forr t it b _ => t.okS n.N && it.ok sc n && b.ok sc n
def Ss.ok (sc : Scope) (n : Nm) : Ss → Bool
  | .nil => true
  | .cons s r => s.ok sc n && r.ok sc n
end
theorem PS.mono {X : Cx} {e : Stmt} {t t' : TS} (p : PS X e t) (h : ∀ En σ H, t' En σ H → t En σ H) : PS X e t' := fun pins s σ H En I q => p pins s σ H En I (h En σ H q)
theorem PSs.mono {X : Cx} {e : List Stmt} {t t' : TS} (p : PSs X e t) (h : ∀ En σ H, t' En σ H → t En σ H) : PSs X e t' := fun pins s σ H En I q => p pins s σ H En I (h En σ H q)
structure KxS (X : Cx) (Z : ZK) (k : Nat) (n : Nm) (cv : Nat → Value) (cl : Nat → List D → Hh → Res D) : Prop extends Kx X Z k n cv cl where
  lo : ∀ x ∈ n.N, Loc X.env.scope x ∧ (X.fn x = true ∨ X.env.scope.names.lookup x = some .local)
theorem KxS.wish {X : Cx} {Z : ZK} {k : Nat} {n : Nm} {cv : Nat → Value} {cl : Nat → List D → Hh → Res D} (C : KxS X Z k n cv cl) : KxS (X.wish (XE X Z)) Z k n cv cl :=
  ⟨⟨C.th.wished, C.rm, C.nN, C.nd, C.cm, C.kd, C.nm, C.bm, C.fn⟩, C.lo⟩
section
variable {X : Cx} {Z : ZK} {k : Nat} {n : Nm} {cv : Nat → Value} {cl : Nat → List D → Hh → Res D}
theorem swaps_plain (e : E) (h : e.noC = true) (t : Option Expr) (l : Nat) (env : Env) : swapsWith (e.py n) t l env = pure false := by
  cases e with
  | ofL l =>
    cases l with
    | disp es p => unfold E.py L.py; rfl
    | comp => cases h
  | _ => unfold E.py; rfl
theorem assign_sub (o i : E) (p1 : Pos) (env : Env) : ∀ v, assign (.Subscript (o.py n) (i.py n) p1) env v = (do
      let ov ← holding [v] (eval (o.py n) env)
      let iv ← holding [v, ov] (eval (i.py n) env)
      standAt p1
      holding [v, ov, iv] (setItem ov iv v)
      release [v, ov, iv] []) := by
  intro v
  generalize o.py n = oo
  cases i with
  | ofL l => cases l <;> (unfold E.py L.py; rfl)
  | _ => unfold E.py; rfl
theorem swaps_sole (o i e : E) (p1 : Pos) (l : Nat) (env : Env) : swapsWithSole [.Subscript (o.py n) (i.py n) p1] (e.py n) l env = pure false := by
  generalize o.py n = oo
  generalize i.py n = ii
  cases e with
  | ofL l => cases l <;> (unfold E.py L.py; rfl)
  | _ => unfold E.py; rfl
theorem swapped_none (o i e : E) (p1 : Pos) (env : Env) : swappedStores [.Subscript (o.py n) (i.py n) p1] (e.py n) env = pure none := by
  generalize o.py n = oo
  generalize i.py n = ii
  cases e with
  | ofL l => cases l <;> (unfold E.py L.py; rfl)
  | _ => unfold E.py; rfl
theorem for_ours {t : Tg} {it : I} {b : Ss} {En : Ends} {σ : St} {H : Hp} {μ : List Addr} {ρ : PI.En} {h : Hh} (hr : HR X.K μ h H) (er : ER X.K μ ρ σ H) (q : PostS X.K cv μ H ((S.forr t it b p).run cl ρ h) En Z) :
    tFor (lift X.K cv (RJ X.K) Z (it.ev cl)) (gB X.K t) (liftS X.K cv Z (b.run cl)) En σ H := by
  unfold S.run at q
  refine liftS_bind (m := it.ev cl) hr er q fun qq h1 μ1 H1 J _ e1 r1 er1 src p1 => ?_
  obtain ⟨c, ds⟩ := qq
  refine ⟨fun i m σ' H' => m = ds.length - i ∧ i ≤ ds.length ∧ ∃ μ2 ρ2 h2, Ext X.K μ1 H1 μ2 H' ∧ HR X.K μ2 h2 H' ∧ ER X.K μ2 ρ2 σ' H' ∧ PostS X.K cv μ2 H' (forL c (stepF t fun ρ' h' => b.run cl ρ' h') (ds.drop i) ρ2 h2) En Z,
    ⟨ds.length, by simp, Nat.zero_le _, μ1, ρ, h1, Ext.refl, r1, er1, p1⟩, ?_⟩
  rintro i m σ' H' ⟨rfl, hi, μ2, ρ2, h2, e2, r2, er2, p2⟩
  by_cases hlt : i < ds.length
  · right
    rw [List.drop_eq_getElem_cons hlt] at p2
    unfold forL at p2
    split at p2
    rotate_left
    · exact p2.elim
    rename_i st
    obtain ⟨s1, s2⟩ := src μ2 h2 H' e2 r2 st
    obtain ⟨g1, g2⟩ := s1 i ds[i] (List.getElem?_eq_getElem hlt)
    refine ⟨g1, fun σ3 H3 => ds.length - (i + 1) = ds.length - (i + 1) ∧ i + 1 ≤ ds.length ∧ ∃ μ3 ρ3 h3, Ext X.K μ1 H1 μ3 H3 ∧ HR X.K μ3 h3 H3 ∧ ER X.K μ3 ρ3 σ3 H3 ∧ PostS X.K cv μ3 H3 (forL c (stepF t fun ρ' h' => b.run cl ρ' h') (ds.drop (i + 1)) ρ3 h3) En Z,
      fun σ3 H3 z => ⟨ds.length - (i + 1), by omega, z⟩, fun x H3 y => ?_⟩
    obtain ⟨rfl, rx⟩ := g2 x H3 y
    unfold stepF at p2
    cases eb : bindT t ds[i] ρ2 with
    | none => rw [eb] at p2; exact p2.elim
    | some ρ3 =>
      rw [eb] at p2
      refine ⟨μ2, ρ2, ds[i], ρ3, h2, r2, er2, rx, eb, fun σ3 er3 _ _ => ⟨μ2, ρ3, h2, r2, er3, ?_⟩⟩
      cases eo : b.run cl ρ3 h2 with
      | nx ρ4 h4 =>
        simp only [eo] at p2
        exact fun μ4 H4 σ4 e4 r4 er4 => ⟨rfl, hlt, μ4, ρ4, h4, e2.trans e4, r4, er4, PostS.ext p2 e4⟩
      | ct ρ4 h4 =>
        simp only [eo] at p2
        exact fun μ4 H4 σ4 e4 r4 er4 => ⟨rfl, hlt, μ4, ρ4, h4, e2.trans e4, r4, er4, PostS.ext p2 e4⟩
      | bk ρ4 h4 => simp only [eo] at p2; exact p2
      | rt d h4 => simp only [eo] at p2; exact p2
      | ex c' ρ4 h4 => simp only [eo] at p2; exact p2
      | no => simp only [eo] at p2; exact p2
  · left
    have ei : i = ds.length := by omega
    subst ei
    rw [List.drop_length] at p2
    unfold forL at p2
    split at p2
    rotate_left
    · exact p2.elim
    rename_i st
    exact ⟨(src μ2 h2 H' e2 r2 st).2, p2 μ2 H' σ' Ext.refl r2 er2⟩
mutual
theorem sS : ∀ (s : S) (X : Cx) (Z : ZK) (k : Nat) (n : Nm) (cv : Nat → Value) (cl : Nat → List D → Hh → Res D), KxS X Z k n cv cl → s.ok X.env.scope n = true → PS X (s.py n) (liftS X.K cv Z (s.run cl))
  | .set i e p1 p, X, Z, k, n, cv, cl, C, h => by
    have h' : i < n.N.length ∧ e.ok X.env.scope n = true := by unfold S.ok at h; simpa using h
    have hm := C.lo _ (getD_mem (d := ("" : Str)) h'.1)
    have hN : X.N[i]? = some (n.N.getD i "") := by rw [C.nN]; exact getD_some h'.1
    have plain : swapsWith (e.py n) (some (.Name (n.N.getD i "") p1)) p.line X.env = pure false → PS X ((S.set i e p1 p).py n) (liftS X.K cv Z ((S.set i e p1 p).run cl)) := fun hs => by
      have se := sE e X Z k n cv cl C.toKx h'.2
      unfold S.py
      refine PS.mono (ps_set (i := i) C.nd hN hm.1 se.pe hs hm.2) fun En σ H ⟨μ, ρ, h, hr, er, q⟩ => ?_
      unfold S.run at q
      refine liftS_bind (m := e.ev cl) hr er q fun d h1 μ1 H1 x _ e1 r1 er1 qa p1 => ?_
      exact p1 μ1 H1 _ Ext.refl r1 (er1.set qa i)
    cases hn : e.noC with
    | true => exact plain (swaps_plain e hn _ _ _)
    | false =>
      cases e with
      | ofL l =>
        cases l with
        | disp es pp => cases hn
        | comp elt t it c NC cap csc pp =>
          have hL : (L.comp elt t it c NC cap csc pp).ok X.env.scope n = true := by have := h'.2; unfold E.ok at this; exact this
          obtain ⟨b, eb, hb⟩ : ∃ b, swapsWith ((E.ofL (.comp elt t it c NC cap csc pp)).py n) (some (.Name (n.N.getD i "") p1)) p.line X.env = pure b ∧ (b = true → X.env.scope.names.lookup (n.N.getD i "") = some .local) := by
            refine ⟨_, by unfold E.py L.py; rfl, fun z => ?_⟩
            simp only [Bool.and_eq_true, beq_iff_eq] at z
            exact z.1.1.2
          cases b with
          | false => exact plain eb
          | true =>
            obtain ⟨k1, k2, k3, k4, k5, k6, k7, k8, k9⟩ := comp_ok C.toKx hL
            have hit := sI it X Z k n cv cl C.toKx k1 (t.py NC)
            have hff : ∀ Cc s H fp pn xe Zc, Thr (compCx X NC csc Cc s H fp pn xe) Zc → PF (compCx X NC csc Cc s H fp pn xe) (c.py ⟨NC, n.F⟩) (lift X.K cv RB Zc (c.evC cl)) := fun Cc s H fp pn xe Zc th => by
              have Cc' := C.toKx.comp k2 k3 k4 th
              cases c with
              | nil => exact pf_none
              | cons e r =>
                cases r with
                | cons _ _ => cases k9
                | nil =>
                  have se := sE e _ Zc k ⟨NC, n.F⟩ cv cl Cc' (by unfold Es.ok at k7; simp at k7; exact k7.1)
                  have ht := se.pt (by unfold Es.okT at k8; simp at k8; exact k8.1)
                  unfold Es.py
                  exact pf_one ht
            have key := ps_setC (X := X) (i := i) (cap := cap) (pos := pp) (pos' := p1) (spos := p) (g := gB X.K t) (tf := fun Zc => lift X.K cv RB Zc (c.evC cl)) (te := fun Zc => lift X.K cv (Rep X.K) Zc (elt.ev cl)) C.cm C.th hit k2 (fun Cc s H fp pn xe => comp_pg k2 k3 k5) hff
              (fun Cc s H fp pn xe Zc th => (sE elt _ Zc k ⟨NC, n.F⟩ cv cl (C.toKx.comp k2 k3 k4 th) k6).pe) (fold_plain it) C.nd hN (hb rfl) (by unfold E.py L.py at eb; exact eb)
            unfold S.py E.py L.py
            refine PS.mono key fun En σ H ⟨μ, ρ, h, hr, er, q⟩ => read_comp k2 k5 ⟨μ, ρ, h, hr, er, ?_⟩
            unfold S.run E.ev andS at q
            show PostE X.K cv (RL X.K H) μ H ((L.comp elt t it c NC cap csc pp).ev cl ρ h) _ (Z σ)
            cases el : (L.comp elt t it c NC cap csc pp).ev cl ρ h with
            | ok ds h1 =>
              rw [el] at q
              intro μ1 H1 x e1 r1 ⟨pa, vs, ex, g1, g2, g3, g4⟩
              subst ex
              have er1 : ER X.K (μ1 ++ [pa]) ρ σ H1 := er.mono (e1.add g4)
              refine q (μ1 ++ [pa]) H1 _ (e1.add g4) (r1.add g3 fun μ' gr => ⟨vs, g1, g2.mono' gr⟩) (er1.set (.loc ?_) i)
              rw [← r1.len, List.getElem?_append_right (Nat.le_refl _), Nat.sub_self]
              rfl
            | exc cc h1 => rw [el] at q; exact fun μ1 H1 e1 r1 => q μ1 H1 σ e1 r1 (er.mono e1)
            | no => rw [el] at q; exact q
      | _ => cases hn
  | .ret e p, X, Z, k, n, cv, cl, C, h => by
    have se := sE e X Z k n cv cl C.toKx (by unfold S.ok at h; exact h)
    unfold S.py
    refine PS.mono (ps_ret se.pe) fun En σ H ⟨μ, ρ, h, hr, er, q⟩ => ?_
    unfold S.run at q
    refine liftS_bind (m := e.ev cl) hr er q fun d h1 μ1 H1 x _ e1 r1 er1 qa p1 => ?_
    exact p1 μ1 H1 x Ext.refl r1 qa
  | .iff c a b p, X, Z, k, n, cv, cl, C, h => by
    have h' : ((c.ok X.env.scope n = true ∧ c.okT = true) ∧ a.ok X.env.scope n = true) ∧ b.ok X.env.scope n = true := by unfold S.ok at h; simpa using h
    have sc := sE c X Z k n cv cl C.toKx h'.1.1.1
    have sa := sSs a X Z k n cv cl C h'.1.2
    have sb := sSs b X Z k n cv cl C h'.2
    unfold S.py
    refine PS.mono (ps_if (sc.pt h'.1.1.2) sa sb) fun En σ H ⟨μ, ρ, h, hr, er, q⟩ => ?_
    unfold S.run at q
    refine liftS_bind (m := c.evT cl) (R := RB) hr er q fun t h1 μ1 H1 x _ e1 r1 er1 qa p1 => ?_
    have qa' : t = x := qa
    subst qa'
    cases t with
    | true => exact iteT ⟨μ1, ρ, h1, r1, er1, p1⟩
    | false => exact iteF ⟨μ1, ρ, h1, r1, er1, p1⟩
  | .ex e p, X, Z, k, n, cv, cl, C, h => by
    have h' : e.ok X.env.scope n = true ∧ e.noC = true := by unfold S.ok at h; simpa using h
    have se := sE e X Z k n cv cl C.toKx h'.1
    unfold S.py
    refine PS.mono (ps_expr se.pe (swaps_plain e h'.2 _ _ _)) fun En σ H ⟨μ, ρ, h, hr, er, q⟩ => ?_
    unfold S.run at q
    refine liftS_bind (m := e.ev cl) hr er q fun d h1 μ1 H1 x _ e1 r1 er1 qa p1 => ?_
    exact p1 μ1 H1 _ Ext.refl r1 er1
  | .put o i v p1 p, X, Z, k, n, cv, cl, C, h => by
    have h' : (o.ok X.env.scope n = true ∧ i.ok X.env.scope n = true) ∧ v.ok X.env.scope n = true := by unfold S.ok at h; simpa using h
    have so := sE o X Z k n cv cl C.toKx h'.1.1
    have si := sE i X Z k n cv cl C.toKx h'.1.2
    have sv := sE v X Z k n cv cl C.toKx h'.2
    unfold S.py
    refine PS.mono (ps_asg sv.pe (pg_sub so.pe si.pe (set_ours (hu_of C.rm)) (assign_sub o i p1 _)) (swaps_sole o i v p1 _ _) (swapped_none o i v p1 _) rfl) fun En σ H ⟨μ, ρ, h, hr, er, q⟩ => ?_
    unfold S.run at q
    refine liftS_bind (m := v.ev cl) hr er q fun z h1 μ1 H1 x _ e1 r1 er1 qz p1 => ?_
    refine liftS_bind (m := o.ev cl) r1 er1 p1 fun a h2 μ2 H2 y _ e2 r2 er2 qa p2 => ?_
    refine liftS_bind (m := i.ev cl) r2 er2 p2 fun b h3 μ3 H3 w _ e3 r3 er3 qb p3 => ?_
    cases e : putS a b z h3 with
    | none => rw [e] at p3; exact p3.elim
    | some h4 =>
      rw [e] at p3
      exact ⟨μ3, h3, a, b, z, h4, r3, qa.mono e3, qb, (qz.mono e2).mono e3, e, fun μ4 H4 e4 r4 => p3 μ4 H4 σ e4 r4 (er3.mono e4)⟩
  | .forr t it b p, X, Z, k, n, cv, cl, C, h => by
    have h' : (t.okS n.N = true ∧ it.ok X.env.scope n = true) ∧ b.ok X.env.scope n = true := by unfold S.ok at h; simpa using h
    have hi := sI it _ Z k n cv cl C.wish.toKx h'.1.2 (t.py n.N)
    have hb := sSs b _ Z k n cv cl C.wish h'.2
    have hg : PG (X.wish (XE X Z)) (t.py n.N) (gB X.K t) := by
      have z := pg_T (X := X.wish (XE X Z)) C.cm C.nd t fun i hi => by
        have h1 := List.all_eq_true.mp h'.1.1 i hi
        have hl : i < n.N.length := of_decide_eq_true h1
        have hm := C.lo _ (getD_mem (d := ("" : Str)) hl)
        have eN : (X.wish (XE X Z)).N = n.N := C.nN
        rw [eN]
        exact ⟨hl, hm⟩
      rw [show (X.wish (XE X Z)).N = n.N from C.nN] at z
      exact z
    unfold S.py
    exact PS.mono (ps_forX C.th C.cm hi hg hb (fold_plain it)) fun En σ H ⟨μ, ρ, h, hr, er, q⟩ => for_ours (p := p) hr er q
theorem sSs : ∀ (s : Ss) (X : Cx) (Z : ZK) (k : Nat) (n : Nm) (cv : Nat → Value) (cl : Nat → List D → Hh → Res D), KxS X Z k n cv cl → s.ok X.env.scope n = true → PSs X (s.py n) (liftS X.K cv Z (s.run cl))
  | .nil, X, Z, k, n, cv, cl, C, _ => by
    unfold Ss.py
    refine PSs.mono pss_nil fun En σ H ⟨μ, ρ, h, hr, er, q⟩ => ?_
    unfold Ss.run at q
    exact q μ H σ Ext.refl hr er
  | .cons s r, X, Z, k, n, cv, cl, C, h => by
    have h' : s.ok X.env.scope n = true ∧ r.ok X.env.scope n = true := by unfold Ss.ok at h; simpa using h
    have ss := sS s X Z k n cv cl C h'.1
    have sr := sSs r X Z k n cv cl C h'.2
    unfold Ss.py
    refine PSs.mono (pss_cons ss sr) fun En σ H ⟨μ, ρ, h, hr, er, q⟩ => ?_
    unfold Ss.run seqS at q
    refine ⟨μ, ρ, h, hr, er, ?_⟩
    cases e : s.run cl ρ h with
    | nx ρ' h1 =>
      rw [e] at q
      exact fun μ1 H1 σ1 e1 r1 er1 => ⟨μ1, ρ', h1, r1, er1, PostS.ext q e1⟩
    | bk ρ' h1 => rw [e] at q; exact q
    | ct ρ' h1 => rw [e] at q; exact q
    | rt d h1 => rw [e] at q; exact q
    | ex c ρ' h1 => rw [e] at q; exact q
    | no => rw [e] at q; exact q
end
end
end PI

set_option Elab.async false
set_option linter.all false
set_option maxRecDepth 100000
set_option maxHeartbeats 4000000
/-! A def, a whole text, the law. -/
namespace PI
open PySem L2 PySem.Spec
open PyProof.Rows hiding St

/-- the def's text is d -/
structure DefOk (st : Stmt) (d : Df) (F : List Str) : Prop where
  body : defBody st = d.body.py ⟨d.N, F⟩
  sc : FnScope d.N d.ps (defScope st)
  ok : d.body.ok (defScope st) ⟨d.N, F⟩ = true
  nm : ∀ x ∈ d.N, ((defScope st).names.lookup x = some .local ∨ (defScope st).names.lookup x = some .cell) ∧ goodN x = true
  bd : ∀ (kV doc pm : Value) (an : Option Addr) (cdv ct : Value) (us : List Value), us.length = d.ps.length →
    bindArgs (PySem.W.fnOf d.name d.name (defArgs st) (defBody st) (defScope st) .none kV doc pm an cdv ct) ⟨us, []⟩ = pure (d.ps.zip us)
structure Tab (K : PySem.W.Frag) (mg : Str → Option Value) (ds : List Df) : Prop where
  bm : ∀ x, x ∈ bnames → mg x = none
  fn : ∀ (i : Nat) d, ds[i]? = some d → (d.name == ("__debug__" : Str)) = false ∧ ∃ st f fd, mg d.name = some (.ref f) ∧ Fun K d.name d.name st f fd ∧ DefOk st d (ds.map (·.name))

theorem er_start {K : PySem.W.Frag} {μ : List Addr} {H : Hp} {as : List D} {vs : List V} (N : List Str) (r : Reps K μ H as vs) : ER K μ (as.map some ++ List.replicate (N.length - as.length) none) (L2.start N vs) H := by
  unfold L2.start
  refine ⟨by simp [r.length], fun i d h => ?_⟩
  rw [List.getElem?_append] at h ⊢
  rw [List.length_map] at h ⊢
  rw [← r.length]
  split at h
  · rename_i c
    rw [if_pos c]
    rw [List.getElem?_map] at h ⊢
    cases e : as[i]? with
    | none => rw [e] at h; cases h
    | some a =>
      rw [e] at h
      cases h
      obtain ⟨v, e1, e2⟩ := r.get e
      rw [e1]
      exact ⟨v, rfl, e2⟩
  · exfalso
    rw [List.getElem?_replicate] at h
    split at h <;> cases h

theorem callI_len {ds : List Df} {k i : Nat} {d : Df} (hd : ds[i]? = some d) : ∀ as h, callI ds k i as h ≠ .no → as.length = d.ps.length := by
  intro as h q
  cases k with
  | zero => exact absurd rfl q
  | succ k =>
    unfold callI at q
    rw [hd] at q
    by_cases c : as.length = d.ps.length
    · exact c
    · exact absurd (if_neg c) q

section
variable {P : Program} {w : World} {K : PySem.W.Frag} {mg : Str → Option Value} {base : Heap} {ds : List Df} {cv : Nat → Value}
theorem all_fn (T : Tab K mg ds) : ∀ (k i : Nat) (d : Df) (st : Stmt) (f : Addr) (fd : FuncData), ds[i]? = some d → mg d.name = some (.ref f) → Fun K d.name d.name st f fd → DefOk st d (ds.map (·.name)) →
    FnOk P w K mg base (CXs P w) k f fd d.ps (spI K cv d.ps.length (callI ds k i))
  | 0, i, d, st, f, fd, hd, hm, F, o => by
    have no : ∀ vs H Q E, ¬ spI K cv d.ps.length (callI ds 0 i) vs H Q E := fun vs H Q E ⟨_, _, _, _, _, _, z⟩ => z
    exact ⟨fun vs H Q E h => absurd h (no vs H Q E), fun A outer s H args us vs Q E _ _ _ _ h => absurd h (no vs H Q E)⟩
  | k + 1, i, d, st, f, fd, hd, hm, F, o => by
    refine F.okX o.sc (fun vs H Q E h => h.1) fun cdv A outer s H vs Q E hr h => ?_
    obtain ⟨hl, μ, h, as, hH, hv, p⟩ := h
    have C : KxS (cxOf (CXs P w) P w K mg base d.N d.name (defScope st) f cdv A outer s H E) (fun _ C H' => E C none H') k ⟨d.N, ds.map (·.name)⟩ cv (callI ds k) := by
      refine ⟨⟨thr_def, hr, rfl, o.sc.nd, rfl, o.sc.kind, fun x hx => ⟨(o.nm x hx).1.elim .inl fun z => .inr (.inl z), (o.nm x hx).2⟩, T.bm, fun j x hj => ?_⟩, fun x hx => ⟨(o.nm x hx).1, .inl rfl⟩⟩
      have hj' : (ds.map (·.name))[j]? = some x := hj
      rw [List.getElem?_map] at hj'
      cases e : ds[j]? with
      | none => rw [e] at hj'; cases hj'
      | some d' =>
        rw [e] at hj'
        cases hj'
        obtain ⟨h1, st', f', fd', m', F', o'⟩ := T.fn j d' e
        exact ⟨h1, f', fd', d'.ps, m', F'.kp, F'.binds o'.bd, callI_len e, all_fn T k j d' st' f' fd' e m' F' o'⟩
    refine ⟨liftS K cv (fun _ C H' => E C none H') (d.body.run (callI ds k)), by rw [o.body]; exact sSs d.body _ _ _ _ _ _ C o.ok, μ, _, h, hH, er_start d.N hv, ?_⟩
    have c : as.length = d.ps.length := by rw [hv.length]; exact hl
    rw [callI_succ hd c] at p
    have p1 := p
    unfold Df.run outR at p1
    cases e : d.body.run (callI ds k) (as.map some ++ List.replicate (d.N.length - as.length) none) h with
    | nx ρ h1 => rw [e] at p1; exact fun μ1 H1 σ1 e1 r1 er1 => p1 μ1 H1 .non e1 r1 .non
    | rt v h1 => rw [e] at p1; exact p1
    | ex c ρ h1 => rw [e] at p1; exact fun μ1 H1 σ1 e1 r1 er1 => p1 μ1 H1 e1 r1
    | bk ρ h1 => rw [e] at p1; exact p1.elim
    | ct ρ h1 => rw [e] at p1; exact p1.elim
    | no => rw [e] at p1; exact p1.elim
end

/-! ### the law -/
theorem bits_of_W : ∀ {ns : List Int}, PySem.W.WData.weightAll (ns.map PySem.W.WData.int) ≤ 2 ^ 20 → ∀ n ∈ ns, Builtin.Int.intBits n ≤ 2 ^ 20
  | [], _, n, hn => absurd hn (by simp)
  | m :: r, h, n, hn => by
    rw [List.map_cons, PySem.W.WData.weightAll] at h
    rcases List.mem_cons.mp hn with rfl | hn
    · have e : PySem.W.WData.weight (.int n) = Builtin.Int.intBits n := by rw [PySem.W.WData.weight]; rfl
      omega
    · exact bits_of_W (by omega) n hn
/-- what the law's def promises -/
def spLaw (K : PySem.W.Frag) (c : List D → Hh → Res D) : Sp := spI K (fun _ => .none) 1 c
theorem law_sp {K : PySem.W.Frag} {c : List D → Hh → Res D} {H : Hp} {a : Addr} {ns : List Int} {h' : Hh} (hO : Only H) (hS : SqL K H a (ns.map V.int)) (e : c [.fl (ns.map D.int)] [] = .ok (.bl true) h') :
    spLaw K c [.ref a] H (fun v _ => v = .bl true) (fun _ _ _ => False) := by
  have rp : ∀ ms : List Int, Reps K [] H (ms.map D.int) (ms.map V.int) := fun ms => by
    induction ms with
    | nil => exact .nil
    | cons m r ih => exact .cons (.int m) ih
  have fz : Fz K H a (ns.map V.int) := by
    rcases hS with h | h
    · left
      rcases h with h | h
      · rcases hO a with z | ⟨o, xs, z⟩
        · rw [h] at z; cases z
        · rw [h] at z; cases z
      · exact h
    · exact .inr fun H' => .inr h
  refine ⟨rfl, [], [], [.fl (ns.map D.int)], ⟨rfl, fun n m b e1 => by simp at e1, fun n b o e1 => by simp at e1⟩, .cons (.fl fz (rp ns)) .nil, ?_⟩
  · rw [e]
    intro μ1 H1 v e1 r1 q1
    cases q1
    rfl
theorem walk_ofB {l : PySem.W.OpenLaw} {k : Nat} {q : Program} {loose : List Str} {XP : (Str → Option Value) → Heap → Prop} {YP : World → Heap → Prop} {d : DefRec} {K : Params → PySem.W.Frag} {c : List D → Hh → Res D} {x : Str}
    (hn : l.most = some 63) (hdf : d.params.defaults = []) (hr : Room k callerA)
    (hY : ∀ (w : World) (h : Heap), YP w h → (K w.params).In h)
    (F : ∀ (w : World) (mg : Str → Option Value) (fa : Addr) (h : Heap), (K w.params).In h → h.Ns mainGlobals mg → mg d.name = some (.ref fa) →
      ∃ fd : FuncData, (∀ (s : Shared) (u : Value), BindsTo s fd ⟨[u], []⟩ [(x, u)]) ∧
        ∀ base : Heap, (K w.params).In base → base.Ns mainGlobals mg → FnOk l.prog w (K w.params) mg base (CXs l.prog w) k fa fd [x] (spLaw (K w.params) c))
    (hc : ∀ ns : List Int, ns.length ≤ 63 → (∀ n ∈ ns, Builtin.Int.intBits n ≤ 2 ^ 20) → ∃ h', c [.fl (ns.map D.int)] [] = .ok (.bl true) h') :
    PySem.W.WalkO q loose XP YP l.row.toRowW d [] (fun f vs => PySem.call f vs) := by
  intro w s₀ s₁ mg mb G Y fa o pm cd doc dV kV ho hd hcd hD hmg hg args vals as hpre hlay hrd hwl hlo
  obtain rfl : dV = .none := PySem.W.Dflts.none hD hdf
  obtain rfl : kV = .none := PySem.W.Dflts.noKw hD
  obtain ⟨a, vs, ns, rfl, rfl, hobj, hints, hlen⟩ := Att.script_of hn hpre hwl
  have hbits : ∀ n ∈ ns, Builtin.Int.intBits n ≤ 2 ^ 20 := by
    have h1 : PySem.W.WData.layable (.list (ns.map .int)) = true := by
      have := hlay
      unfold PySem.W.WData.layableAll at this
      simpa using this
    have h2 := (PySem.W.layableW_iff.mp h1).2.2
    exact bits_of_W (by simpa [PySem.W.WData.weight] using h2)
  have KX := hY w _ Y
  obtain ⟨fd, hb, hF⟩ := F w mg fa _ KX G.T.g hmg
  obtain ⟨h', e⟩ := hc ns hlen hbits
  refine PySem.W.enter_call (codeAny_mono (law_call KX G.T.g G.T.b G.T.builtins G.T.nolimit hg hobj hints (Nat.le_trans hlen (by decide)) hr hF hb (fun H hO hS => law_sp hO hS e) (fun H e' s' z => by
    obtain ⟨_, _, _, _, _, _, _, _, _, _, _, z⟩ := z
    exact z)) fun r s' hq => ?_)
  obtain ⟨rfl, h2, h3, h4⟩ := hq
  exact ⟨.inl ⟨.bool true, .bool true, [], rfl, fun _ => rfl, .bool true, Att.post_true l _, fun _ => ⟨List.Pairwise.nil, fun _ hm => (nomatch hm)⟩⟩, h2, h3, h4⟩
end PI

namespace KB
open PySem

/-- the k-th bit of a whole number, by two's complement -/
def tb (x : Int) (k : Nat) : Bool := decide (x / 2 ^ k % 2 = 1)

theorem tb_zero (x : Int) : tb x 0 = decide (x % 2 = 1) := by
  unfold tb; simp

theorem tb_succ (x : Int) (k : Nat) : tb x (k + 1) = tb (x / 2) k := by
  unfold tb
  have e : x / 2 ^ (k + 1) = x / 2 / 2 ^ k := by
    rw [Int.ediv_ediv_of_nonneg (by decide), Int.pow_succ, Int.mul_comm]
  rw [e]

theorem pw_pos (n : Nat) : (0 : Int) < 2 ^ n := Int.pow_pos (by decide)

theorem low_eq {x y : Int} (h : ∀ k, tb x k = tb y k) : ∀ n : Nat, x % 2 ^ n = y % 2 ^ n := by
  intro n
  induction n generalizing x y with
  | zero => simp [Int.emod_one]
  | succ n ih =>
    have h0 := h 0
    rw [tb_zero, tb_zero] at h0
    have hs : ∀ k, tb (x / 2) k = tb (y / 2) k := by
      intro k; rw [← tb_succ, ← tb_succ]; exact h (k + 1)
    have ihh := ih hs
    have h0' : x % 2 = y % 2 := by
      have := decide_eq_decide.mp h0
      omega
    have e : ∀ z : Int, z % 2 ^ (n + 1) = 2 * (z / 2 % 2 ^ n) + z % 2 := by
      intro z
      have p := pw_pos n
      have hz : z = 2 * (z / 2) + z % 2 := by omega
      have hd := Int.emod_add_mul_ediv (z / 2) (2 ^ n)
      have l0 := Int.emod_nonneg (z / 2) (Int.ne_of_gt p)
      have l1 := Int.emod_lt_of_pos (z / 2) p
      have p1 : (2 : Int) ^ (n + 1) = 2 * 2 ^ n := by rw [Int.pow_succ, Int.mul_comm]
      have key : z = (2 * (z / 2 % 2 ^ n) + z % 2) + 2 ^ (n + 1) * (z / 2 / 2 ^ n) := by
        rw [p1, Int.mul_assoc]; omega
      have := ((Int.ediv_emod_unique (a := z) (b := 2 ^ (n+1)) (r := 2 * (z / 2 % 2 ^ n) + z % 2) (q := z / 2 / 2 ^ n) (by rw [p1]; omega)).mpr ⟨key.symm, by omega, by rw [p1]; omega⟩).2
      exact this
    rw [e x, e y, ihh, h0']

theorem tb_ext {x y : Int} (h : ∀ k, tb x k = tb y k) : x = y := by
  have hl := low_eq h
  obtain ⟨n, hn⟩ : ∃ n : Nat, x.natAbs < 2 ^ n ∧ y.natAbs < 2 ^ n :=
    ⟨x.natAbs + y.natAbs, Nat.lt_of_le_of_lt (Nat.le_add_right _ _) Nat.lt_two_pow_self,
      Nat.lt_of_le_of_lt (Nat.le_add_left _ _) Nat.lt_two_pow_self⟩
  have h1 := hl (n + 1)
  have p1 : (2 : Int) ^ (n + 1) = 2 * 2 ^ n := by rw [Int.pow_succ, Int.mul_comm]
  have pc : ((2 ^ n : Nat) : Int) = (2 : Int) ^ n := by simp
  have hd : (2 ^ (n + 1) : Int) ∣ (x - y) := Int.dvd_of_emod_eq_zero (by
    rw [Int.sub_emod, h1, Int.sub_self]; simp)
  obtain ⟨c, hc⟩ := hd
  rw [p1, Int.mul_assoc] at hc
  generalize hP : (2 : Int) ^ n = P at *
  have hc0 : c = 0 := by
    have b1 : x - y < 2 * P := by omega
    have b2 : -(2 * P) < x - y := by omega
    have pp : 0 < P := by have := pw_pos n; omega
    by_cases h : 1 ≤ c
    · have : P * 1 ≤ P * c := Int.mul_le_mul_of_nonneg_left h (by omega)
      omega
    · by_cases h' : c ≤ -1
      · have : P * c ≤ P * (-1) := Int.mul_le_mul_of_nonneg_left h' (by omega)
        omega
      · omega
  subst hc0
  omega

theorem tb_not (x : Int) (k : Nat) : tb (Builtin.bitNot x) k = !tb x k := by
  induction k generalizing x with
  | zero =>
    rw [tb_zero, tb_zero]
    have : Builtin.bitNot x % 2 = 1 ↔ ¬ x % 2 = 1 := by unfold Builtin.bitNot; omega
    by_cases h : x % 2 = 1 <;> simp [h, this]
  | succ k ih =>
    rw [tb_succ, tb_succ]
    have : Builtin.bitNot x / 2 = Builtin.bitNot (x / 2) := by unfold Builtin.bitNot; omega
    rw [this, ih]

theorem tb_and (x y : Int) (k : Nat) : tb (Builtin.bitAnd x y) k = (tb x k && tb y k) := by
  induction k generalizing x y with
  | zero =>
    rw [tb_zero, tb_zero, tb_zero, PySem.W.kbt_halves]
    by_cases h : x % 2 = 1 <;> by_cases h' : y % 2 = 1 <;> simp [h, h'] <;> omega
  | succ k ih =>
    rw [tb_succ, tb_succ, tb_succ]
    have : Builtin.bitAnd x y / 2 = Builtin.bitAnd (x / 2) (y / 2) := by
      rw [PySem.W.kbt_halves x y]
      split <;> omega
    rw [this, ih]

theorem tb_or (x y : Int) (k : Nat) : tb (Builtin.bitOr x y) k = (tb x k || tb y k) := by
  unfold Builtin.bitOr
  rw [tb_not, tb_and, tb_not, tb_not]
  cases tb x k <;> cases tb y k <;> rfl

/-- a row's deeds that another one has not -/
theorem tb_but (x y : Int) (k : Nat) : tb (x - Builtin.bitAnd x y) k = (tb x k && !tb y k) := by
  rw [← PyProof.Rows.bitAnd_not, tb_and, tb_not]

theorem tb_nought (k : Nat) : tb 0 k = false := by unfold tb; simp

theorem tb_full {x : Int} {n : Nat} (h0 : 0 ≤ x) (h1 : x < 2 ^ n) : Builtin.bitAnd x (2 ^ n - 1) = x := by
  rw [PySem.W.kbt_mask, Int.emod_eq_of_lt h0 h1]

/-- two numbers with the same bits; the bits by cases -/
theorem sub_of_in {x y : Int} (h : Builtin.bitAnd y x = y) (k : Nat) : tb (x - y) k = (tb x k && !tb y k) := by
  have e : x - y = x - Builtin.bitAnd x y := by rw [PyProof.Rows.bitAnd_comm, h]
  rw [e, tb_but]

theorem tb_sub {m l : Int} (h : ∀ k, tb l k = true → tb m k = true) (k : Nat) : tb (m - l) k = (tb m k && !tb l k) := by
  refine sub_of_in (tb_ext fun j => ?_) k
  rw [tb_and]
  have := h j
  cases e : tb l j <;> cases e' : tb m j <;> simp_all
end KB

set_option Elab.async false
set_option linter.all false
set_option maxRecDepth 100000
set_option maxHeartbeats 4000000
namespace K21
open PySem L2 PI
def t_bits_by_deed_1 : Tg := (.one 3 ⟨5, 8, 5, 12⟩)
def b_bits_by_deed_1 : Ss := (.cons (.put (.var 1 ⟨6, 8, 6, 12⟩) (.var 3 ⟨6, 13, 6, 17⟩) (.var 2 ⟨6, 21, 6, 24⟩) ⟨6, 8, 6, 18⟩ ⟨6, 8, 6, 24⟩) (.cons (.set 2 (.bin .LShift (.var 2 ⟨7, 14, 7, 17⟩) (.int 1 ⟨7, 21, 7, 22⟩) ⟨7, 14, 7, 22⟩) ⟨7, 8, 7, 11⟩ ⟨7, 8, 7, 22⟩) .nil))
def d_bits_by_deed : Df := ⟨"bits_by_deed", ["deeds"], ["deeds", "bits", "bit", "deed"], (.cons (.set 1 (.dic ⟨3, 11, 3, 13⟩) ⟨3, 4, 3, 8⟩ ⟨3, 4, 3, 13⟩) (.cons (.set 2 (.int 1 ⟨4, 10, 4, 11⟩) ⟨4, 4, 4, 7⟩ ⟨4, 4, 4, 11⟩) (.cons (.forr t_bits_by_deed_1 (.seq (.var 0 ⟨5, 16, 5, 21⟩)) b_bits_by_deed_1 ⟨5, 4, 7, 22⟩) (.cons (.ret (.var 1 ⟨8, 11, 8, 15⟩) ⟨8, 4, 8, 15⟩) .nil))))⟩
def t_row_by_1 : Tg := (.one 4 ⟨12, 8, 12, 12⟩)
def b_row_by_1 : Ss := (.cons (.set 3 (.bin .BitOr (.var 3 ⟨13, 14, 13, 17⟩) (.sub (.var 2 ⟨13, 20, 13, 24⟩) (.var 4 ⟨13, 25, 13, 29⟩) ⟨13, 20, 13, 30⟩) ⟨13, 14, 13, 30⟩) ⟨13, 8, 13, 11⟩ ⟨13, 8, 13, 30⟩) .nil)
def d_row_by : Df := ⟨"row_by", ["some", "deeds"], ["some", "deeds", "bits", "row", "deed"], (.cons (.set 2 (.call 0 (.var 1 ⟨10, 24, 10, 29⟩) .nil ⟨10, 11, 10, 23⟩ ⟨10, 11, 10, 30⟩) ⟨10, 4, 10, 8⟩ ⟨10, 4, 10, 30⟩) (.cons (.set 3 (.int 0 ⟨11, 10, 11, 11⟩) ⟨11, 4, 11, 7⟩ ⟨11, 4, 11, 11⟩) (.cons (.forr t_row_by_1 (.seq (.var 0 ⟨12, 16, 12, 20⟩)) b_row_by_1 ⟨12, 4, 13, 30⟩) (.cons (.ret (.var 3 ⟨14, 11, 14, 14⟩) ⟨14, 4, 14, 14⟩) .nil))))⟩
def t_told_1 : Tg := (.one 4 ⟨18, 8, 18, 12⟩)
def b_told_1 : Ss := (.cons (.iff (.cmp .Eq (.bin .BitAnd (.var 3 ⟨19, 11, 19, 15⟩) (.int 1 ⟨19, 18, 19, 19⟩) ⟨19, 11, 19, 19⟩) (.int 1 ⟨19, 23, 19, 24⟩) ⟨19, 11, 19, 24⟩) (.cons (.ex (.m1 .append (.var 2 ⟨20, 12, 20, 17⟩) (.var 4 ⟨20, 25, 20, 29⟩) ⟨20, 12, 20, 24⟩ ⟨20, 12, 20, 30⟩) ⟨20, 12, 20, 30⟩) .nil) .nil ⟨19, 8, 20, 30⟩) (.cons (.set 3 (.bin .RShift (.var 3 ⟨21, 15, 21, 19⟩) (.int 1 ⟨21, 23, 21, 24⟩) ⟨21, 15, 21, 24⟩) ⟨21, 8, 21, 12⟩ ⟨21, 8, 21, 24⟩) .nil))
def d_told : Df := ⟨"told", ["row", "deeds"], ["row", "deeds", "found", "left", "deed"], (.cons (.set 2 (.ofL (.disp .nil ⟨16, 12, 16, 14⟩)) ⟨16, 4, 16, 9⟩ ⟨16, 4, 16, 14⟩) (.cons (.set 3 (.var 0 ⟨17, 11, 17, 14⟩) ⟨17, 4, 17, 8⟩ ⟨17, 4, 17, 14⟩) (.cons (.forr t_told_1 (.seq (.var 1 ⟨18, 16, 18, 21⟩)) b_told_1 ⟨18, 4, 21, 24⟩) (.cons (.ret (.var 2 ⟨22, 11, 22, 16⟩) ⟨22, 4, 22, 16⟩) .nil))))⟩
def d_less : Df := ⟨"less", ["row", "other"], ["row", "other"], (.cons (.ret (.bin .BitAnd (.var 0 ⟨24, 11, 24, 14⟩) (.un .Invert (.var 1 ⟨24, 18, 24, 23⟩) ⟨24, 17, 24, 23⟩) ⟨24, 11, 24, 23⟩) ⟨24, 4, 24, 23⟩) .nil)⟩
def d_law_cell : Df := ⟨"_law_cell", ["_law_script", "_law_k"], ["_law_script", "_law_k"], (.cons (.iff (.cmp .Lt (.var 1 ⟨27, 7, 27, 13⟩) (.len (.var 0 ⟨27, 20, 27, 31⟩) ⟨27, 16, 27, 19⟩ ⟨27, 16, 27, 32⟩) ⟨27, 7, 27, 32⟩) (.cons (.ret (.sub (.var 0 ⟨28, 15, 28, 26⟩) (.var 1 ⟨28, 27, 28, 33⟩) ⟨28, 15, 28, 34⟩) ⟨28, 8, 28, 34⟩) .nil) .nil ⟨27, 4, 28, 34⟩) (.cons (.ret (.int 0 ⟨29, 11, 29, 12⟩) ⟨29, 4, 29, 12⟩) .nil))⟩
def d_law_whole : Df := ⟨"_law_whole", ["_law_found"], ["_law_found"], (.cons (.ret (.and (.isi 0 (.var 0 ⟨31, 22, 31, 32⟩) ⟨31, 11, 31, 21⟩ ⟨31, 34, 31, 37⟩ ⟨31, 11, 31, 38⟩) (.un .Not (.isi 1 (.var 0 ⟨31, 59, 31, 69⟩) ⟨31, 48, 31, 58⟩ ⟨31, 71, 31, 75⟩ ⟨31, 48, 31, 76⟩) ⟨31, 44, 31, 76⟩) .nil ⟨31, 11, 31, 77⟩) ⟨31, 4, 31, 77⟩) .nil)⟩
def d_law_name : Df := ⟨"_law_name", ["_law_k", "_law_cell_here"], ["_law_k", "_law_cell_here", "_law_letters", "_law_size", "_law_at", "_law_fill", "_law_name_here"], (.cons (.set 2 (.str "abcdefghijklmnopqrstuvwxyz" ⟨33, 19, 33, 47⟩) ⟨33, 4, 33, 16⟩ ⟨33, 4, 33, 47⟩) (.cons (.set 3 (.bin .Add (.int 3 ⟨34, 16, 34, 17⟩) (.bin .Mod (.var 1 ⟨34, 20, 34, 34⟩) (.int 6 ⟨34, 37, 34, 38⟩) ⟨34, 20, 34, 38⟩) ⟨34, 16, 34, 38⟩) ⟨34, 4, 34, 13⟩ ⟨34, 4, 34, 38⟩) (.cons (.set 4 (.bin .Mod (.bin .FloorDiv (.var 1 ⟨35, 14, 35, 28⟩) (.int 6 ⟨35, 32, 35, 33⟩) ⟨35, 14, 35, 33⟩) (.bin .Sub (.var 3 ⟨35, 37, 35, 46⟩) (.int 1 ⟨35, 49, 35, 50⟩) ⟨35, 37, 35, 50⟩) ⟨35, 14, 35, 51⟩) ⟨35, 4, 35, 11⟩ ⟨35, 4, 35, 51⟩) (.cons (.set 5 (.sub (.str "jqxz" ⟨36, 16, 36, 22⟩) (.bin .Mod (.bin .FloorDiv (.var 1 ⟨36, 23, 36, 37⟩) (.int 48 ⟨36, 41, 36, 43⟩) ⟨36, 23, 36, 43⟩) (.int 4 ⟨36, 46, 36, 47⟩) ⟨36, 23, 36, 47⟩) ⟨36, 16, 36, 48⟩) ⟨36, 4, 36, 13⟩ ⟨36, 4, 36, 48⟩) (.cons (.set 6 (.bin .Add (.bin .Add (.bin .Mult (.var 5 ⟨37, 21, 37, 30⟩) (.var 4 ⟨37, 33, 37, 40⟩) ⟨37, 21, 37, 40⟩) (.sub (.var 2 ⟨37, 43, 37, 55⟩) (.bin .FloorDiv (.var 0 ⟨37, 56, 37, 62⟩) (.int 26 ⟨37, 66, 37, 68⟩) ⟨37, 56, 37, 68⟩) ⟨37, 43, 37, 69⟩) ⟨37, 21, 37, 69⟩) (.sub (.var 2 ⟨37, 72, 37, 84⟩) (.bin .Mod (.var 0 ⟨37, 85, 37, 91⟩) (.int 26 ⟨37, 94, 37, 96⟩) ⟨37, 85, 37, 96⟩) ⟨37, 72, 37, 97⟩) ⟨37, 21, 37, 97⟩) ⟨37, 4, 37, 18⟩ ⟨37, 4, 37, 97⟩) (.cons (.ret (.bin .Add (.var 6 ⟨38, 11, 38, 25⟩) (.bin .Mult (.var 5 ⟨38, 28, 38, 37⟩) (.bin .Sub (.bin .Sub (.var 3 ⟨38, 41, 38, 50⟩) (.int 2 ⟨38, 53, 38, 54⟩) ⟨38, 41, 38, 54⟩) (.var 4 ⟨38, 57, 38, 64⟩) ⟨38, 41, 38, 64⟩) ⟨38, 28, 38, 65⟩) ⟨38, 11, 38, 65⟩) ⟨38, 4, 38, 65⟩) .nil))))))⟩
def d_law_row : Df := ⟨"_law_row", ["_law_script", "_law_k", "_law_most"], ["_law_script", "_law_k", "_law_most"], (.cons (.ret (.bin .Mod (.bin .Add (.bin .Mult (.call 4 (.var 0 ⟨40, 22, 40, 33⟩) (.cons (.var 1 ⟨40, 35, 40, 41⟩) .nil) ⟨40, 12, 40, 21⟩ ⟨40, 12, 40, 42⟩) (.bin .Pow (.int 11 ⟨40, 45, 40, 47⟩) (.int 57 ⟨40, 51, 40, 53⟩) ⟨40, 45, 40, 53⟩) ⟨40, 12, 40, 53⟩) (.call 4 (.var 0 ⟨40, 66, 40, 77⟩) (.cons (.bin .Add (.var 1 ⟨40, 79, 40, 85⟩) (.int 1 ⟨40, 88, 40, 89⟩) ⟨40, 79, 40, 89⟩) .nil) ⟨40, 56, 40, 65⟩ ⟨40, 56, 40, 90⟩) ⟨40, 12, 40, 90⟩) (.var 2 ⟨40, 94, 40, 103⟩) ⟨40, 11, 40, 103⟩) ⟨40, 4, 40, 103⟩) .nil)⟩
def d_law_has : Df := ⟨"_law_has", ["_law_row_here", "_law_k"], ["_law_row_here", "_law_k"], (.cons (.ret (.cmp .Eq (.bin .Mod (.bin .RShift (.var 0 ⟨42, 12, 42, 25⟩) (.var 1 ⟨42, 29, 42, 35⟩) ⟨42, 12, 42, 35⟩) (.int 2 ⟨42, 39, 42, 40⟩) ⟨42, 11, 42, 40⟩) (.int 1 ⟨42, 44, 42, 45⟩) ⟨42, 11, 42, 45⟩) ⟨42, 4, 42, 45⟩) .nil)⟩
def e_law_some_1 : E := (.sub (.var 1 ⟨44, 12, 44, 22⟩) (.var 0 ⟨44, 23, 44, 29⟩) ⟨44, 12, 44, 30⟩)
def c_law_some_1 : Es := (.cons (.call 8 (.var 2 ⟨44, 80, 44, 93⟩) (.cons (.var 0 ⟨44, 95, 44, 101⟩) .nil) ⟨44, 71, 44, 79⟩ ⟨44, 71, 44, 102⟩) .nil)
def t_law_some_1 : Tg := (.one 0 ⟨44, 35, 44, 41⟩)
def s_law_some_1 : Scope := { kind := PySem.ScopeKind.function, names := [ (PySem.Str.ofString ".0", PySem.NameKind.local), (PySem.Str.ofString "_law_k", PySem.NameKind.local), (PySem.Str.ofString "_law_has", PySem.NameKind.globalImplicit), (PySem.Str.ofString "_law_deeds", PySem.NameKind.free), (PySem.Str.ofString "_law_row_here", PySem.NameKind.free)], isGenerator := false, isCoroutine := false, more := [] : PySem.Scope }
def d_law_some : Df := ⟨"_law_some", ["_law_row_here", "_law_deeds"], ["_law_row_here", "_law_deeds"], (.cons (.ret (.ofL (.comp e_law_some_1 t_law_some_1 (.rng (.len (.var 1 ⟨44, 55, 44, 65⟩) ⟨44, 51, 44, 54⟩ ⟨44, 51, 44, 66⟩) ⟨44, 45, 44, 50⟩ ⟨44, 45, 44, 67⟩) c_law_some_1 ["_law_k", "_law_deeds", "_law_row_here"] [none, some 1, some 0] s_law_some_1 ⟨44, 11, 44, 103⟩)) ⟨44, 4, 44, 103⟩) .nil)⟩
def t_law_less_1 : Tg := (.one 3 ⟨47, 8, 47, 14⟩)
def b_law_less_1 : Ss := (.cons (.iff (.and (.call 8 (.var 0 ⟨48, 20, 48, 33⟩) (.cons (.var 3 ⟨48, 35, 48, 41⟩) .nil) ⟨48, 11, 48, 19⟩ ⟨48, 11, 48, 42⟩) (.un .Not (.call 8 (.var 1 ⟨48, 61, 48, 71⟩) (.cons (.var 3 ⟨48, 73, 48, 79⟩) .nil) ⟨48, 52, 48, 60⟩ ⟨48, 52, 48, 80⟩) ⟨48, 48, 48, 80⟩) .nil ⟨48, 11, 48, 81⟩) (.cons (.set 2 (.bin .Add (.var 2 ⟨49, 23, 49, 31⟩) (.bin .LShift (.int 1 ⟨49, 35, 49, 36⟩) (.var 3 ⟨49, 40, 49, 46⟩) ⟨49, 35, 49, 46⟩) ⟨49, 23, 49, 47⟩) ⟨49, 12, 49, 20⟩ ⟨49, 12, 49, 47⟩) .nil) .nil ⟨48, 8, 49, 47⟩) .nil)
def d_law_less : Df := ⟨"_law_less", ["_law_row_here", "_law_other"], ["_law_row_here", "_law_other", "_law_due", "_law_k"], (.cons (.set 2 (.int 0 ⟨46, 15, 46, 16⟩) ⟨46, 4, 46, 12⟩ ⟨46, 4, 46, 16⟩) (.cons (.forr t_law_less_1 (.rng (.int 200 ⟨47, 24, 47, 27⟩) ⟨47, 18, 47, 23⟩ ⟨47, 18, 47, 28⟩) b_law_less_1 ⟨47, 4, 49, 47⟩) (.cons (.ret (.var 2 ⟨50, 11, 50, 19⟩) ⟨50, 4, 50, 19⟩) .nil)))⟩
def d_law_parted : Df := ⟨"_law_parted", ["_law_row_here", "_law_other"], ["_law_row_here", "_law_other", "_law_found"], (.cons (.set 2 (.call 3 (.var 0 ⟨52, 22, 52, 35⟩) (.cons (.var 1 ⟨52, 37, 52, 47⟩) .nil) ⟨52, 17, 52, 21⟩ ⟨52, 17, 52, 48⟩) ⟨52, 4, 52, 14⟩ ⟨52, 4, 52, 48⟩) (.cons (.ret (.and (.call 5 (.var 2 ⟨53, 22, 53, 32⟩) .nil ⟨53, 11, 53, 21⟩ ⟨53, 11, 53, 33⟩) (.cmp .Eq (.var 2 ⟨53, 38, 53, 48⟩) (.call 10 (.var 0 ⟨53, 62, 53, 75⟩) (.cons (.var 1 ⟨53, 77, 53, 87⟩) .nil) ⟨53, 52, 53, 61⟩ ⟨53, 52, 53, 88⟩) ⟨53, 38, 53, 88⟩) .nil ⟨53, 11, 53, 88⟩) ⟨53, 4, 53, 88⟩) .nil))⟩
def e_law_1 : E := (.call 6 (.var 0 ⟨58, 28, 58, 34⟩) (.cons (.call 4 (.var 1 ⟨58, 46, 58, 57⟩) (.cons (.int 1 ⟨58, 59, 58, 60⟩) .nil) ⟨58, 36, 58, 45⟩ ⟨58, 36, 58, 61⟩) .nil) ⟨58, 18, 58, 27⟩ ⟨58, 18, 58, 62⟩)
def c_law_1 : Es := .nil
def t_law_1 : Tg := (.one 0 ⟨58, 67, 58, 73⟩)
def s_law_1 : Scope := { kind := PySem.ScopeKind.function, names := [ (PySem.Str.ofString ".0", PySem.NameKind.local), (PySem.Str.ofString "_law_k", PySem.NameKind.local), (PySem.Str.ofString "_law_name", PySem.NameKind.globalImplicit), (PySem.Str.ofString "_law_cell", PySem.NameKind.globalImplicit), (PySem.Str.ofString "_law_script", PySem.NameKind.free)], isGenerator := false, isCoroutine := false, more := [] : PySem.Scope }
def d_law : Df := ⟨"law", ["_law_script"], ["_law_script", "_law_size", "_law_deeds", "_law_row_here", "_law_other", "_law_some_here", "_law_cut", "_law_handed", "_law_names", "_law_all_deeds", "_law_found", "_law_first", "_law_far"], (.cons (.set 1 (.bin .Mod (.call 4 (.var 0 ⟨55, 26, 55, 37⟩) (.cons (.int 0 ⟨55, 39, 55, 40⟩) .nil) ⟨55, 16, 55, 25⟩ ⟨55, 16, 55, 41⟩) (.int 61 ⟨55, 44, 55, 46⟩) ⟨55, 16, 55, 46⟩) ⟨55, 4, 55, 13⟩ ⟨55, 4, 55, 46⟩) (.cons (.iff (.cmp .Eq (.bin .Mod (.bin .FloorDiv (.call 4 (.var 0 ⟨56, 17, 56, 28⟩) (.cons (.int 0 ⟨56, 30, 56, 31⟩) .nil) ⟨56, 7, 56, 16⟩ ⟨56, 7, 56, 32⟩) (.int 61 ⟨56, 36, 56, 38⟩) ⟨56, 7, 56, 38⟩) (.int 4 ⟨56, 41, 56, 42⟩) ⟨56, 7, 56, 42⟩) (.int 1 ⟨56, 46, 56, 47⟩) ⟨56, 7, 56, 47⟩) (.cons (.set 1 (.bin .Mod (.bin .FloorDiv (.call 4 (.var 0 ⟨57, 30, 57, 41⟩) (.cons (.int 0 ⟨57, 43, 57, 44⟩) .nil) ⟨57, 20, 57, 29⟩ ⟨57, 20, 57, 45⟩) (.int 244 ⟨57, 49, 57, 52⟩) ⟨57, 20, 57, 52⟩) (.int 191 ⟨57, 55, 57, 58⟩) ⟨57, 20, 57, 58⟩) ⟨57, 8, 57, 17⟩ ⟨57, 8, 57, 58⟩) .nil) .nil ⟨56, 4, 57, 58⟩) (.cons (.set 2 (.ofL (.comp e_law_1 t_law_1 (.rng (.var 1 ⟨58, 83, 58, 92⟩) ⟨58, 77, 58, 82⟩ ⟨58, 77, 58, 93⟩) c_law_1 ["_law_k", "_law_script"] [none, some 0] s_law_1 ⟨58, 17, 58, 94⟩)) ⟨58, 4, 58, 14⟩ ⟨58, 4, 58, 94⟩) (.cons (.set 3 (.call 7 (.var 0 ⟨59, 29, 59, 40⟩) (.cons (.int 2 ⟨59, 42, 59, 43⟩) (.cons (.bin .LShift (.int 1 ⟨59, 45, 59, 46⟩) (.var 1 ⟨59, 50, 59, 59⟩) ⟨59, 45, 59, 59⟩) .nil)) ⟨59, 20, 59, 28⟩ ⟨59, 20, 59, 60⟩) ⟨59, 4, 59, 17⟩ ⟨59, 4, 59, 60⟩) (.cons (.set 4 (.call 7 (.var 0 ⟨60, 26, 60, 37⟩) (.cons (.int 4 ⟨60, 39, 60, 40⟩) (.cons (.bin .LShift (.int 1 ⟨60, 42, 60, 43⟩) (.var 1 ⟨60, 47, 60, 56⟩) ⟨60, 42, 60, 56⟩) .nil)) ⟨60, 17, 60, 25⟩ ⟨60, 17, 60, 57⟩) ⟨60, 4, 60, 14⟩ ⟨60, 4, 60, 57⟩) (.cons (.set 5 (.call 9 (.var 3 ⟨61, 31, 61, 44⟩) (.cons (.var 2 ⟨61, 46, 61, 56⟩) .nil) ⟨61, 21, 61, 30⟩ ⟨61, 21, 61, 57⟩) ⟨61, 4, 61, 18⟩ ⟨61, 4, 61, 57⟩) (.cons (.set 6 (.bin .Mod (.call 4 (.var 0 ⟨62, 25, 62, 36⟩) (.cons (.int 6 ⟨62, 38, 62, 39⟩) .nil) ⟨62, 15, 62, 24⟩ ⟨62, 15, 62, 40⟩) (.max2 (.int 1 ⟨62, 47, 62, 48⟩) (.len (.var 5 ⟨62, 54, 62, 68⟩) ⟨62, 50, 62, 53⟩ ⟨62, 50, 62, 69⟩) ⟨62, 43, 62, 46⟩ ⟨62, 43, 62, 70⟩) ⟨62, 15, 62, 70⟩) ⟨62, 4, 62, 12⟩ ⟨62, 4, 62, 70⟩) (.cons (.set 7 (.bin .Add (.bin .Add (.cut (.var 5 ⟨63, 18, 63, 32⟩) (.some (.var 6 ⟨63, 33, 63, 41⟩)) .none ⟨63, 33, 63, 42⟩ ⟨63, 18, 63, 43⟩) (.cut (.var 5 ⟨63, 46, 63, 60⟩) .none (.some (.var 6 ⟨63, 62, 63, 70⟩)) ⟨63, 61, 63, 70⟩ ⟨63, 46, 63, 71⟩) ⟨63, 18, 63, 71⟩) (.cut (.var 5 ⟨63, 74, 63, 88⟩) .none (.some (.bin .Mod (.call 4 (.var 0 ⟨63, 100, 63, 111⟩) (.cons (.int 7 ⟨63, 113, 63, 114⟩) .nil) ⟨63, 90, 63, 99⟩ ⟨63, 90, 63, 115⟩) (.int 6 ⟨63, 118, 63, 119⟩) ⟨63, 90, 63, 119⟩)) ⟨63, 89, 63, 119⟩ ⟨63, 74, 63, 120⟩) ⟨63, 18, 63, 120⟩) ⟨63, 4, 63, 15⟩ ⟨63, 4, 63, 120⟩) (.cons (.iff (.cmp .Eq (.bin .Mod (.bin .FloorDiv (.call 4 (.var 0 ⟨64, 17, 64, 28⟩) (.cons (.int 7 ⟨64, 30, 64, 31⟩) .nil) ⟨64, 7, 64, 16⟩ ⟨64, 7, 64, 32⟩) (.int 6 ⟨64, 36, 64, 37⟩) ⟨64, 7, 64, 37⟩) (.int 2 ⟨64, 40, 64, 41⟩) ⟨64, 7, 64, 41⟩) (.int 1 ⟨64, 45, 64, 46⟩) ⟨64, 7, 64, 46⟩) (.cons (.ex (.m0 .reverse (.var 7 ⟨65, 8, 65, 19⟩) ⟨65, 8, 65, 27⟩ ⟨65, 8, 65, 29⟩) ⟨65, 8, 65, 29⟩) .nil) .nil ⟨64, 4, 65, 29⟩) (.cons (.set 8 (.listE (.var 7 ⟨66, 22, 66, 33⟩) ⟨66, 17, 66, 21⟩ ⟨66, 17, 66, 34⟩) ⟨66, 4, 66, 14⟩ ⟨66, 4, 66, 34⟩) (.cons (.set 9 (.listE (.var 2 ⟨67, 26, 67, 36⟩) ⟨67, 21, 67, 25⟩ ⟨67, 21, 67, 37⟩) ⟨67, 4, 67, 18⟩ ⟨67, 4, 67, 37⟩) (.cons (.set 10 (.call 1 (.var 7 ⟨68, 24, 68, 35⟩) (.cons (.var 2 ⟨68, 37, 68, 47⟩) .nil) ⟨68, 17, 68, 23⟩ ⟨68, 17, 68, 48⟩) ⟨68, 4, 68, 14⟩ ⟨68, 4, 68, 48⟩) (.cons (.iff (.or (.un .Not (.call 5 (.var 10 ⟨69, 22, 69, 32⟩) .nil ⟨69, 11, 69, 21⟩ ⟨69, 11, 69, 33⟩) ⟨69, 7, 69, 33⟩) (.cmp .NotEq (.var 10 ⟨69, 37, 69, 47⟩) (.var 3 ⟨69, 51, 69, 64⟩) ⟨69, 37, 69, 64⟩) (.cons (.cmp .NotEq (.var 7 ⟨69, 68, 69, 79⟩) (.var 8 ⟨69, 83, 69, 93⟩) ⟨69, 68, 69, 93⟩) (.cons (.cmp .NotEq (.var 2 ⟨69, 98, 69, 108⟩) (.var 9 ⟨69, 112, 69, 126⟩) ⟨69, 98, 69, 126⟩) .nil)) ⟨69, 7, 69, 127⟩) (.cons (.ret (.bl false ⟨70, 15, 70, 20⟩) ⟨70, 8, 70, 20⟩) .nil) .nil ⟨69, 4, 70, 20⟩) (.cons (.set 11 (.call 2 (.var 3 ⟨71, 22, 71, 35⟩) (.cons (.var 2 ⟨71, 37, 71, 47⟩) .nil) ⟨71, 17, 71, 21⟩ ⟨71, 17, 71, 48⟩) ⟨71, 4, 71, 14⟩ ⟨71, 4, 71, 48⟩) (.cons (.iff (.or (.un .Not (.isi 4 (.var 11 ⟨72, 22, 72, 32⟩) ⟨72, 11, 72, 21⟩ ⟨72, 34, 72, 38⟩ ⟨72, 11, 72, 39⟩) ⟨72, 7, 72, 39⟩) (.cmp .NotEq (.var 11 ⟨72, 43, 72, 53⟩) (.var 5 ⟨72, 57, 72, 71⟩) ⟨72, 43, 72, 71⟩) .nil ⟨72, 7, 72, 71⟩) (.cons (.ret (.bl false ⟨73, 15, 73, 20⟩) ⟨73, 8, 73, 20⟩) .nil) .nil ⟨72, 4, 73, 20⟩) (.cons (.ex (.m1 .append (.var 11 ⟨74, 4, 74, 14⟩) (.str "q" ⟨74, 22, 74, 25⟩) ⟨74, 4, 74, 21⟩ ⟨74, 4, 74, 26⟩) ⟨74, 4, 74, 26⟩) (.cons (.iff (.or (.cmp .NotEq (.call 2 (.var 4 ⟨75, 12, 75, 22⟩) (.cons (.var 2 ⟨75, 24, 75, 34⟩) .nil) ⟨75, 7, 75, 11⟩ ⟨75, 7, 75, 35⟩) (.call 9 (.var 4 ⟨75, 49, 75, 59⟩) (.cons (.var 2 ⟨75, 61, 75, 71⟩) .nil) ⟨75, 39, 75, 48⟩ ⟨75, 39, 75, 72⟩) ⟨75, 7, 75, 72⟩) (.cmp .NotEq (.call 2 (.var 3 ⟨75, 81, 75, 94⟩) (.cons (.var 2 ⟨75, 96, 75, 106⟩) .nil) ⟨75, 76, 75, 80⟩ ⟨75, 76, 75, 107⟩) (.var 5 ⟨75, 111, 75, 125⟩) ⟨75, 76, 75, 125⟩) (.cons (.cmp .NotEq (.var 2 ⟨75, 129, 75, 139⟩) (.var 9 ⟨75, 143, 75, 157⟩) ⟨75, 129, 75, 157⟩) .nil) ⟨75, 7, 75, 157⟩) (.cons (.ret (.bl false ⟨76, 15, 76, 20⟩) ⟨76, 8, 76, 20⟩) .nil) .nil ⟨75, 4, 76, 20⟩) (.cons (.set 12 (.call 7 (.var 0 ⟨77, 24, 77, 35⟩) (.cons (.int 2 ⟨77, 37, 77, 38⟩) (.cons (.bin .LShift (.int 1 ⟨77, 40, 77, 41⟩) (.int 200 ⟨77, 45, 77, 48⟩) ⟨77, 40, 77, 48⟩) .nil)) ⟨77, 15, 77, 23⟩ ⟨77, 15, 77, 49⟩) ⟨77, 4, 77, 12⟩ ⟨77, 4, 77, 49⟩) (.cons (.ret (.and (.call 11 (.var 3 ⟨78, 23, 78, 36⟩) (.cons (.var 4 ⟨78, 38, 78, 48⟩) .nil) ⟨78, 11, 78, 22⟩ ⟨78, 11, 78, 49⟩) (.call 11 (.var 12 ⟨78, 66, 78, 74⟩) (.cons (.call 7 (.var 0 ⟨78, 85, 78, 96⟩) (.cons (.int 4 ⟨78, 98, 78, 99⟩) (.cons (.bin .LShift (.int 1 ⟨78, 101, 78, 102⟩) (.int 200 ⟨78, 106, 78, 109⟩) ⟨78, 101, 78, 109⟩) .nil)) ⟨78, 76, 78, 84⟩ ⟨78, 76, 78, 110⟩) .nil) ⟨78, 54, 78, 65⟩ ⟨78, 54, 78, 111⟩) (.cons (.call 11 (.var 4 ⟨78, 128, 78, 138⟩) (.cons (.var 12 ⟨78, 140, 78, 148⟩) .nil) ⟨78, 116, 78, 127⟩ ⟨78, 116, 78, 149⟩) .nil) ⟨78, 11, 78, 149⟩) ⟨78, 4, 78, 149⟩) .nil)))))))))))))))))))⟩
def defs : List Df := [d_bits_by_deed, d_row_by, d_told, d_less, d_law_cell, d_law_whole, d_law_name, d_law_row, d_law_has, d_law_some, d_law_less, d_law_parted, d_law]
-- 0:bits_by_deed 1:row_by 2:told 3:less 4:_law_cell 5:_law_whole 6:_law_name 7:_law_row 8:_law_has 9:_law_some 10:_law_less 11:_law_parted 12:law
/-! ### the cells, the names -/
def mkS (l : List Nat) : Str := ⟨l.toArray⟩
@[simp] theorem mkS_len (l : List Nat) : (mkS l).length = l.length := by simp [mkS, Str.length]
@[simp] theorem mkS_list (l : List Nat) : (mkS l).cps.toList = l := by simp [mkS]
theorem mkS_append (a b : List Nat) : mkS a ++ mkS b = mkS (a ++ b) := by
  show (⟨a.toArray ++ b.toArray⟩ : Str) = ⟨(a ++ b).toArray⟩
  rw [List.append_toArray]
theorem mkS_inj {a b : List Nat} (h : mkS a = mkS b) : a = b := by
  have : a.toArray = b.toArray := congrArg Str.cps h
  simpa using congrArg Array.toList this
theorem fold_rep (c : Nat) : ∀ (n : Nat) (a : Array Nat), (List.replicate n #[c]).foldl (· ++ ·) a = a ++ (List.replicate n c).toArray
  | 0, a => by simp
  | n + 1, a => by
    rw [List.replicate_succ, List.foldl_cons, fold_rep c n, List.replicate_succ]
    apply Array.ext'
    simp
theorem mul_one_char (c : Nat) (j : Int) (h : 0 ≤ j) : Txt.mul (mkS [c]) j = mkS (List.replicate j.toNat c) := by
  unfold Txt.mul
  by_cases h1 : j < 1
  · have : j = 0 := by omega
    subst this
    rfl
  · rw [if_neg h1]
    by_cases h2 : j = 1
    · subst h2; rfl
    · rw [if_neg (by simp [h2, mkS_len])]
      show (⟨(List.replicate j.toNat #[c]).foldl (· ++ ·) #[]⟩ : Str) = _
      rw [fold_rep]
      simp [mkS]
def cellv (ns : List Int) (i : Int) : Int := ns.getD i.toNat 0
theorem at_map (ns : List Int) (i : Int) (hi : 0 ≤ i) (h : i < (ns.length : Int)) : atI (ns.map D.int) i = some (.int (cellv ns i)) := by
  unfold atI ixN cellv
  rw [List.length_map, if_pos hi, if_pos h]
  show (ns.map D.int)[i.toNat]? = _
  rw [List.getElem?_map, List.getD_eq_getElem?_getD, List.getElem?_eq_getElem (by omega)]
  rfl
theorem cell_out (ns : List Int) (i : Int) (h : ¬ i < (ns.length : Int)) : cellv ns i = 0 := by
  unfold cellv
  rw [List.getD_eq_getElem?_getD, List.getElem?_eq_none (by omega)]
  rfl
theorem cell_fits {ns : List Int} (hb : ∀ n ∈ ns, fits n = true) (i : Int) : fits (cellv ns i) = true := by
  unfold cellv
  rw [List.getD_eq_getElem?_getD]
  cases e : ns[i.toNat]? with
  | none => decide
  | some v => exact hb v (List.mem_of_getElem? e)
abbrev scr (ns : List Int) : D := .fl (ns.map .int)
section
variable (cl : Nat → List D → Hh → Res D) (h : Hh)
theorem r_cell (ns : List Int) (i : Int) (hi : 0 ≤ i) : d_law_cell.run cl [scr ns, .int i] h = .ok (.int (cellv ns i)) h := by
  by_cases c : i < (ns.length : Int)
  · simp [d_law_cell, Df.run, Ss.run, S.run, E.ev, E.evT, c, at_map ns i hi c, outR, scr]
  · simp [d_law_cell, Df.run, Ss.run, S.run, E.ev, E.evT, c, outR, cell_out ns i c, scr]
theorem r_whole (i : Int) : d_law_whole.run cl [.int i] h = .ok (.bl true) h := by
  simp [d_law_whole, Df.run, Ss.run, S.run, E.ev, Es.ev, E.evT, isI, Es.evAnd, outR]
theorem r_less (x y : Int) : d_less.run cl [.int x, .int y] h = .ok (.int (x - Builtin.bitAnd x y)) h := by
  simp [d_less, Df.run, Ss.run, S.run, E.ev, outR, PyProof.Rows.bitAnd_not]
theorem r_has (x : Int) (k : Nat) : d_law_has.run cl [.int x, .int (k : Nat)] h = .ok (.bl (KB.tb x k)) h := by
  simp [d_law_has, Df.run, Ss.run, S.run, E.ev, outR, PyData.canLay0, PyData.depth, PyData.eqv, KB.tb]
  rfl
theorem big_fits : fits 228761562390246506066453264733492693192365450838991802120171 = true := by decide
def rowv (ns : List Int) (k most : Int) : Int := (cellv ns k * 11 ^ 57 + cellv ns (k + 1)) % most
theorem r_row (ns : List Int) (i m : Int) (hc : ∀ i : Int, 0 ≤ i → cl 4 [scr ns, .int i] h = .ok (.int (cellv ns i)) h) (hi : 0 ≤ i) (hm : 0 < m) (hb : ∀ n ∈ ns, fits n = true) :
    d_law_row.run cl [scr ns, .int i, .int m] h = .ok (.int (rowv ns i m)) h := by
  have h1 := hc i hi
  have h2 := hc (i + 1) (by omega)
  have b1 := cell_fits hb i
  simp only [scr] at h1 h2 ⊢
  simp [d_law_row, Df.run, Ss.run, S.run, E.ev, Es.ev, h1, h2, outR, rowv, b1, big_fits, hm]
end
/-! ### names -/
def az : List Nat := (List.range 26).map (· + 97)
theorem az_eq : ("abcdefghijklmnopqrstuvwxyz" : Str) = mkS az := by decide
theorem fills_eq : ("jqxz" : Str) = mkS [106, 113, 120, 122] := by decide
theorem at_az (i : Int) (h0 : 0 ≤ i) (h1 : i < 26) : atI az i = some (97 + i.toNat) := by
  unfold atI ixN
  have hl : az.length = 26 := by decide
  rw [hl, if_pos h0, if_pos (by omega)]
  show az[i.toNat]? = _
  unfold az
  rw [List.getElem?_map, List.getElem?_range (by omega)]
  simp; omega
def fillc (c : Int) : Nat := [106, 113, 120, 122].getD (c / 48 % 4).toNat 0
theorem at_fill (c : Int) : atI [106, 113, 120, 122] (c / 48 % 4) = some (fillc c) := by
  have h0 : 0 ≤ c / 48 % 4 := by omega
  have h1 : c / 48 % 4 < 4 := by omega
  unfold atI ixN fillc
  rw [if_pos h0, if_pos (by simpa using h1)]
  have hn : (c / 48 % 4).toNat < 4 := by omega
  generalize (c / 48 % 4).toNat = n at hn ⊢
  rw [List.getD_eq_getElem?_getD]
  show [106, 113, 120, 122][n]? = _
  match n, hn with
  | 0, _ => rfl
  | 1, _ => rfl
  | 2, _ => rfl
  | 3, _ => rfl
/-- the name of the k-th deed -/
def nat' (c : Int) : Int := c / 6 % (2 + c % 6)
def nmL (k : Nat) (c : Int) : List Nat := List.replicate (nat' c).toNat (fillc c) ++ [97 + k / 26] ++ [97 + k % 26] ++ List.replicate (1 + c % 6 - nat' c).toNat (fillc c)
theorem one_eq (c : Nat) : (⟨#[c]⟩ : Str) = mkS [c] := rfl
theorem r_name (cl : Nat → List D → Hh → Res D) (h : Hh) (k : Nat) (hk : k < 676) (c : Int) : d_law_name.run cl [.int (k : Nat), .int c] h = .ok (.str (mkS (nmL k c))) h := by
  have m0 : 0 ≤ c % 6 := by omega
  have m1 : c % 6 < 6 := by omega
  have n0 : 0 ≤ nat' c := Int.emod_nonneg _ (by omega)
  have n1 : nat' c < 2 + c % 6 := Int.emod_lt_of_pos _ (by omega)
  have a1 : atI az ((k : Int) / 26) = some (97 + k / 26) := by rw [at_az _ (by omega) (by omega)]; congr 2
  have a2 : atI az ((k : Int) % 26) = some (97 + k % 26) := by rw [at_az _ (by omega) (by omega)]; congr 2
  have af := at_fill c
  have e1 : (3 + c % 6 - 1) = 2 + c % 6 := by omega
  have e2 : c / 6 % (2 + c % 6) = nat' c := rfl
  have e3 : (3 + c % 6 - 2 - nat' c) = 1 + c % 6 - nat' c := by omega
  have c1 : (0 : Int) < 2 + c % 6 := by omega
  have c2 : nat' c ≤ 1000 := by omega
  have c3 : 0 ≤ 1 + c % 6 - nat' c := by omega
  have c4 : 1 + c % 6 - nat' c ≤ 1000 := by omega
  have l26 : az.length = 26 := by decide
  have c5 : nat' c ≤ 1 + c % 6 := by omega
  have mm := mul_one_char (fillc c) (1 + c % 6 - nat' c) c3
  have f0 : (nat' c).toNat ≤ 10 := by omega
  have f00 : (1 + c % 6 - nat' c).toNat ≤ 10 := by omega
  have f1 : (nat' c).toNat + 1 ≤ 1000000 := by omega
  have f2 : (nat' c).toNat ≤ 999999 := by omega
  have f3 : (nat' c).toNat + (1 + 1) ≤ 1000000 := by omega
  have f4 : (nat' c).toNat + 1 + 1 ≤ 1000000 := by omega
  have f5 : (nat' c).toNat ≤ 999998 := by omega
  have f6 : (nat' c).toNat + 1 + 1 + (1 + c % 6 - nat' c).toNat ≤ 1000000 := by omega
  have f7 : (nat' c).toNat + (1 + 1) + (1 + c % 6 - nat' c).toNat ≤ 1000000 := by omega
  have f8 : (nat' c).toNat + 2 + (1 + c % 6 - nat' c).toNat ≤ 1000000 := by omega
  simp [d_law_name, Df.run, Ss.run, S.run, E.ev, sub_str, az_eq, fills_eq, outR, af, e1, e2, e3, c1, c2, c3, c4, n0, a1, a2, one_eq, mul_one_char, mkS_append, l26, c5, mm, f1, f2, f3, f4, f5, f6, f7, f8, nmL]
end K21

set_option Elab.async false
set_option linter.all false
set_option maxRecDepth 100000
set_option maxHeartbeats 4000000
namespace K21
open PySem L2 PI
def txs (xs : List Str) : List D := xs.map .str
@[simp] theorem txs_len (xs : List Str) : (txs xs).length = xs.length := by simp [txs]
theorem txs_append (a b : List Str) : txs a ++ txs b = txs (a ++ b) := by simp [txs]
theorem set_self {h : Hh} {n : Nat} {o : O} (e : h[n]? = some o) : h.set n o = h := by
  apply List.ext_getElem?
  intro i
  by_cases hi : n = i
  · subst hi
    have := (List.getElem?_eq_some_iff.mp e).1
    rw [List.getElem?_set_self this, e]
  · rw [List.getElem?_set_ne hi]
theorem rd_lst {h : Hh} {n : Nat} {xs : List D} (e : h[n]? = some (.lst xs)) : rd h n = some xs := by unfold rd; rw [e]
theorem rd_set {h : Hh} {n m : Nat} {o : O} (hn : n ≠ m) : rd (h.set m o) n = rd h n := by unfold rd; rw [List.getElem?_set_ne (Ne.symm hn)]
theorem stay1 {n : Nat} {ds : List D} {h : Hh} : stay [(n, ds)] h ↔ rd h n = some ds := by
  unfold stay; simp
theorem stay0 {h : Hh} : stay [] h := by unfold stay; simp
theorem and1 (x : Int) : Builtin.bitAnd x 1 = x % 2 := by
  have := PySem.W.kbt_mask x 1
  simpa using this
def toldL : Int → List Str → List Str
  | _, [] => []
  | L, x :: r => if L % 2 = 1 then x :: toldL (L / 2) r else toldL (L / 2) r
theorem told_loop (cl : Nat → List D → Hh → Res D) (nd nf : Nat) (R : D) (all : List D) : ∀ (rest acc : List Str) (L : Int) (x : Option D) (h : Hh), rd h nd = some all → nd ≠ nf → h[nf]? = some (.lst (txs acc)) → acc.length + rest.length ≤ 1000 →
    ∃ x', forL [(nd, all)] (stepF t_told_1 fun ρ' h' => b_told_1.run cl ρ' h') (txs rest) [some R, some (.loc nd), some (.loc nf), some (.int L), x] h =
      .nx [some R, some (.loc nd), some (.loc nf), some (.int (L / 2 ^ rest.length)), x'] (h.set nf (.lst (txs (acc ++ toldL L rest))))
  | [], acc, L, x, h, h1, h2, h3, h4 => by
    refine ⟨x, ?_⟩
    have st : stay [(nd, all)] h := stay1.mpr h1
    simp [txs, forL, st, toldL] at h3 ⊢
    exact (set_self h3).symm
  | d :: rest, acc, L, x, h, h1, h2, h3, h4 => by
    have st : stay [(nd, all)] h := stay1.mpr h1
    have hl : acc.length < 1000000 := by simp at h4; omega
    have hn : nf < h.length := (List.getElem?_eq_some_iff.mp h3).1
    by_cases c : L % 2 = 1
    · obtain ⟨x', ih⟩ := told_loop cl nd nf R all rest (acc ++ [d]) (L / 2) (some (.str d)) (h.set nf (.lst (txs (acc ++ [d])))) (by rw [rd_set h2]; exact h1) h2 (by rw [List.getElem?_set_self hn]) (by simp at h4 ⊢; omega)
      refine ⟨x', ?_⟩
      have e1 : L / 2 / 2 ^ rest.length = L / 2 ^ (rest.length + 1) := by rw [Int.ediv_ediv_of_nonneg (by decide), Int.pow_succ, Int.mul_comm]
      rw [List.set_set, e1] at ih
      have e2 : acc ++ toldL L (d :: rest) = acc ++ [d] ++ toldL (L / 2) rest := by simp [toldL, c]
      rw [e2, List.length_cons, ← ih]
      have e3 : txs (acc ++ [d]) = txs acc ++ [.str d] := by simp [txs]
      rw [e3]
      simp [txs, forL, st, stepF, t_told_1, bindT, b_told_1, Ss.run, S.run, E.ev, E.evT, onL, m1D, and1, c, PyData.canLay0, PyData.depth, PyData.eqv, hl] at h3 ⊢
      simp [h3, hl]
    · obtain ⟨x', ih⟩ := told_loop cl nd nf R all rest acc (L / 2) (some (.str d)) h h1 h2 h3 (by simp at h4 ⊢; omega)
      refine ⟨x', ?_⟩
      have e1 : L / 2 / 2 ^ rest.length = L / 2 ^ (rest.length + 1) := by rw [Int.ediv_ediv_of_nonneg (by decide), Int.pow_succ, Int.mul_comm]
      rw [e1] at ih
      have e2 : acc ++ toldL L (d :: rest) = acc ++ toldL (L / 2) rest := by simp [toldL, c]
      rw [e2, List.length_cons, ← ih]
      simp [txs, forL, st, stepF, t_told_1, bindT, b_told_1, Ss.run, S.run, E.ev, E.evT, onL, m1D, and1, c, PyData.canLay0, PyData.depth, PyData.eqv]
theorem new_at (h : Hh) (o : O) : (h ++ [o])[h.length]? = some o := by rw [List.getElem?_append_right (Nat.le_refl _), Nat.sub_self]; rfl
theorem old_at {h : Hh} {o u : O} {n : Nat} (e : h[n]? = some u) : (h ++ [o])[n]? = some u := by rw [List.getElem?_append_left (List.getElem?_eq_some_iff.mp e).1]; exact e
theorem set_new (h : Hh) (o u : O) : (h ++ [o]).set h.length u = h ++ [u] := by
  rw [List.set_append_right _ _ (Nat.le_refl _), Nat.sub_self]; rfl
theorem r_told (cl : Nat → List D → Hh → Res D) (h : Hh) (nd : Nat) (R : Int) (ds : List Str) (e : h[nd]? = some (.lst (txs ds))) (hl : ds.length ≤ 1000) :
    d_told.run cl [.int R, .loc nd] h = .ok (.loc h.length) (h ++ [.lst (txs (toldL R ds))]) := by
  have hn : nd < h.length := (List.getElem?_eq_some_iff.mp e).1
  have e1 := rd_lst (old_at (o := .lst []) e)
  obtain ⟨x', lp⟩ := told_loop cl nd h.length (.int R) (txs ds) ds [] R none (h ++ [.lst []]) e1 (by omega) (new_at _ _) (by simpa using hl)
  rw [set_new] at lp
  simp [d_told, Df.run, Ss.run, S.run, E.ev, L.ev, Es.ev, I.ev, new, e1, lp, outR]
end K21

set_option Elab.async false
set_option linter.all false
set_option maxRecDepth 100000
set_option maxHeartbeats 4000000
namespace K21
open PySem L2 PI
theorem fits_pow (j : Nat) (h : j ≤ 1000) : fits (2 ^ j) = true := by
  unfold fits Builtin.Int.intBits
  have e : ((2 : Int) ^ j).natAbs = 2 ^ j := by
    rw [Int.natAbs_pow]; rfl
  rw [if_neg (by have := KB.pw_pos j; simp; omega), e, Nat.log2_two_pow]
  exact decide_eq_true (by omega)
/-! ### bits_by_deed -/
def kvsOf : Nat → List Str → List (Key × D)
  | _, [] => []
  | j, x :: r => (.inr x, .int (2 ^ j)) :: kvsOf (j + 1) r
theorem kvs_len : ∀ (j : Nat) (xs : List Str), (kvsOf j xs).length = xs.length
  | _, [] => rfl
  | j, x :: r => by simp [kvsOf, kvs_len]
theorem put_new {kvs : List (Key × D)} {k : Key} {v : D} (h : ∀ p ∈ kvs, p.1 ≠ k) : putD kvs k v = kvs ++ [(k, v)] := by
  unfold putD
  rw [if_neg]
  rw [Bool.not_eq_true, List.any_eq_false]
  exact fun p hp => by simpa using h p hp
theorem bits_loop (cl : Nat → List D → Hh → Res D) (nd nb : Nat) (all : List D) : ∀ (rest : List Str) (kvs : List (Key × D)) (j : Nat) (x : Option D) (h : Hh), rd h nd = some all → nd ≠ nb → h[nb]? = some (.dK kvs) → kvs.length + rest.length ≤ 1000 → j + rest.length ≤ 1000 →
    (∀ y ∈ rest, ∀ p ∈ kvs, p.1 ≠ .inr y) → rest.Nodup →
    ∃ x', forL [(nd, all)] (stepF t_bits_by_deed_1 fun ρ' h' => b_bits_by_deed_1.run cl ρ' h') (txs rest) [some (.loc nd), some (.loc nb), some (.int (2 ^ j)), x] h =
      .nx [some (.loc nd), some (.loc nb), some (.int (2 ^ (j + rest.length))), x'] (h.set nb (.dK (kvs ++ kvsOf j rest)))
  | [], kvs, j, x, h, h1, h2, h3, h4, h5, h6, h7 => by
    refine ⟨x, ?_⟩
    have st : stay [(nd, all)] h := stay1.mpr h1
    simp [txs, forL, st, kvsOf]
    exact (set_self h3).symm
  | d :: rest, kvs, j, x, h, h1, h2, h3, h4, h5, h6, h7 => by
    have st : stay [(nd, all)] h := stay1.mpr h1
    have hl : kvs.length < 1000000 := by simp at h4; omega
    have hn : nb < h.length := (List.getElem?_eq_some_iff.mp h3).1
    have hf : fits (2 ^ j) = true := fits_pow j (by simp at h5; omega)
    have hp : putD kvs (.inr d) (.int (2 ^ j)) = kvs ++ [(.inr d, .int (2 ^ j))] := put_new fun p hp => h6 d (List.mem_cons_self ..) p hp
    obtain ⟨h71, h72⟩ := List.nodup_cons.mp h7
    obtain ⟨x', ih⟩ := bits_loop cl nd nb all rest (kvs ++ [(.inr d, .int (2 ^ j))]) (j + 1) (some (.str d)) (h.set nb (.dK (kvs ++ [(.inr d, .int (2 ^ j))]))) (by rw [rd_set h2]; exact h1) h2 (by rw [List.getElem?_set_self hn]) (by simp at h4 ⊢; omega) (by simp at h5 ⊢; omega)
      (fun y hy p hp' => by
        rcases List.mem_append.mp hp' with z | z
        · exact h6 y (List.mem_cons_of_mem _ hy) p z
        · rw [List.mem_singleton.mp z]
          intro q
          have : d = y := Sum.inr.inj q
          exact h71 (this ▸ hy)) h72
    refine ⟨x', ?_⟩
    have e1 : (2 : Int) ^ (j + 1 + rest.length) = 2 ^ (j + (rest.length + 1)) := by congr 1; omega
    rw [List.set_set, e1] at ih
    have e2 : kvs ++ kvsOf j (d :: rest) = kvs ++ [(.inr d, .int (2 ^ j))] ++ kvsOf (j + 1) rest := by simp [kvsOf]
    rw [e2, List.length_cons, ← ih]
    have e3 : (2 : Int) ^ j * 2 = 2 ^ (j + 1) := by rw [Int.pow_succ]
    simp [txs, forL, st, stepF, t_bits_by_deed_1, bindT, b_bits_by_deed_1, Ss.run, S.run, E.ev, putS, keyD, h3, hl, hp, hf, e3]
theorem r_bits (cl : Nat → List D → Hh → Res D) (h : Hh) (nd : Nat) (ds : List Str) (e : h[nd]? = some (.lst (txs ds))) (hl : ds.length ≤ 1000) (nd' : ds.Nodup) :
    d_bits_by_deed.run cl [.loc nd] h = .ok (.loc h.length) (h ++ [.dK (kvsOf 0 ds)]) := by
  have hn : nd < h.length := (List.getElem?_eq_some_iff.mp e).1
  have e1 := rd_lst (old_at (o := .dK []) e)
  obtain ⟨x', lp⟩ := bits_loop cl nd h.length (txs ds) ds [] 0 none (h ++ [.dK []]) e1 (by omega) (new_at _ _) (by simpa using hl) (by simpa using hl) (fun _ _ p hp => absurd hp (by simp)) nd'
  rw [set_new] at lp
  simp at lp
  simp [d_bits_by_deed, Df.run, Ss.run, S.run, E.ev, I.ev, new, e1, lp, outR]
/-! ### row_by -/
theorem row_loop (cl : Nat → List D → Hh → Res D) (ns nd nb : Nat) (all : List D) (kvs : List (Key × D)) (f : Str → Int) : ∀ (rest : List Str) (acc : Int) (x : Option D) (h : Hh), rd h ns = some all → h[nb]? = some (.dK kvs) → (∀ y ∈ rest, valD kvs (.inr y) = some (.int (f y))) →
    ∃ x', forL [(ns, all)] (stepF t_row_by_1 fun ρ' h' => b_row_by_1.run cl ρ' h') (txs rest) [some (.loc ns), some (.loc nd), some (.loc nb), some (.int acc), x] h =
      .nx [some (.loc ns), some (.loc nd), some (.loc nb), some (.int (rest.foldl (fun a y => Builtin.bitOr a (f y)) acc)), x'] h
  | [], acc, x, h, h1, h3, h6 => by
    refine ⟨x, ?_⟩
    have st : stay [(ns, all)] h := stay1.mpr h1
    simp [txs, forL, st]
  | d :: rest, acc, x, h, h1, h3, h6 => by
    have st : stay [(ns, all)] h := stay1.mpr h1
    obtain ⟨x', ih⟩ := row_loop cl ns nd nb all kvs f rest (Builtin.bitOr acc (f d)) (some (.str d)) h h1 h3 (fun y hy => h6 y (List.mem_cons_of_mem _ hy))
    refine ⟨x', ?_⟩
    rw [List.foldl_cons, ← ih]
    have hv := h6 d (List.mem_cons_self ..)
    simp [txs, forL, st, stepF, t_row_by_1, bindT, b_row_by_1, Ss.run, S.run, E.ev, sub_loc, keyD, h3, hv]
theorem r_row_by (cl : Nat → List D → Hh → Res D) (h : Hh) (nm nd : Nat) (xs ds : List Str) (f : Str → Int) (em : h[nm]? = some (.lst (txs xs))) (hb : cl 0 [.loc nd] h = .ok (.loc h.length) (h ++ [.dK (kvsOf 0 ds)])) (hf : ∀ y ∈ xs, valD (kvsOf 0 ds) (.inr y) = some (.int (f y))) :
    d_row_by.run cl [.loc nm, .loc nd] h = .ok (.int (xs.foldl (fun a y => Builtin.bitOr a (f y)) 0)) (h ++ [.dK (kvsOf 0 ds)]) := by
  have e1 := rd_lst (old_at (o := .dK (kvsOf 0 ds)) em)
  obtain ⟨x', lp⟩ := row_loop cl nm nd h.length (txs xs) (kvsOf 0 ds) f xs 0 none _ e1 (new_at _ _) hf
  simp [d_row_by, Df.run, Ss.run, S.run, E.ev, Es.ev, I.ev, hb, e1, lp, outR]
/-! ### comprehensions that change nothing -/
theorem compL_pure {c : Ck} {f : D → Hh → Res (Option D)} {h : Hh} (st : stay c h) (g : D → Option D) : ∀ (xs acc : List D), (∀ x ∈ xs, f x h = .ok (g x) h) → compL c f xs acc h = .ok (acc ++ xs.filterMap g) h
  | [], acc, _ => by simp [compL, st]
  | x :: r, acc, e => by
    have e1 := e x (List.mem_cons_self ..)
    have ih := compL_pure st g r (addO acc (g x)) fun y hy => e y (List.mem_cons_of_mem _ hy)
    unfold compL
    rw [if_pos st, e1, bind_ok, ih, List.filterMap_cons]
    cases g x <;> simp
theorem pick_eq : ∀ (R : Int) (ds : List Str), (List.range ds.length).filterMap (fun k => if KB.tb R k = true then ds[k]? else none) = toldL R ds
  | _, [] => rfl
  | R, d :: r => by
    have ih := pick_eq (R / 2) r
    rw [List.length_cons, List.range_succ_eq_map, List.filterMap_cons, List.filterMap_map]
    have e : (fun k => if KB.tb R k = true then (d :: r)[k]? else none) ∘ Nat.succ = fun k => if KB.tb (R / 2) k = true then r[k]? else none := by
      funext k
      simp [KB.tb_succ]
    rw [e, ih, KB.tb_zero]
    by_cases c : R % 2 = 1 <;> simp [toldL, c]
theorem atI_nat' {α : Type} {xs : List α} {k : Nat} : atI xs (k : Int) = xs[k]? := by
  unfold atI ixN
  rw [if_pos (by omega)]
  by_cases h : k < xs.length
  · rw [if_pos (by omega)]; simp
  · rw [if_neg (by omega), List.getElem?_eq_none (by omega)]; rfl
theorem r_some (cl : Nat → List D → Hh → Res D) (h : Hh) (nd : Nat) (R : Int) (ds : List Str) (e : h[nd]? = some (.lst (txs ds))) (hl : ds.length ≤ 1000) (hh : ∀ k : Nat, cl 8 [.int R, .int (k : Nat)] h = .ok (.bl (KB.tb R k)) h) :
    d_law_some.run cl [.int R, .loc nd] h = .ok (.loc h.length) (h ++ [.lst (txs (toldL R ds))]) := by
  have e1 := rd_lst e
  have key : ∀ F, F = compF t_law_some_1 (capE [none, some 1, some 0] [some (.int R), some (.loc nd)]) (fun ρ' h2 => c_law_some_1.evC cl ρ' h2) (fun ρ' h2 => e_law_some_1.ev cl ρ' h2) →
      compL [] F ((List.range ds.length).map fun (k : Nat) => D.int (k : Nat)) [] h = .ok (txs (toldL R ds)) h := by
    intro F hF
    have cp := compL_pure (c := []) (f := F) (h := h) stay0 (fun x => match x with | .int i => if KB.tb R i.toNat = true then (ds[i.toNat]?).map D.str else none | _ => none) ((List.range ds.length).map fun (k : Nat) => D.int (k : Nat)) [] (by
      intro x hx
      obtain ⟨k, hk, rfl⟩ := List.mem_map.mp hx
      have hk' : k < ds.length := List.mem_range.mp hk
      have hk2 := hh k
      rw [hF]
      cases c : KB.tb R k with
      | true =>
        rw [c] at hk2
        simp [compF, t_law_some_1, bindT, capE, c_law_some_1, e_law_some_1, Es.evC, E.ev, Es.ev, hk2, sub_loc, e, atI_nat', txs, c, hk']
      | false =>
        rw [c] at hk2
        simp [compF, t_law_some_1, bindT, capE, c_law_some_1, e_law_some_1, Es.evC, E.ev, Es.ev, hk2, c])
    rw [cp, ← pick_eq, List.filterMap_map]
    congr 1
    simp only [txs, List.nil_append, List.map_filterMap]
    congr 1
    funext k
    simp
    split <;> simp
  have l1 : (ds.length : Int) ≤ 1000000 := by omega
  have l2 : ds.length ≤ 1000000 := by omega
  have l3 : (-1000000 : Int) ≤ ds.length := by omega
  have k1 := key _ rfl
  simp [d_law_some, Df.run, Ss.run, S.run, E.ev, L.ev, I.ev, e1, outR, l1, l2, l3, k1, new]
end K21

set_option Elab.async false
set_option linter.all false
set_option maxRecDepth 100000
set_option maxHeartbeats 4000000
namespace K21
open PySem L2 PI
/-! ### less, told bit by bit -/
def wB (A B : Int) (k : Nat) : Int := if (KB.tb A k && !KB.tb B k) = true then 2 ^ k else 0
theorem less_loop (cl : Nat → List D → Hh → Res D) (A B : Int) (hh : ∀ (x : Int) (k : Nat) h, cl 8 [.int x, .int (k : Nat)] h = .ok (.bl (KB.tb x k)) h) : ∀ (ks : List Nat) (due : Int) (x : Option D) (h : Hh), (∀ k ∈ ks, k ≤ 1000) →
    ∃ x', forL [] (stepF t_law_less_1 fun ρ' h' => b_law_less_1.run cl ρ' h') (ks.map fun (k : Nat) => D.int (k : Nat)) [some (.int A), some (.int B), some (.int due), x] h =
      .nx [some (.int A), some (.int B), some (.int (due + (ks.map (wB A B)).sum)), x'] h
  | [], due, x, h, _ => ⟨x, by simp [forL, stay0]⟩
  | k :: ks, due, x, h, hk => by
    obtain ⟨x', ih⟩ := less_loop cl A B hh ks (due + wB A B k) (some (.int (k : Nat))) h fun j hj => hk j (List.mem_cons_of_mem _ hj)
    refine ⟨x', ?_⟩
    have e : due + ((k :: ks).map (wB A B)).sum = due + wB A B k + (ks.map (wB A B)).sum := by rw [List.map_cons, List.sum_cons]; omega
    rw [e, ← ih]
    have h1 := hh A k
    have h2 := hh B k
    have hk1 : k ≤ 1000 := hk k (List.mem_cons_self ..)
    have hk2 : (k : Int) ≤ 1000000 := by omega
    have hf : fits 1 = true := by decide
    cases c1 : KB.tb A k <;> cases c2 : KB.tb B k <;> simp [c1, c2] at h1 h2 <;>
      simp [forL, stay0, stepF, t_law_less_1, bindT, b_law_less_1, Ss.run, S.run, E.ev, Es.ev, Es.evAnd, E.evT, h1, h2, wB, c1, c2, hk2, hf]
theorem sum_bits (x : Int) : ∀ n : Nat, ((List.range n).map fun k => if KB.tb x k = true then (2 : Int) ^ k else 0).sum = x % 2 ^ n
  | 0 => by simp [Int.emod_one]
  | n + 1 => by
    rw [List.range_succ, List.map_append, List.sum_append, sum_bits x n]
    have p := KB.pw_pos n
    have p1 : (2 : Int) ^ (n + 1) = 2 ^ n * 2 := Int.pow_succ ..
    have l0 := Int.emod_nonneg x (Int.ne_of_gt p)
    have l1 := Int.emod_lt_of_pos x p
    have hd := Int.emod_add_mul_ediv x (2 ^ n)
    have key : x % 2 ^ n + 2 ^ n * (x / 2 ^ n % 2) + 2 ^ (n + 1) * (x / 2 ^ n / 2) = x := by
      rw [p1, Int.mul_assoc, Int.add_assoc, ← Int.mul_add]
      have : x / 2 ^ n % 2 + 2 * (x / 2 ^ n / 2) = x / 2 ^ n := by omega
      rw [this]; exact hd
    have b : x / 2 ^ n % 2 = 0 ∨ x / 2 ^ n % 2 = 1 := by omega
    have u := ((Int.ediv_emod_unique (a := x) (b := 2 ^ (n + 1)) (r := x % 2 ^ n + 2 ^ n * (x / 2 ^ n % 2)) (q := x / 2 ^ n / 2) (by rw [p1]; omega)).mpr ⟨key, by rcases b with b | b <;> rw [b] <;> omega, by rcases b with b | b <;> rw [b, p1] <;> omega⟩).2
    rw [u]
    unfold KB.tb
    rcases b with b | b <;> simp [b]
theorem dif_range {A : Int} (B : Int) (h0 : 0 ≤ A) : 0 ≤ A - Builtin.bitAnd A B ∧ A - Builtin.bitAnd A B ≤ A := by
  have := PyProof.Rows.bitAnd_range B h0
  rw [PyProof.Rows.bitAnd_comm] at this
  omega
theorem less_sum {A B : Int} (h0 : 0 ≤ A) (h1 : A < 2 ^ 200) : ((List.range 200).map (wB A B)).sum = A - Builtin.bitAnd A B := by
  have e : (List.range 200).map (wB A B) = (List.range 200).map fun k => if KB.tb (A - Builtin.bitAnd A B) k = true then (2 : Int) ^ k else 0 := by
    apply List.map_congr_left
    intro k _
    unfold wB
    rw [KB.tb_but]
  have d := dif_range B h0
  rw [e, sum_bits, Int.emod_eq_of_lt d.1 (by omega)]
theorem r_lawless (cl : Nat → List D → Hh → Res D) (h : Hh) (A B : Int) (h0 : 0 ≤ A) (h1 : A < 2 ^ 200) (hh : ∀ (x : Int) (k : Nat) h, cl 8 [.int x, .int (k : Nat)] h = .ok (.bl (KB.tb x k)) h) :
    d_law_less.run cl [.int A, .int B] h = .ok (.int (A - Builtin.bitAnd A B)) h := by
  obtain ⟨x', lp⟩ := less_loop cl A B hh (List.range 200) 0 none h (fun k hk => by have := List.mem_range.mp hk; omega)
  rw [less_sum h0 h1] at lp
  simp only [Int.zero_add] at lp
  have e200 : (200 : Int).toNat = 200 := rfl
  unfold Df.run d_law_less
  simp only [List.map_cons, List.map_nil, List.length_cons, List.length_nil]
  simp [Ss.run, S.run, E.ev, I.ev, e200, lp, outR]
theorem r_parted (cl : Nat → List D → Hh → Res D) (h : Hh) (A B : Int) (hl : cl 3 [.int A, .int B] h = .ok (.int (A - Builtin.bitAnd A B)) h) (hw : ∀ i, cl 5 [.int i] h = .ok (.bl true) h) (hd : cl 10 [.int A, .int B] h = .ok (.int (A - Builtin.bitAnd A B)) h) :
    d_law_parted.run cl [.int A, .int B] h = .ok (.bl true) h := by
  simp [d_law_parted, Df.run, Ss.run, S.run, E.ev, Es.ev, Es.evAnd, E.evT, hl, hw, hd, outR, PyData.canLay0, PyData.depth, PyData.eqv]
end K21

set_option Elab.async false
set_option linter.all false
set_option maxRecDepth 100000
set_option maxHeartbeats 8000000
namespace K21
open PySem L2 PI
/-! ### the deeds -/
def dsOf (n : Nat) (c : Int) : List Str := (List.range n).map fun k => mkS (nmL k c)
theorem nm_inj {j k : Nat} {c : Int} (hj : j < 676) (hk : k < 676) (e : nmL j c = nmL k c) : j = k := by
  unfold nmL at e
  simp only [List.append_assoc, List.cons_append, List.nil_append] at e
  have e1 := List.append_cancel_left e
  simp only [List.cons.injEq] at e1
  omega
theorem ds_len (n : Nat) (c : Int) : (dsOf n c).length = n := by simp [dsOf]
theorem ds_get {n k : Nat} (c : Int) (h : k < n) : (dsOf n c)[k]? = some (mkS (nmL k c)) := by
  unfold dsOf; rw [List.getElem?_map, List.getElem?_range h]; rfl
theorem ds_nodup {n : Nat} (c : Int) (h : n ≤ 676) : (dsOf n c).Nodup := by
  unfold dsOf
  rw [List.nodup_iff_pairwise_ne, List.pairwise_map]
  refine List.Pairwise.imp_of_mem ?_ (List.nodup_iff_pairwise_ne.mp List.nodup_range)
  intro j k hj hk hne z
  exact hne (nm_inj (by have := List.mem_range.mp hj; omega) (by have := List.mem_range.mp hk; omega) (mkS_inj z))
theorem val_kvs : ∀ (ds : List Str) (j k : Nat) (d : Str), ds.Nodup → ds[k]? = some d → valD (kvsOf j ds) (.inr d) = some (.int (2 ^ (j + k)))
  | [], _, _, _, _, e => by simp at e
  | x :: r, j, 0, d, nd, e => by
    simp at e; subst e
    unfold kvsOf valD
    rw [List.find?_cons_of_pos (by simp)]
    simp
  | x :: r, j, k + 1, d, nd, e => by
    have e' : r[k]? = some d := by simpa using e
    obtain ⟨n1, n2⟩ := List.nodup_cons.mp nd
    have hne : x ≠ d := fun z => n1 (z ▸ List.mem_of_getElem? e')
    have ih := val_kvs r (j + 1) k d n2 e'
    unfold kvsOf valD
    rw [List.find?_cons_of_neg (by simpa using hne)]
    have z : j + 1 + k = j + (k + 1) := by omega
    rw [z] at ih
    exact ih
/-- the bit of a deed -/
def bitOf (ds : List Str) (d : Str) : Int := 2 ^ (ds.idxOf d)
theorem mem_told : ∀ (R : Int) (ds : List Str) (d : Str), d ∈ toldL R ds → ∃ k, ds[k]? = some d ∧ KB.tb R k = true
  | _, [], _, h => by simp [toldL] at h
  | R, x :: r, d, h => by
    unfold toldL at h
    by_cases c : R % 2 = 1
    · rw [if_pos c] at h
      rcases List.mem_cons.mp h with rfl | h
      · exact ⟨0, rfl, by rw [KB.tb_zero]; exact decide_eq_true c⟩
      · obtain ⟨k, e1, e2⟩ := mem_told (R / 2) r d h
        exact ⟨k + 1, by simpa using e1, by rw [KB.tb_succ]; exact e2⟩
    · rw [if_neg c] at h
      obtain ⟨k, e1, e2⟩ := mem_told (R / 2) r d h
      exact ⟨k + 1, by simpa using e1, by rw [KB.tb_succ]; exact e2⟩
theorem told_mem : ∀ (R : Int) (ds : List Str) (d : Str) (k : Nat), ds[k]? = some d → KB.tb R k = true → d ∈ toldL R ds
  | _, [], _, _, h, _ => by simp at h
  | R, x :: r, d, 0, h, t => by
    simp at h; subst h
    rw [KB.tb_zero] at t
    unfold toldL
    rw [if_pos (of_decide_eq_true t)]
    exact List.mem_cons_self ..
  | R, x :: r, d, k + 1, h, t => by
    have := told_mem (R / 2) r d k (by simpa using h) (by rw [← KB.tb_succ]; exact t)
    unfold toldL
    split
    · exact List.mem_cons_of_mem _ this
    · exact this
theorem told_len : ∀ (R : Int) (ds : List Str), (toldL R ds).length ≤ ds.length
  | _, [] => by simp [toldL]
  | R, x :: r => by
    have := told_len (R / 2) r
    unfold toldL
    split <;> simp <;> omega
theorem tb_pow (j k : Nat) : KB.tb (2 ^ j) k = decide (j = k) := by
  induction k generalizing j with
  | zero =>
    rw [KB.tb_zero]
    cases j with
    | zero => rfl
    | succ j =>
      rw [Int.pow_succ]
      have : (2 ^ j * 2 : Int) % 2 = 0 := by omega
      rw [this]; rfl
  | succ k ih =>
    rw [KB.tb_succ]
    cases j with
    | zero => simp [KB.tb]
    | succ j =>
      have : ((2 : Int) ^ (j + 1)) / 2 = 2 ^ j := by rw [Int.pow_succ]; omega
      rw [this, ih]
      simp
theorem tb_fold (f : Str → Int) (k : Nat) : ∀ (xs : List Str) (acc : Int), KB.tb (xs.foldl (fun a y => Builtin.bitOr a (f y)) acc) k = (KB.tb acc k || xs.any fun y => KB.tb (f y) k)
  | [], acc => by simp
  | x :: r, acc => by rw [List.foldl_cons, tb_fold f k r, KB.tb_or, List.any_cons, Bool.or_assoc]
theorem tb_high {x : Int} {n k : Nat} (h0 : 0 ≤ x) (h1 : x < 2 ^ n) (h : n ≤ k) : KB.tb x k = false := by
  unfold KB.tb
  have hp : (2 : Int) ^ n ≤ 2 ^ k := by
    have := Nat.pow_le_pow_right (show 0 < 2 by decide) h
    exact_mod_cast this
  rw [Int.ediv_eq_zero_of_lt h0 (by omega)]
  rfl
/-- the bits of just the deeds of a row -/
theorem fold_row {R : Int} {ds xs : List Str} (f : Str → Int) (h0 : 0 ≤ R) (h1 : R < 2 ^ ds.length) (hf : ∀ (k : Nat) d, ds[k]? = some d → f d = 2 ^ k) (hx : ∀ d, d ∈ xs ↔ d ∈ toldL R ds) :
    xs.foldl (fun a y => Builtin.bitOr a (f y)) 0 = R := by
  refine KB.tb_ext fun k => ?_
  rw [tb_fold, KB.tb_nought, Bool.false_or]
  cases c : KB.tb R k with
  | true =>
    have hk : k < ds.length := by
      by_cases h : k < ds.length
      · exact h
      · rw [tb_high h0 h1 (by omega)] at c; cases c
    rw [List.any_eq_true]
    refine ⟨ds[k], (hx _).mpr (told_mem R ds _ k (List.getElem?_eq_getElem hk) c), ?_⟩
    rw [hf k _ (List.getElem?_eq_getElem hk), tb_pow]
    simp
  | false =>
    rw [List.any_eq_false]
    intro d hd
    obtain ⟨j, e1, e2⟩ := mem_told R ds d ((hx d).mp hd)
    rw [hf j d e1, tb_pow]
    simp
    intro z
    rw [z, c] at e2
    cases e2
/-! ### texts as data -/
theorem pds_txs (h : Hh) : ∀ xs : List Str, D.pds h (txs xs) = some (xs.map .str)
  | [] => by simp [txs, D.pds]
  | x :: r => by
    have := pds_txs h r
    unfold txs at this ⊢
    rw [List.map_cons]
    unfold D.pds D.pd
    rw [this]
    rfl
def okS (x : Str) : Bool := PyData.strOk x
theorem can_txs : ∀ xs : List Str, (∀ x ∈ xs, PyData.strOk x = true) → PyData.canLayAll0 (xs.map .str) = true
  | [], _ => rfl
  | x :: r, h => by
    rw [List.map_cons]
    unfold PyData.canLayAll0 PyData.canLay0
    rw [h x (List.mem_cons_self ..), can_txs r fun y hy => h y (List.mem_cons_of_mem _ hy)]
    rfl
theorem dep_txs : ∀ xs : List Str, PyData.depthAll (xs.map .str) = 0
  | [] => rfl
  | x :: r => by rw [List.map_cons]; unfold PyData.depthAll PyData.depth; rw [dep_txs r]; rfl
theorem eq_txs (xs : List Str) (h : ∀ x ∈ xs, PyData.strOk x = true) : PyData.eqvAll (xs.map .str) (xs.map .str) = true := PySem.SeqAt.eqvAll_refl _ (can_txs xs h)
/-- two lists of the same texts are not unlike -/
theorem ne_same {h : Hh} {n m : Nat} {xs : List Str} (e1 : rd h n = some (txs xs)) (e2 : rd h m = some (txs xs)) (ok : ∀ x ∈ xs, PyData.strOk x = true) : eqR true (pdT h (.loc n)) (pdT h (.loc m)) h = .ok (.bl false) h := by
  simp [e1, e2, pds_txs, PyData.canLay0, can_txs xs ok, PyData.depth, dep_txs, PyData.eqv, eq_txs xs ok]
theorem nm_ok (k : Nat) (hk : k < 676) (c : Int) : PyData.strOk (mkS (nmL k c)) = true := by
  unfold PyData.strOk mkS
  rw [List.all_toArray, List.all_eq_true]
  intro x hx
  have hf : fillc c < 1114112 := by
    unfold fillc
    rw [List.getD_eq_getElem?_getD]
    have hn : (c / 48 % 4).toNat < 4 := by omega
    generalize (c / 48 % 4).toNat = n at hn
    match n, hn with
    | 0, _ => decide
    | 1, _ => decide
    | 2, _ => decide
    | 3, _ => decide
  unfold nmL at hx
  simp only [List.mem_append, List.mem_singleton, List.mem_replicate] at hx
  refine decide_eq_true ?_
  show x < 0x110000
  rcases hx with ((hx | hx) | hx) | hx
  · omega
  · omega
  · omega
  · omega
theorem ds_ok {n : Nat} (c : Int) (h : n ≤ 676) : ∀ x ∈ dsOf n c, PyData.strOk x = true := by
  intro x hx
  unfold dsOf at hx
  obtain ⟨k, hk, rfl⟩ := List.mem_map.mp hx
  exact nm_ok k (by have := List.mem_range.mp hk; omega) c
theorem told_ok {R : Int} {ds : List Str} (h : ∀ x ∈ ds, PyData.strOk x = true) : ∀ x ∈ toldL R ds, PyData.strOk x = true := fun x hx => by
  obtain ⟨k, e, _⟩ := mem_told R ds x hx
  exact h x (List.mem_of_getElem? e)
end K21

set_option Elab.async false
set_option linter.all false
set_option maxRecDepth 100000
set_option maxHeartbeats 16000000
namespace K21
open PySem L2 PI
theorem sIx_some (n d : Nat) (i : Int) (h : 0 ≤ i) : HT.sIx n d (some i) = min i.toNat n := by
  unfold HT.sIx
  exact if_neg (by omega)
theorem sIx_none (n d : Nat) : HT.sIx n d none = d := rfl
theorem cut_lo (xs : List Str) (i : Int) (h : 0 ≤ i) : cutXs (txs xs) (some i) none = txs (xs.drop i.toNat) := by
  unfold cutXs
  rw [sIx_some _ _ _ h, sIx_none, List.take_of_length_le (by simp)]
  unfold txs
  rw [← List.map_drop, List.length_map]
  congr 1
  by_cases hh : i.toNat ≤ xs.length
  · rw [Nat.min_eq_left hh]
  · rw [Nat.min_eq_right (by omega), List.drop_length, List.drop_eq_nil_of_le (by omega)]
theorem cut_hi (xs : List Str) (i : Int) (h : 0 ≤ i) : cutXs (txs xs) none (some i) = txs (xs.take i.toNat) := by
  unfold cutXs
  rw [sIx_some _ _ _ h, sIx_none, List.drop_zero, Nat.sub_zero]
  unfold txs
  rw [← List.map_take, List.length_map]
  congr 1
  by_cases hh : i.toNat ≤ xs.length
  · rw [Nat.min_eq_left hh]
  · rw [Nat.min_eq_right (by omega), List.take_length, List.take_of_length_le (by omega)]
theorem rev_txs (xs : List Str) : (txs xs).reverse = txs xs.reverse := by simp [txs]
/-- the deeds, as the law makes them -/
theorem deeds_comp (cl : Nat → List D → Hh → Res D) (ns : List Int) (n : Nat) (hn : n ≤ 676) (h : Hh) (hce : ∀ (i : Int) h, 0 ≤ i → cl 4 [scr ns, .int i] h = .ok (.int (cellv ns i)) h) (hna : ∀ (k : Nat) c h, k < 676 → cl 6 [.int (k : Nat), .int c] h = .ok (.str (mkS (nmL k c))) h)
    (ρ : En) (hρ : ρ[0]? = some (some (scr ns))) : compL [] (compF t_law_1 (capE [none, some 0] ρ) (fun ρ' h2 => c_law_1.evC cl ρ' h2) (fun ρ' h2 => e_law_1.ev cl ρ' h2)) ((List.range n).map fun (k : Nat) => D.int (k : Nat)) [] h = .ok (txs (dsOf n (cellv ns 1))) h := by
  have h1 := hce 1 h (by decide)
  have cp := compL_pure (c := []) (f := compF t_law_1 (capE [none, some 0] ρ) (fun ρ' h2 => c_law_1.evC cl ρ' h2) (fun ρ' h2 => e_law_1.ev cl ρ' h2)) (h := h) stay0 (fun x => match x with | .int i => some (.str (mkS (nmL i.toNat (cellv ns 1)))) | _ => none) ((List.range n).map fun (k : Nat) => D.int (k : Nat)) [] (by
    intro x hx
    obtain ⟨k, hk, rfl⟩ := List.mem_map.mp hx
    have hk' := hna k (cellv ns 1) h (by have := List.mem_range.mp hk; omega)
    simp only [scr] at h1 hρ
    simp [compF, t_law_1, bindT, capE, c_law_1, e_law_1, Es.evC, E.ev, Es.ev, hρ, h1, hk'])
  rw [cp, List.filterMap_map]
  congr 1
  simp only [dsOf, txs, List.nil_append, List.map_map]
  rw [← List.filterMap_eq_map]
  congr 1
theorem mem_handed {sm : List Str} (c k : Nat) (d : Str) : d ∈ sm.drop c ++ sm.take c ++ sm.take k ↔ d ∈ sm := by
  rw [List.mem_append, List.mem_append]
  constructor
  · rintro ((h | h) | h)
    · exact List.mem_of_mem_drop h
    · exact List.mem_of_mem_take h
    · exact List.mem_of_mem_take h
  · intro h
    have : d ∈ sm.take c ++ sm.drop c := by rw [List.take_append_drop]; exact h
    rcases List.mem_append.mp this with h | h
    · exact .inl (.inr h)
    · exact .inl (.inl h)
structure Calls (cl : Nat → List D → Hh → Res D) (ns : List Int) : Prop where
  ce : ∀ (i : Int) h, 0 ≤ i → cl 4 [scr ns, .int i] h = .ok (.int (cellv ns i)) h
  na : ∀ (k : Nat) c h, k < 676 → cl 6 [.int (k : Nat), .int c] h = .ok (.str (mkS (nmL k c))) h
  ro : ∀ (i m : Int) h, 0 ≤ i → 0 < m → cl 7 [scr ns, .int i, .int m] h = .ok (.int (rowv ns i m)) h
  so : ∀ (R : Int) (nd : Nat) (ds : List Str) h, h[nd]? = some (.lst (txs ds)) → ds.length ≤ 1000 → cl 9 [.int R, .loc nd] h = .ok (.loc h.length) (h ++ [.lst (txs (toldL R ds))])
  tl : ∀ (R : Int) (nd : Nat) (ds : List Str) h, h[nd]? = some (.lst (txs ds)) → ds.length ≤ 1000 → cl 2 [.int R, .loc nd] h = .ok (.loc h.length) (h ++ [.lst (txs (toldL R ds))])
  rb : ∀ (nm nd : Nat) (xs ds : List Str) (f : Str → Int) h, h[nm]? = some (.lst (txs xs)) → h[nd]? = some (.lst (txs ds)) → ds.length ≤ 1000 → ds.Nodup → (∀ y ∈ xs, valD (kvsOf 0 ds) (.inr y) = some (.int (f y))) →
    cl 1 [.loc nm, .loc nd] h = .ok (.int (xs.foldl (fun a y => Builtin.bitOr a (f y)) 0)) (h ++ [.dK (kvsOf 0 ds)])
  wh : ∀ i h, cl 5 [.int i] h = .ok (.bl true) h
  pa : ∀ (A B : Int) h, 0 ≤ A → A < 2 ^ 200 → cl 11 [.int A, .int B] h = .ok (.bl true) h
theorem row_range (ns : List Int) (k : Int) {m : Int} (h : 0 < m) : 0 ≤ rowv ns k m ∧ rowv ns k m < m := ⟨Int.emod_nonneg _ (by omega), Int.emod_lt_of_pos _ h⟩
def takeS : Nat → Ss → Ss
  | 0, _ => .nil
  | _ + 1, .nil => .nil
  | n + 1, .cons s r => .cons s (takeS n r)
def dropS : Nat → Ss → Ss
  | 0, b => b
  | _ + 1, .nil => .nil
  | n + 1, .cons _ r => dropS n r
theorem run_at (cl : Nat → List D → Hh → Res D) : ∀ (n : Nat) (b : Ss) (ρ : En) (h : Hh), Ss.run cl b ρ h = seqS (Ss.run cl (takeS n b) ρ h) fun ρ' h' => Ss.run cl (dropS n b) ρ' h'
  | 0, b, ρ, h => by simp [takeS, dropS, Ss.run]
  | n + 1, .nil, ρ, h => by simp [takeS, dropS, Ss.run]
  | n + 1, .cons s r, ρ, h => by
    simp only [takeS, dropS, Ss.run]
    cases S.run cl s ρ h with
    | nx ρ' h' => simp only [seqS_nx]; exact run_at cl n r ρ' h'
    | _ => rfl
end K21

set_option Elab.async false
set_option linter.all false
set_option maxRecDepth 100000
set_option maxHeartbeats 16000000
namespace K21
open PySem L2 PI
theorem fits1 : fits 1 = true := by decide
theorem law_1 (cl : Nat → List D → Hh → Res D) (ns : List Int) (C : Calls cl ns) (s : Int) (hs0 : 0 ≤ s) (hs1 : s ≤ 190) (hs : s = (if cellv ns 0 / 61 % 4 = 1 then cellv ns 0 / 244 % 191 else cellv ns 0 % 61)) :
    Ss.run cl (takeS 3 d_law.body) [some (scr ns), none, none, none, none, none, none, none, none, none, none, none, none] [] = .nx [some (scr ns), some (.int s), some (.loc 0), none, none, none, none, none, none, none, none, none, none] [.lst (txs (dsOf s.toNat (cellv ns 1)))] := by
  have c0 := C.ce 0 [] (by decide)
  have dc := fun (ρ : En) hρ => deeds_comp cl ns s.toNat (by omega) [] C.ce C.na ρ hρ
  have e1 : (-1000000 : Int) ≤ s ∧ s ≤ 1000000 := by omega
  have e2 : s.toNat ≤ 1000000 := by omega
  simp only [scr] at *
  by_cases hr : cellv ns 0 / 61 % 4 = 1
  · rw [if_pos hr] at hs
    subst hs
    simp [takeS, d_law, Ss.run, S.run, E.ev, Es.ev, E.evT, I.ev, L.ev, c0, binD, cmpD, pdT, D.pd, eqR, PyData.canLay0, PyData.depth, PyData.eqv, hr, new, e1, e2, dc]
  · rw [if_neg hr] at hs
    subst hs
    simp [takeS, d_law, Ss.run, S.run, E.ev, Es.ev, E.evT, I.ev, L.ev, c0, binD, cmpD, pdT, D.pd, eqR, PyData.canLay0, PyData.depth, PyData.eqv, hr, new, e1, e2, dc]
theorem law_2 (cl : Nat → List D → Hh → Res D) (ns : List Int) (C : Calls cl ns) (s : Int) (hs0 : 0 ≤ s) (hs1 : s ≤ 190) (ds : List Str) (hl : ds.length = s.toNat) :
    ∃ (hd : List Str) (c : Int) (h' : Hh), (∀ d, d ∈ hd ↔ d ∈ toldL (rowv ns 2 (2 ^ s.toNat)) ds) ∧ hd.length ≤ 1000 ∧ (∃ a b x y : O, h' = [.lst (txs ds), .lst (txs (toldL (rowv ns 2 (2 ^ s.toNat)) ds)), a, b, x, y, .lst (txs hd)]) ∧
    Ss.run cl (takeS 6 (dropS 3 d_law.body)) [some (scr ns), some (.int s), some (.loc 0), none, none, none, none, none, none, none, none, none, none] [.lst (txs ds)] =
      .nx [some (scr ns), some (.int s), some (.loc 0), some (.int (rowv ns 2 (2 ^ s.toNat))), some (.int (rowv ns 4 (2 ^ s.toNat))), some (.loc 1), some (.int c), some (.loc 6), none, none, none, none, none] h' := by
  have pp : (0 : Int) < 2 ^ s.toNat := KB.pw_pos _
  have r1 := C.ro 2 (2 ^ s.toNat) [.lst (txs ds)] (by decide) pp
  have r2 := C.ro 4 (2 ^ s.toNat) [.lst (txs ds)] (by decide) pp
  generalize rowv ns 2 (2 ^ s.toNat) = R at *
  generalize rowv ns 4 (2 ^ s.toNat) = R' at *
  have s1 := C.so R 0 ds [.lst (txs ds)] rfl (by omega)
  have sl := told_len R ds
  generalize toldL R ds = sm at *
  have e1 : s ≤ 1000000 := by omega
  have c6 := C.ce 6 [.lst (txs ds), .lst (txs sm)] (by decide)
  generalize cellv ns 6 = z at *
  have tl : (txs sm).length = sm.length := by simp [txs]
  obtain ⟨c, hc⟩ : ∃ c : Int, c = z % (if (sm.length : Int) > 1 then (sm.length : Int) else 1) := ⟨_, rfl⟩
  have mp : (0 : Int) < (if (sm.length : Int) > 1 then (sm.length : Int) else 1) := by split <;> omega
  have c0 : 0 ≤ c := by rw [hc]; exact Int.emod_nonneg _ (by omega)
  have k1 := cut_lo sm c c0
  have k2 := cut_hi sm c c0
  have c7 := C.ce 7
  generalize cellv ns 7 = w at *
  have w0 : 0 ≤ w % 6 := by omega
  have k3 := cut_hi sm (w % 6) w0
  have l1 : (sm.drop c.toNat ++ sm.take c.toNat ++ sm.take (w % 6).toNat).length ≤ 1000 := by
    simp only [List.length_append, List.length_drop, List.length_take]; omega
  have l2 : (sm.drop c.toNat ++ sm.take c.toNat).length ≤ 1000000 := by
    simp only [List.length_append, List.length_drop, List.length_take]; omega
  have m1 := fun d => mem_handed (sm := sm) c.toNat (w % 6).toNat d
  generalize sm.drop c.toNat = A at *
  generalize sm.take c.toNat = B at *
  generalize sm.take (w % 6).toNat = G at *
  have tA : (txs A).length = A.length := by simp [txs]
  have tB : (txs B).length = B.length := by simp [txs]
  have tG : (txs G).length = G.length := by simp [txs]
  simp only [List.length_append] at l1 l2
  have l3 : A.length + (B.length + G.length) ≤ 1000000 := by omega
  have l4 : A.length + B.length + G.length ≤ 1000000 := by omega
  simp only [scr] at *
  by_cases hr : w / 6 % 2 = 1
  · refine ⟨(A ++ B ++ G).reverse, c, _, ?_, ?_, ⟨.lst (txs A), .lst (txs B), .lst (txs (A ++ B)), .lst (txs G), rfl⟩, ?_⟩
    rotate_left 2
    · simp [takeS, dropS, d_law, Ss.run, S.run, E.ev, Es.ev, E.evT, Eo.ev, I.ev, L.ev, r1, r2, s1, c6, c7, binD, cmpD, pdT, D.pd, eqR, PyData.canLay0, PyData.depth, PyData.eqv, hr, new, e1, hs0, fits1, rd, tl, ← hc, mp, cutD, k1, k2, k3, intO, lenD, tA, tB, tG, l1, l2, l3, l4, m0D, rev_txs, txs_append, - List.reverse_append]
    · intro d; rw [List.mem_reverse]; exact m1 d
    · simp only [List.length_reverse, List.length_append]; omega
  · refine ⟨A ++ B ++ G, c, _, m1, ?_, ⟨.lst (txs A), .lst (txs B), .lst (txs (A ++ B)), .lst (txs G), rfl⟩, ?_⟩
    rotate_left 1
    · simp [takeS, dropS, d_law, Ss.run, S.run, E.ev, Es.ev, E.evT, Eo.ev, I.ev, L.ev, r1, r2, s1, c6, c7, binD, cmpD, pdT, D.pd, eqR, PyData.canLay0, PyData.depth, PyData.eqv, hr, new, e1, hs0, fits1, rd, tl, ← hc, mp, cutD, k1, k2, k3, intO, lenD, tA, tB, tG, l1, l2, l3, l4, m0D, rev_txs, txs_append]
    · simp only [List.length_append]; omega
end K21

set_option Elab.async false
set_option linter.all false
set_option maxRecDepth 100000
set_option maxHeartbeats 16000000
namespace K21
open PySem L2 PI
theorem law_3 (cl : Nat → List D → Hh → Res D) (ns : List Int) (C : Calls cl ns) (s : Int) (hs0 : 0 ≤ s) (hs1 : s ≤ 190) (ds hd : List Str) (hl : ds.length = s.toNat) (dn : ds.Nodup) (dok : ∀ x ∈ ds, PyData.strOk x = true)
    (c R O' : Int) (b1 : 0 ≤ R ∧ R < 2 ^ s.toNat) (b2 : 0 ≤ O' ∧ O' < 2 ^ s.toNat) (hhd : ∀ d, d ∈ hd ↔ d ∈ toldL R ds) (hdl : hd.length ≤ 1000) (o1 o2 o3 o4 : O) :
    ∃ h', Ss.run cl (dropS 9 d_law.body)
      [some (scr ns), some (.int s), some (.loc 0), some (.int R), some (.int O'), some (.loc 1), some (.int c), some (.loc 6), none, none, none, none, none]
      [.lst (txs ds), .lst (txs (toldL R ds)), o1, o2, o3, o4, .lst (txs hd)] = .rt (.bl true) h' := by
  have p200 : (0 : Int) < 2 ^ 200 := KB.pw_pos 200
  have hp200 : (2 : Int) ^ s.toNat ≤ 2 ^ 200 := by
    have := Nat.pow_le_pow_right (show 0 < 2 by decide) (show s.toNat ≤ 200 by omega)
    exact_mod_cast this
  have f1 : ∀ h, _ := fun h => C.ro 2 (2 ^ 200) h (by decide) p200
  have f2 : ∀ h, _ := fun h => C.ro 4 (2 ^ 200) h (by decide) p200
  have b3 := row_range ns 2 p200
  generalize rowv ns 2 (2 ^ 200) = Fa at *
  generalize rowv ns 4 (2 ^ 200) = Fb at *
  have q1 := fun h => C.pa R O' h b1.1 (by omega)
  have q2 := fun h => C.pa Fa Fb h b3.1 b3.2
  have q3 := fun h => C.pa O' Fa h b2.1 (by omega)
  have w1 := C.wh
  have vk : ∀ (k : Nat) d, ds[k]? = some d → valD (kvsOf 0 ds) (.inr d) = some (.int (2 ^ k)) := fun k d e => by
    have := val_kvs ds 0 k d dn e
    rwa [Nat.zero_add] at this
  have smok : ∀ x ∈ toldL R ds, PyData.strOk x = true := told_ok dok
  have sm2ok : ∀ x ∈ toldL O' ds, PyData.strOk x = true := told_ok dok
  have hdok : ∀ x ∈ hd, PyData.strOk x = true := fun x hx => smok x ((hhd x).mp hx)
  have bo : ∀ (k : Nat) d, ds[k]? = some d → bitOf ds d = 2 ^ k := fun k d e => by
    unfold bitOf
    obtain ⟨hk, e'⟩ := List.getElem?_eq_some_iff.mp e
    rw [← e', dn.idxOf_getElem k hk]
  have hv : ∀ y ∈ hd, valD (kvsOf 0 ds) (.inr y) = some (.int (bitOf ds y)) := fun y hy => by
    obtain ⟨k, e, _⟩ := mem_told R ds y ((hhd y).mp hy)
    rw [vk k y e, bo k y e]
  have fr := fold_row (bitOf ds) b1.1 (by rw [hl]; exact b1.2) bo hhd
  let H9 : Hh := [.lst (txs ds), .lst (txs (toldL R ds)), o1, o2, o3, o4, .lst (txs hd), .lst (txs hd), .lst (txs ds)]
  have rb := C.rb 6 0 hd ds (bitOf ds) H9 rfl rfl (by omega) dn hv
  rw [fr] at rb
  have t1 := C.tl R 0 ds (H9 ++ [.dK (kvsOf 0 ds)]) rfl (by omega)
  have tl := told_len R ds
  let H11 : Hh := [.lst (txs ds), .lst (txs (toldL R ds)), o1, o2, o3, o4, .lst (txs hd), .lst (txs hd), .lst (txs ds), .dK (kvsOf 0 ds), .lst (txs (toldL R ds ++ [("q" : Str)]))]
  have t2 := C.tl O' 0 ds H11 rfl (by omega)
  have t3 := C.so O' 0 ds (H11 ++ [.lst (txs (toldL O' ds))]) rfl (by omega)
  have t4 := C.tl R 0 ds (H11 ++ [.lst (txs (toldL O' ds)), .lst (txs (toldL O' ds))]) rfl (by omega)
  simp only [H9, H11, List.cons_append, List.nil_append, List.length_cons, List.length_nil, Nat.reduceAdd] at rb t1 t2 t3 t4
  have cd := can_txs ds dok
  have ch := can_txs hd hdok
  have c1 := can_txs _ smok
  have c2 := can_txs _ sm2ok
  have ed := eq_txs ds dok
  have eh := eq_txs hd hdok
  have e1 := eq_txs _ smok
  have e2 := eq_txs _ sm2ok
  have ap : ∀ xs : List Str, txs xs ++ [D.str "q"] = txs (xs ++ [("q" : Str)]) := fun xs => by simp [txs]
  have tq : (toldL R ds).length < 1000000 := by omega
  clear vk hv fr bo smok sm2ok hdok
  generalize toldL R ds = sm at *
  generalize toldL O' ds = sm2 at *
  have z200 : (2 : Int) ^ 200 = 1606938044258990275541962092341162602522202993782792835301376 := by decide
  simp only [z200] at f1 f2
  simp only [scr] at *
  simp [dropS, d_law, Ss.run, S.run, E.ev, Es.ev, E.evT, Es.evAnd, Es.evOr, tru, binD, unD, cmpD, pdT, D.pd, eqR, PyData.canLay0, PyData.depth, PyData.eqv, new, fits1, rd, seqOf, isI, onL, m1D, pds_txs, dep_txs, cd, ch, c1, c2, ed, eh, e1, e2, rb, t1, t2, t3, t4, f1, f2, q1, q2, q3, w1, ap, tq]
theorem r_law (cl : Nat → List D → Hh → Res D) (ns : List Int) (C : Calls cl ns) : ∃ h', d_law.run cl [scr ns] [] = .ok (.bl true) h' := by
  obtain ⟨s, hs0, hs1, hsz⟩ : ∃ s : Int, 0 ≤ s ∧ s ≤ 190 ∧ s = (if cellv ns 0 / 61 % 4 = 1 then cellv ns 0 / 244 % 191 else cellv ns 0 % 61) := by
    refine ⟨_, ?_, ?_, rfl⟩
    · split <;> omega
    · split <;> omega
  have a1 := law_1 cl ns C s hs0 hs1 hsz
  have dl : (dsOf s.toNat (cellv ns 1)).length = s.toNat := ds_len _ _
  have dn := ds_nodup (n := s.toNat) (cellv ns 1) (by omega)
  have dok := ds_ok (n := s.toNat) (cellv ns 1) (by omega)
  obtain ⟨hd, c, h', m, l, ⟨o1, o2, o3, o4, rfl⟩, a2⟩ := law_2 cl ns C s hs0 hs1 (dsOf s.toNat (cellv ns 1)) dl
  have pp : (0 : Int) < 2 ^ s.toNat := KB.pw_pos _
  obtain ⟨h', a3⟩ := law_3 cl ns C s hs0 hs1 (dsOf s.toNat (cellv ns 1)) hd dl dn dok c _ _ (row_range ns 2 pp) (row_range ns 4 pp) m l o1 o2 o3 o4
  refine ⟨h', ?_⟩
  show outR (Ss.run cl d_law.body [some (scr ns), none, none, none, none, none, none, none, none, none, none, none, none] []) = _
  rw [run_at cl 3, a1, seqS_nx, run_at cl 6, a2, seqS_nx]
  show outR (Ss.run cl (dropS 9 d_law.body) _ _) = _
  rw [a3]
  rfl
end K21

set_option Elab.async false
set_option linter.all false
set_option maxRecDepth 100000
set_option maxHeartbeats 16000000
namespace K21
open PySem L2 PI
theorem i_cell (k : Nat) (ns : List Int) (i : Int) (h : Hh) (hi : 0 ≤ i) : callI defs (k + 1) 4 [scr ns, .int i] h = .ok (.int (cellv ns i)) h := (callI_succ (d := d_law_cell) rfl rfl).trans (r_cell _ h ns i hi)
theorem i_has (k : Nat) (x : Int) (j : Nat) (h : Hh) : callI defs (k + 1) 8 [.int x, .int (j : Nat)] h = .ok (.bl (KB.tb x j)) h := (callI_succ (d := d_law_has) rfl rfl).trans (r_has _ h x j)
theorem i_whole (k : Nat) (i : Int) (h : Hh) : callI defs (k + 1) 5 [.int i] h = .ok (.bl true) h := (callI_succ (d := d_law_whole) rfl rfl).trans (r_whole _ h i)
theorem i_less (k : Nat) (x y : Int) (h : Hh) : callI defs (k + 1) 3 [.int x, .int y] h = .ok (.int (x - Builtin.bitAnd x y)) h := (callI_succ (d := d_less) rfl rfl).trans (r_less _ h x y)
theorem i_lawless (k : Nat) (A B : Int) (h : Hh) (h0 : 0 ≤ A) (h1 : A < 2 ^ 200) : callI defs (k + 2) 10 [.int A, .int B] h = .ok (.int (A - Builtin.bitAnd A B)) h := (callI_succ (d := d_law_less) rfl rfl).trans (r_lawless _ h A B h0 h1 fun x j h => i_has k x j h)
theorem calls (ns : List Int) (hb : ∀ n ∈ ns, fits n = true) : Calls (callI defs 5) ns where
  ce i h hi := i_cell 4 ns i h hi
  na k c h hk := (callI_succ (d := d_law_name) rfl rfl).trans (r_name _ h k hk c)
  ro i m h hi hm := (callI_succ (d := d_law_row) rfl rfl).trans (r_row _ h ns i m (fun i hi => i_cell 3 ns i h hi) hi hm hb)
  so R nd ds h e hl := (callI_succ (d := d_law_some) rfl rfl).trans (r_some _ h nd R ds e hl fun k => i_has 3 R k h)
  tl R nd ds h e hl := (callI_succ (d := d_told) rfl rfl).trans (r_told _ h nd R ds e hl)
  rb nm nd xs ds f h em ed hl hn hf := (callI_succ (d := d_row_by) rfl rfl).trans (r_row_by _ h nm nd xs ds f em ((callI_succ (d := d_bits_by_deed) rfl rfl).trans (r_bits _ h nd ds ed hl hn)) hf)
  wh i h := i_whole 4 i h
  pa A B h h0 h1 := (callI_succ (d := d_law_parted) rfl rfl).trans (r_parted _ h A B (i_less 3 A B h) (fun i => i_whole 3 i h) (i_lawless 2 A B h h0 h1))
theorem law_true (ns : List Int) (hb : ∀ n ∈ ns, fits n = true) : ∃ h', callI defs 6 12 [.fl (ns.map .int)] [] = .ok (.bl true) h' := by
  obtain ⟨h', e⟩ := r_law (callI defs 5) ns (calls ns hb)
  exact ⟨h', (callI_succ (d := d_law) rfl rfl).trans e⟩
end K21

set_option Elab.async false
set_option linter.all false
set_option maxRecDepth 100000
set_option maxHeartbeats 4000000
/-! ### the text -/
namespace K21
open PySem L2 PI
def top (i : Nat) : Stmt := PySem.Challenge.pw_deedwright_k21_rows_of_deeds.main.body.getD i (.Pass ⟨0, 0, 0, 0⟩)
theorem o_bits_by_deed : DefOk (top 1) d_bits_by_deed (defs.map (·.name)) := ⟨rfl, ⟨rfl, rfl, rfl, by decide +kernel, rfl, by decide +kernel, by decide +kernel⟩, by decide +kernel, by decide +kernel, fun _ _ _ _ _ _ us hl => match us, hl with | [_], _ => rfl⟩
theorem o_row_by : DefOk (top 2) d_row_by (defs.map (·.name)) := ⟨rfl, ⟨rfl, rfl, rfl, by decide +kernel, rfl, by decide +kernel, by decide +kernel⟩, by decide +kernel, by decide +kernel, fun _ _ _ _ _ _ us hl => match us, hl with | [_, _], _ => rfl⟩
theorem o_told : DefOk (top 3) d_told (defs.map (·.name)) := ⟨rfl, ⟨rfl, rfl, rfl, by decide +kernel, rfl, by decide +kernel, by decide +kernel⟩, by decide +kernel, by decide +kernel, fun _ _ _ _ _ _ us hl => match us, hl with | [_, _], _ => rfl⟩
theorem o_less : DefOk (top 4) d_less (defs.map (·.name)) := ⟨rfl, ⟨rfl, rfl, rfl, by decide +kernel, rfl, by decide +kernel, by decide +kernel⟩, by decide +kernel, by decide +kernel, fun _ _ _ _ _ _ us hl => match us, hl with | [_, _], _ => rfl⟩
theorem o_law_cell : DefOk (top 6) d_law_cell (defs.map (·.name)) := ⟨rfl, ⟨rfl, rfl, rfl, by decide +kernel, rfl, by decide +kernel, by decide +kernel⟩, by decide +kernel, by decide +kernel, fun _ _ _ _ _ _ us hl => match us, hl with | [_, _], _ => rfl⟩
theorem o_law_whole : DefOk (top 7) d_law_whole (defs.map (·.name)) := ⟨rfl, ⟨rfl, rfl, rfl, by decide +kernel, rfl, by decide +kernel, by decide +kernel⟩, by decide +kernel, by decide +kernel, fun _ _ _ _ _ _ us hl => match us, hl with | [_], _ => rfl⟩
theorem o_law_name : DefOk (top 8) d_law_name (defs.map (·.name)) := ⟨rfl, ⟨rfl, rfl, rfl, by decide +kernel, rfl, by decide +kernel, by decide +kernel⟩, by decide +kernel, by decide +kernel, fun _ _ _ _ _ _ us hl => match us, hl with | [_, _], _ => rfl⟩
theorem o_law_row : DefOk (top 9) d_law_row (defs.map (·.name)) := ⟨rfl, ⟨rfl, rfl, rfl, by decide +kernel, rfl, by decide +kernel, by decide +kernel⟩, by decide +kernel, by decide +kernel, fun _ _ _ _ _ _ us hl => match us, hl with | [_, _, _], _ => rfl⟩
theorem o_law_has : DefOk (top 10) d_law_has (defs.map (·.name)) := ⟨rfl, ⟨rfl, rfl, rfl, by decide +kernel, rfl, by decide +kernel, by decide +kernel⟩, by decide +kernel, by decide +kernel, fun _ _ _ _ _ _ us hl => match us, hl with | [_, _], _ => rfl⟩
theorem o_law_some : DefOk (top 11) d_law_some (defs.map (·.name)) := ⟨rfl, ⟨rfl, rfl, rfl, by decide +kernel, rfl, by decide +kernel, by decide +kernel⟩, by decide +kernel, by decide +kernel, fun _ _ _ _ _ _ us hl => match us, hl with | [_, _], _ => rfl⟩
theorem o_law_less : DefOk (top 12) d_law_less (defs.map (·.name)) := ⟨rfl, ⟨rfl, rfl, rfl, by decide +kernel, rfl, by decide +kernel, by decide +kernel⟩, by decide +kernel, by decide +kernel, fun _ _ _ _ _ _ us hl => match us, hl with | [_, _], _ => rfl⟩
theorem o_law_parted : DefOk (top 13) d_law_parted (defs.map (·.name)) := ⟨rfl, ⟨rfl, rfl, rfl, by decide +kernel, rfl, by decide +kernel, by decide +kernel⟩, by decide +kernel, by decide +kernel, fun _ _ _ _ _ _ us hl => match us, hl with | [_, _], _ => rfl⟩
theorem o_law : DefOk (top 14) d_law (defs.map (·.name)) := ⟨rfl, ⟨rfl, rfl, rfl, by decide +kernel, rfl, by decide +kernel, by decide +kernel⟩, by decide +kernel, by decide +kernel, fun _ _ _ _ _ _ us hl => match us, hl with | [_], _ => rfl⟩
theorem all_mk {l : PySem.W.OpenLaw} {w : World} {K : PySem.W.Frag} {h : Heap} {mg : Str → Option Value} {fa f0 f1 f2 f3 f4 f5 f6 f7 f8 f9 f10 f11 f12 : Addr} (X : K.In h) (G : h.Ns mainGlobals mg) (hfa : mg "law" = some (.ref fa))
    {od0 an0 : Option Addr} {sl0 : Array (Option Value)} {oc0 kV0 dc0 pm0 cd0 ct0 : Value}
    {od1 an1 : Option Addr} {sl1 : Array (Option Value)} {oc1 kV1 dc1 pm1 cd1 ct1 : Value}
    {od2 an2 : Option Addr} {sl2 : Array (Option Value)} {oc2 kV2 dc2 pm2 cd2 ct2 : Value}
    {od3 an3 : Option Addr} {sl3 : Array (Option Value)} {oc3 kV3 dc3 pm3 cd3 ct3 : Value}
    {od4 an4 : Option Addr} {sl4 : Array (Option Value)} {oc4 kV4 dc4 pm4 cd4 ct4 : Value}
    {od5 an5 : Option Addr} {sl5 : Array (Option Value)} {oc5 kV5 dc5 pm5 cd5 ct5 : Value}
    {od6 an6 : Option Addr} {sl6 : Array (Option Value)} {oc6 kV6 dc6 pm6 cd6 ct6 : Value}
    {od7 an7 : Option Addr} {sl7 : Array (Option Value)} {oc7 kV7 dc7 pm7 cd7 ct7 : Value}
    {od8 an8 : Option Addr} {sl8 : Array (Option Value)} {oc8 kV8 dc8 pm8 cd8 ct8 : Value}
    {od9 an9 : Option Addr} {sl9 : Array (Option Value)} {oc9 kV9 dc9 pm9 cd9 ct9 : Value}
    {od10 an10 : Option Addr} {sl10 : Array (Option Value)} {oc10 kV10 dc10 pm10 cd10 ct10 : Value}
    {od11 an11 : Option Addr} {sl11 : Array (Option Value)} {oc11 kV11 dc11 pm11 cd11 ct11 : Value}
    {od12 an12 : Option Addr} {sl12 : Array (Option Value)} {oc12 kV12 dc12 pm12 cd12 ct12 : Value}
    (a0 : PySem.W.nsIn K mainGlobals "bits_by_deed" = some (some (.ref f0))) (l0 : K.lookup f0 = some ⟨oc0, od0, .func (PySem.W.fnOf "bits_by_deed" "bits_by_deed" (defArgs (top 1)) (defBody (top 1)) (defScope (top 1)) .none kV0 dc0 pm0 an0 cd0 ct0), sl0⟩) (c0 : PySem.W.codeIn K cd0 "bits_by_deed" = true) (k0 : PySem.W.keepIn K (.ref f0) = true)
    (a1 : PySem.W.nsIn K mainGlobals "row_by" = some (some (.ref f1))) (l1 : K.lookup f1 = some ⟨oc1, od1, .func (PySem.W.fnOf "row_by" "row_by" (defArgs (top 2)) (defBody (top 2)) (defScope (top 2)) .none kV1 dc1 pm1 an1 cd1 ct1), sl1⟩) (c1 : PySem.W.codeIn K cd1 "row_by" = true) (k1 : PySem.W.keepIn K (.ref f1) = true)
    (a2 : PySem.W.nsIn K mainGlobals "told" = some (some (.ref f2))) (l2 : K.lookup f2 = some ⟨oc2, od2, .func (PySem.W.fnOf "told" "told" (defArgs (top 3)) (defBody (top 3)) (defScope (top 3)) .none kV2 dc2 pm2 an2 cd2 ct2), sl2⟩) (c2 : PySem.W.codeIn K cd2 "told" = true) (k2 : PySem.W.keepIn K (.ref f2) = true)
    (a3 : PySem.W.nsIn K mainGlobals "less" = some (some (.ref f3))) (l3 : K.lookup f3 = some ⟨oc3, od3, .func (PySem.W.fnOf "less" "less" (defArgs (top 4)) (defBody (top 4)) (defScope (top 4)) .none kV3 dc3 pm3 an3 cd3 ct3), sl3⟩) (c3 : PySem.W.codeIn K cd3 "less" = true) (k3 : PySem.W.keepIn K (.ref f3) = true)
    (a4 : PySem.W.nsIn K mainGlobals "_law_cell" = some (some (.ref f4))) (l4 : K.lookup f4 = some ⟨oc4, od4, .func (PySem.W.fnOf "_law_cell" "_law_cell" (defArgs (top 6)) (defBody (top 6)) (defScope (top 6)) .none kV4 dc4 pm4 an4 cd4 ct4), sl4⟩) (c4 : PySem.W.codeIn K cd4 "_law_cell" = true) (k4 : PySem.W.keepIn K (.ref f4) = true)
    (a5 : PySem.W.nsIn K mainGlobals "_law_whole" = some (some (.ref f5))) (l5 : K.lookup f5 = some ⟨oc5, od5, .func (PySem.W.fnOf "_law_whole" "_law_whole" (defArgs (top 7)) (defBody (top 7)) (defScope (top 7)) .none kV5 dc5 pm5 an5 cd5 ct5), sl5⟩) (c5 : PySem.W.codeIn K cd5 "_law_whole" = true) (k5 : PySem.W.keepIn K (.ref f5) = true)
    (a6 : PySem.W.nsIn K mainGlobals "_law_name" = some (some (.ref f6))) (l6 : K.lookup f6 = some ⟨oc6, od6, .func (PySem.W.fnOf "_law_name" "_law_name" (defArgs (top 8)) (defBody (top 8)) (defScope (top 8)) .none kV6 dc6 pm6 an6 cd6 ct6), sl6⟩) (c6 : PySem.W.codeIn K cd6 "_law_name" = true) (k6 : PySem.W.keepIn K (.ref f6) = true)
    (a7 : PySem.W.nsIn K mainGlobals "_law_row" = some (some (.ref f7))) (l7 : K.lookup f7 = some ⟨oc7, od7, .func (PySem.W.fnOf "_law_row" "_law_row" (defArgs (top 9)) (defBody (top 9)) (defScope (top 9)) .none kV7 dc7 pm7 an7 cd7 ct7), sl7⟩) (c7 : PySem.W.codeIn K cd7 "_law_row" = true) (k7 : PySem.W.keepIn K (.ref f7) = true)
    (a8 : PySem.W.nsIn K mainGlobals "_law_has" = some (some (.ref f8))) (l8 : K.lookup f8 = some ⟨oc8, od8, .func (PySem.W.fnOf "_law_has" "_law_has" (defArgs (top 10)) (defBody (top 10)) (defScope (top 10)) .none kV8 dc8 pm8 an8 cd8 ct8), sl8⟩) (c8 : PySem.W.codeIn K cd8 "_law_has" = true) (k8 : PySem.W.keepIn K (.ref f8) = true)
    (a9 : PySem.W.nsIn K mainGlobals "_law_some" = some (some (.ref f9))) (l9 : K.lookup f9 = some ⟨oc9, od9, .func (PySem.W.fnOf "_law_some" "_law_some" (defArgs (top 11)) (defBody (top 11)) (defScope (top 11)) .none kV9 dc9 pm9 an9 cd9 ct9), sl9⟩) (c9 : PySem.W.codeIn K cd9 "_law_some" = true) (k9 : PySem.W.keepIn K (.ref f9) = true)
    (a10 : PySem.W.nsIn K mainGlobals "_law_less" = some (some (.ref f10))) (l10 : K.lookup f10 = some ⟨oc10, od10, .func (PySem.W.fnOf "_law_less" "_law_less" (defArgs (top 12)) (defBody (top 12)) (defScope (top 12)) .none kV10 dc10 pm10 an10 cd10 ct10), sl10⟩) (c10 : PySem.W.codeIn K cd10 "_law_less" = true) (k10 : PySem.W.keepIn K (.ref f10) = true)
    (a11 : PySem.W.nsIn K mainGlobals "_law_parted" = some (some (.ref f11))) (l11 : K.lookup f11 = some ⟨oc11, od11, .func (PySem.W.fnOf "_law_parted" "_law_parted" (defArgs (top 13)) (defBody (top 13)) (defScope (top 13)) .none kV11 dc11 pm11 an11 cd11 ct11), sl11⟩) (c11 : PySem.W.codeIn K cd11 "_law_parted" = true) (k11 : PySem.W.keepIn K (.ref f11) = true)
    (a12 : PySem.W.nsIn K mainGlobals "law" = some (some (.ref f12))) (l12 : K.lookup f12 = some ⟨oc12, od12, .func (PySem.W.fnOf "law" "law" (defArgs (top 14)) (defBody (top 14)) (defScope (top 14)) .none kV12 dc12 pm12 an12 cd12 ct12), sl12⟩) (c12 : PySem.W.codeIn K cd12 "law" = true) (k12 : PySem.W.keepIn K (.ref f12) = true)
    (z0 : PySem.W.nsIn K mainGlobals "len" = some none)
    (z1 : PySem.W.nsIn K mainGlobals "isinstance" = some none)
    (z2 : PySem.W.nsIn K mainGlobals "int" = some none)
    (z3 : PySem.W.nsIn K mainGlobals "bool" = some none)
    (z4 : PySem.W.nsIn K mainGlobals "str" = some none)
    (z5 : PySem.W.nsIn K mainGlobals "tuple" = some none)
    (z6 : PySem.W.nsIn K mainGlobals "list" = some none)
    (z7 : PySem.W.nsIn K mainGlobals "range" = some none)
    (z8 : PySem.W.nsIn K mainGlobals "max" = some none)
    : ∃ fd : FuncData, (∀ (s : Shared) (v : Value), BindsTo s fd ⟨[v], []⟩ [("_law_script", v)]) ∧ ∀ base : Heap, K.In base → base.Ns mainGlobals mg → FnOk l.prog w K mg base (CXs l.prog w) 6 fa fd ["_law_script"] (spLaw K (callI defs 6 12)) := by
  have e := hfa.symm.trans (PySem.W.mg_of X G a12)
  cases e
  have T : Tab K mg defs := by
    refine ⟨fun x hx => ?_, fun i d hd => ?_⟩
    · simp only [bnames, List.mem_cons, List.not_mem_nil, or_false] at hx
      rcases hx with rfl | rfl | rfl | rfl | rfl | rfl | rfl | rfl | rfl
      · exact PySem.W.mg_none_of X G z0
      · exact PySem.W.mg_none_of X G z1
      · exact PySem.W.mg_none_of X G z2
      · exact PySem.W.mg_none_of X G z3
      · exact PySem.W.mg_none_of X G z4
      · exact PySem.W.mg_none_of X G z5
      · exact PySem.W.mg_none_of X G z6
      · exact PySem.W.mg_none_of X G z7
      · exact PySem.W.mg_none_of X G z8
    · match i, hd with
      | 0, hd => cases hd; exact ⟨by decide, _, _, _, PySem.W.mg_of X G a0, fun_mk (st := top 1) l0 c0 k0, o_bits_by_deed⟩
      | 1, hd => cases hd; exact ⟨by decide, _, _, _, PySem.W.mg_of X G a1, fun_mk (st := top 2) l1 c1 k1, o_row_by⟩
      | 2, hd => cases hd; exact ⟨by decide, _, _, _, PySem.W.mg_of X G a2, fun_mk (st := top 3) l2 c2 k2, o_told⟩
      | 3, hd => cases hd; exact ⟨by decide, _, _, _, PySem.W.mg_of X G a3, fun_mk (st := top 4) l3 c3 k3, o_less⟩
      | 4, hd => cases hd; exact ⟨by decide, _, _, _, PySem.W.mg_of X G a4, fun_mk (st := top 6) l4 c4 k4, o_law_cell⟩
      | 5, hd => cases hd; exact ⟨by decide, _, _, _, PySem.W.mg_of X G a5, fun_mk (st := top 7) l5 c5 k5, o_law_whole⟩
      | 6, hd => cases hd; exact ⟨by decide, _, _, _, PySem.W.mg_of X G a6, fun_mk (st := top 8) l6 c6 k6, o_law_name⟩
      | 7, hd => cases hd; exact ⟨by decide, _, _, _, PySem.W.mg_of X G a7, fun_mk (st := top 9) l7 c7 k7, o_law_row⟩
      | 8, hd => cases hd; exact ⟨by decide, _, _, _, PySem.W.mg_of X G a8, fun_mk (st := top 10) l8 c8 k8, o_law_has⟩
      | 9, hd => cases hd; exact ⟨by decide, _, _, _, PySem.W.mg_of X G a9, fun_mk (st := top 11) l9 c9 k9, o_law_some⟩
      | 10, hd => cases hd; exact ⟨by decide, _, _, _, PySem.W.mg_of X G a10, fun_mk (st := top 12) l10 c10 k10, o_law_less⟩
      | 11, hd => cases hd; exact ⟨by decide, _, _, _, PySem.W.mg_of X G a11, fun_mk (st := top 13) l11 c11 k11, o_law_parted⟩
      | 12, hd => cases hd; exact ⟨by decide, _, _, _, PySem.W.mg_of X G a12, fun_mk (st := top 14) l12 c12 k12, o_law⟩
      | n + 13, hd => exact absurd hd (by simp [defs])
  refine ⟨PySem.W.fnOf "law" "law" (defArgs (top 14)) (defBody (top 14)) (defScope (top 14)) .none kV12 dc12 pm12 an12 cd12 ct12, fun s v => .of_eq rfl, fun base _ _ => ?_⟩
  exact all_fn T 6 12 d_law (top 14) _ _ rfl (PySem.W.mg_of X G a12) (fun_mk (st := top 14) l12 c12 k12) o_law
end K21
open PySem PySem.W
set_option maxRecDepth 100000 in
set_option maxHeartbeats 0 in
theorem PySem.Challenge.cw_deedwright_k21_rows_of_deeds_holds : PySem.Challenge.rw_deedwright_k21_rows_of_deeds.Holds := by
  w_on; o_law; k_head; (case hw => w_witness2)
  k_fill
  refine PI.walk_ofB (l := PySem.Challenge.rw_deedwright_k21_rows_of_deeds) (k := 6) (c := PI.callI K21.defs 6 12) (x := "_law_script") rfl rfl ⟨rfl, by decide, by decide⟩ (fun w h Y => PySem.W.kIn_of Y) ?F ?S
  case F =>
    intro w mg fa h KX G hmg
    refine' K21.all_mk KX G hmg ?a0 ?l0 ?c0 ?k0 ?a1 ?l1 ?c1 ?k1 ?a2 ?l2 ?c2 ?k2 ?a3 ?l3 ?c3 ?k3 ?a4 ?l4 ?c4 ?k4 ?a5 ?l5 ?c5 ?k5 ?a6 ?l6 ?c6 ?k6 ?a7 ?l7 ?c7 ?k7 ?a8 ?l8 ?c8 ?k8 ?a9 ?l9 ?c9 ?k9 ?a10 ?l10 ?c10 ?k10 ?a11 ?l11 ?c11 ?k11 ?a12 ?l12 ?c12 ?k12 ?z0 ?z1 ?z2 ?z3 ?z4 ?z5 ?z6 ?z7 ?z8
    (case a0 => k_is)
    (case l0 => k_is)
    (case c0 => k_is)
    (case k0 => k_is)
    (case a1 => k_is)
    (case l1 => k_is)
    (case c1 => k_is)
    (case k1 => k_is)
    (case a2 => k_is)
    (case l2 => k_is)
    (case c2 => k_is)
    (case k2 => k_is)
    (case a3 => k_is)
    (case l3 => k_is)
    (case c3 => k_is)
    (case k3 => k_is)
    (case a4 => k_is)
    (case l4 => k_is)
    (case c4 => k_is)
    (case k4 => k_is)
    (case a5 => k_is)
    (case l5 => k_is)
    (case c5 => k_is)
    (case k5 => k_is)
    (case a6 => k_is)
    (case l6 => k_is)
    (case c6 => k_is)
    (case k6 => k_is)
    (case a7 => k_is)
    (case l7 => k_is)
    (case c7 => k_is)
    (case k7 => k_is)
    (case a8 => k_is)
    (case l8 => k_is)
    (case c8 => k_is)
    (case k8 => k_is)
    (case a9 => k_is)
    (case l9 => k_is)
    (case c9 => k_is)
    (case k9 => k_is)
    (case a10 => k_is)
    (case l10 => k_is)
    (case c10 => k_is)
    (case k10 => k_is)
    (case a11 => k_is)
    (case l11 => k_is)
    (case c11 => k_is)
    (case k11 => k_is)
    (case a12 => k_is)
    (case l12 => k_is)
    (case c12 => k_is)
    (case k12 => k_is)
    (case z0 => k_is)
    (case z1 => k_is)
    (case z2 => k_is)
    (case z3 => k_is)
    (case z4 => k_is)
    (case z5 => k_is)
    (case z6 => k_is)
    (case z7 => k_is)
    (case z8 => k_is)
  case S =>
    exact fun ns _ hb => K21.law_true ns fun n hn => decide_eq_true (hb n hn)
#print axioms PySem.Challenge.cw_deedwright_k21_rows_of_deeds_holds

