import PyProof.Rows.All
import Wide.All
import OpenK.AllK
import Wide.FinOn
import PyProof.EqAt
import PyProof.EqKinds
import PyProof.TupleCall
import KE.BitLaws
import Open.SpecLaws
import KE.OsHead
import KE.OsGo
import PyProof.MaxThree
import PyVbdcas
import PySem.Challenge.RW_netduel_s01_answers
-- CHANGE: your row's module here, as the last of these rows
set_option Elab.async false
set_option linter.all false
set_option maxRecDepth 100000
/-! THE HAND LAYER, for ints, bools, texts, own classes, lists, tuples, dicts, comprehensions, walks over dicts, enumerate, zip, reversed, texts, calls, loops. Paste it whole ahead of your own text; what your proof does not reach may be deleted. -/
namespace L2
open PySem PySem.Spec PyProof.Rows

/-- a key: an int or a str -/
abbrev Key := Sum Int Str
def keyIs : Key → Value → Bool
  | .inl k, v => Value.isInt k v
  | .inr x, v => Value.isStrOf x v
def keyH (w : World) : Key → Int
  | .inl k => hashInt k
  | .inr x => hashStr w x
theorem keyIs_shape : ∀ {k : Key} {v : Value}, keyIs k v = true → (∃ i t, k = Sum.inl i ∧ v = Value.int i t) ∨ (∃ x t, k = Sum.inr x ∧ v = Value.str x t)
  | .inl i, v, h => by
    obtain ⟨t, e⟩ := Value.isInt_shape (k := i) (v := v) h
    exact .inl ⟨i, t, rfl, e⟩
  | .inr x, v, h => by
    obtain ⟨t, e⟩ := Value.isStrOf_shape (x := x) (v := v) h
    exact .inr ⟨x, t, rfl, e⟩
theorem keyIs_int (i : Int) (t : Tok) : keyIs (.inl i) (.int i t) = true := by simp [keyIs, Value.isInt]
theorem keyIs_str (x : Str) (t : Tok) : keyIs (.inr x) (.str x t) = true := by simp [keyIs, Value.isStrOf]
theorem key_ll (a b : Int) : decide ((Sum.inl a : Key) = Sum.inl b) = (a == b) := by
  by_cases e : a = b
  · subst e; simp
  · have h : ¬ (Sum.inl a : Key) = Sum.inl b := fun q => e (Sum.inl.inj q)
    rw [decide_eq_false h]
    exact (beq_eq_false_iff_ne.mpr e).symm
theorem key_rr (a b : Str) : decide ((Sum.inr a : Key) = Sum.inr b) = decide (a = b) := by
  by_cases e : a = b
  · subst e; simp
  · have h : ¬ (Sum.inr a : Key) = Sum.inr b := fun q => e (Sum.inr.inj q)
    rw [decide_eq_false h, decide_eq_false e]
theorem key_lr (a : Int) (b : Str) : decide ((Sum.inl a : Key) = Sum.inr b) = false := decide_eq_false (fun q => nomatch q)
theorem key_rl (a : Str) (b : Int) : decide ((Sum.inr a : Key) = Sum.inl b) = false := decide_eq_false (fun q => nomatch q)

def mixKind (prog : Program) (w : World) : PySem.KeyKind prog w Key where
  is := keyIs
  hash := keyH w
  inj := fun v a b ha hb => by
    rcases keyIs_shape ha with ⟨i, t, rfl, rfl⟩ | ⟨x, t, rfl, rfl⟩
    · rcases keyIs_shape hb with ⟨j, u, rfl, e⟩ | ⟨y, u, rfl, e⟩
      · injection e with e1 _; rw [e1]
      · exact nomatch e
    · rcases keyIs_shape hb with ⟨j, u, rfl, e⟩ | ⟨y, u, rfl, e⟩
      · exact nomatch e
      · injection e with e1 _; rw [e1]
  byValue := fun k v h => by
    rcases keyIs_shape h with ⟨i, t, rfl, rfl⟩ | ⟨x, t, rfl, rfl⟩ <;> rfl
  pyHash := fun hv h => by
    rcases keyIs_shape hv with ⟨i, t, rfl, rfl⟩ | ⟨x, t, rfl, rfl⟩
    · exact wpAny_pyHash_int h
    · exact wpAny_pyHash_str h
  eqBool := fun hu hv h => by
    rcases keyIs_shape hu with ⟨i, t, rfl, rfl⟩ | ⟨x, t, rfl, rfl⟩
    · rcases keyIs_shape hv with ⟨j, u, rfl, rfl⟩ | ⟨y, u, rfl, rfl⟩
      · rw [key_ll] at h; exact wpAny_eqBool_int h
      · rw [key_lr] at h; exact SeqAt.EqAt.int_str i t y u _ _ _ _ h
    · rcases keyIs_shape hv with ⟨j, u, rfl, rfl⟩ | ⟨y, u, rfl, rfl⟩
      · rw [key_rl] at h; exact SeqAt.EqAt.str_int x t j u _ _ _ _ h
      · rw [key_rr] at h; exact wpAny_eqBool_str h
  «strs» := fun k x t v h => by
    rcases keyIs_shape h with ⟨i, u, rfl, e⟩ | ⟨y, u, rfl, e⟩
    · exact nomatch e
    · injection e with e1 _
      subst e1
      cases v <;> rfl

theorem mixKind_int (prog : Program) (w : World) (i : Int) (t : Tok) : (mixKind prog w).is (.inl i) (.int i t) = true := keyIs_int i t
theorem mixKind_str (prog : Program) (w : World) (x : Str) (t : Tok) : (mixKind prog w).is (.inr x) (.str x t) = true := keyIs_str x t
end L2

namespace L2
open PySem PySem.Spec PyProof.Rows

/-- a value, without the heap -/
inductive V where
  | non | bl (b : Bool) | int (i : Int) | str (x : Str) | byt (b : Array UInt8) | flt (b : UInt64) | ref (a : Addr) | ty (n : String)
  deriving DecidableEq

def RelV : V → Value → Prop
  | .non, u => u = Value.none
  | .bl b, u => u = Value.bool b
  | .int i, u => ∃ t, u = Value.int i t
  | .str x, u => ∃ t, u = Value.str x t
  | .byt b, u => ∃ t, u = Value.bytes b t
  | .flt b, u => ∃ t, u = Value.float b t
  | .ref a, u => u = Value.ref a
  | .ty n, u => u = Value.type n

abbrev Vals : List V → List Value → Prop := Paired RelV
theorem Vals.length {xs : List V} {us : List Value} (r : Vals xs us) : xs.length = us.length := Paired.length r
theorem Vals.get : ∀ {xs : List V} {us : List Value} {i : Nat} {x : V}, Vals xs us → xs[i]? = some x → ∃ u, us[i]? = some u ∧ RelV x u
  | _, _, _, _, .nil, e => by simp at e
  | _, _, 0, _, .cons r _, e => by simp at e; subst e; exact ⟨_, rfl, r⟩
  | _, _, i + 1, x, .cons _ t, e => by
    obtain ⟨u, h1, h2⟩ := Vals.get (i := i) (x := x) t (by simpa using e)
    exact ⟨u, by simpa using h1, h2⟩
theorem Vals.set {x : V} {u : Value} (r : RelV x u) : ∀ {xs : List V} {us : List Value} (i : Nat), Vals xs us → Vals (xs.set i x) (us.set i u)
  | _, _, _, .nil => .nil
  | _, _, 0, .cons _ t => .cons r t
  | _, _, i + 1, .cons q t => .cons q (Vals.set r i t)
theorem Vals.append : ∀ {xs ys : List V} {us ws : List Value}, Vals xs us → Vals ys ws → Vals (xs ++ ys) (us ++ ws)
  | _, _, _, _, .nil, s => s
  | _, _, _, _, .cons r t, s => .cons r (Vals.append t s)
theorem Vals.take : ∀ {xs : List V} {us : List Value} (n : Nat), Vals xs us → Vals (xs.take n) (us.take n)
  | _, _, 0, _ => .nil
  | _, _, _ + 1, .nil => .nil
  | _, _, n + 1, .cons r t => .cons r (Vals.take n t)
theorem Vals.drop : ∀ {xs : List V} {us : List Value} (n : Nat), Vals xs us → Vals (xs.drop n) (us.drop n)
  | _, _, 0, r => r
  | _, _, _ + 1, .nil => .nil
  | _, _, n + 1, .cons _ t => Vals.drop n t

def RelO : Option V → Option Value → Prop
  | some v, some u => RelV v u
  | none, none => True
  | _, _ => False
def KV {κ : Type} : List (κ × V) → List (κ × Value) → Prop := Paired fun (p : κ × V) (q : κ × Value) => p.1 = q.1 ∧ RelV p.2 q.2

/-- a key of a dict (00_mix): an int or a text -/
def kV : Key → V
  | .inl i => .int i
  | .inr x => .str x

/-- what stands at a tracked address -/
inductive HO where
  /-- a list -/
  | lst (xs : List V)
  /-- a tuple (never changes) -/
  | tup (xs : List V)
  /-- a dict whose keys are ints and texts; one whose keys are tuples of ints and texts (the empty one is both) -/
  | dK (kvs : List (Key × V)) | dT (kvs : List (List Key × V))
  /-- a set of ints: its members, its size -/
  | set (S : Int → Bool) (n : Nat)
  /-- an instance of the class at C, its dict at dx, its attributes -/
  | ins (C dx : Addr) (fs : List (Str × V))
  /-- the dict of the instance at x -/
  | own (x : Addr)
  /-- the dict of an exception -/
  | xd (fs : List (Str × V))
  /-- a bound method, f of x -/
  | met (f x : Addr)
  /-- a range object lo, lo + 1, .. below hi -/
  | rng (lo hi : Int)
  /-- a thing that is known to the object (the script; a dict while a loop walks it): read, never written while it is so -/
  | frz (o : Obj) (u : HO)
  /-- a code object's table -/
  | tbl (ps : Array Value)
  /-- any other thing, by what is true of its one object (a def of one's own: SetO a S n := HO.ext fun h => ..) -/
  | ext (φ : Heap → Prop)

abbrev Hp := Addr → Option HO
def upd (H : Hp) (a : Addr) (o : HO) : Hp := fun b => if b = a then some o else H b
theorem upd_same {H : Hp} {a : Addr} {o : HO} : upd H a o a = some o := by unfold upd; rw [if_pos rfl]
theorem upd_ne {H : Hp} {a b : Addr} {o : HO} (h : b ≠ a) : upd H a o b = H b := by unfold upd; rw [if_neg h]
theorem upd_upd {H : Hp} {a : Addr} {o u : HO} : upd (upd H a o) a u = upd H a u := by
  funext b; unfold upd; split <;> rfl
/-- two objects of different content stand apart -/
theorem ne_of {H : Hp} {a b : Addr} {o u : HO} (h : H a = some o) (h' : H b = some u) (d : o ≠ u) : a ≠ b := by
  intro e; subst e; rw [h] at h'; exact d (Option.some.inj h')
theorem ne_of_none {H : Hp} {a b : Addr} {o : HO} (h : H a = some o) (h' : H b = none) : a ≠ b := by
  intro e; subst e; rw [h] at h'; cases h'

section
variable (P : Program) (w : World)
def ObjOk (H : Hp) (h : Heap) (a : Addr) : HO → Prop
  | .lst xs => xs.length ≤ sizeLine ∧ ∃ (its : List Value) (n : Nat), Vals xs its ∧ h.get? a = some { cls := .type "list", data := .seq its.toArray n }
  | .tup xs => xs.length ≤ sizeLine ∧ ∃ its : List Value, Vals xs its ∧ IsTup h a its.toArray
  | .dK kvs => kvs.length ≤ sizeLine ∧ (a == sysModules) = false ∧ ∃ vs, KV kvs vs ∧ h.DictOf (mixKind P w) a vs
  | .dT kvs => kvs.length ≤ sizeLine ∧ (a == sysModules) = false ∧ ∃ xs : List (List Key × Addr × Value),
      Paired (fun (p : List Key × V) (q : List Key × Addr × Value) => p.1 = q.1 ∧ H q.2.1 = some (.tup (p.1.map kV)) ∧ RelV p.2 q.2.2) kvs xs ∧
      ∃ o es ep, h.get? a = some o ∧ o.ExactDict ∧ o.data = .dict es ep ∧ es.toList = xs.map (entryOfKey (tupleKind (mixKind P w))) ∧ (xs.map (·.1)).Nodup
  | .set S n => h.SetOf (intKind P w) a S n
  | .ins C dx fs => H dx = some (.own a) ∧ fs.length ≤ 1000 ∧ dx ≠ a ∧ h.get? a = some (PySem.W.instObj C dx) ∧
      ∃ mA, h.Ns1 dx mA ∧ (∀ f, RelO (fs.lookup f) (mA f)) ∧ PySem.Within mA (fs.map (·.1))
  | .own _ => ∃ o, h.get? a = some o
  | .xd fs => ∃ mA, h.Ns1 a mA ∧ ∀ f, RelO (fs.lookup f) (mA f)
  | .rng lo hi => ∃ t u v, h.get? a = some { cls := .type "range", data := .fields #[.int lo t, .int hi u, .int 1 v] }
  | .frz o u => h.get? a = some o ∧ ObjOk H h a u
  | .tbl ps => h.get? a = some { cls := .none, data := .fields ps }
  | .met f x => h.get? a = some (PySem.W.methodObj (.ref f) (.ref x))
  | .ext φ => φ h ∧ (∃ o, h.get? a = some o) ∧ ∀ h1 h2 : Heap, φ h1 → (∀ o, h1.get? a = some o → h2.get? a = some o) → φ h2
/-- the abstract heap is held -/
def HOk (H : Hp) (h : Heap) : Prop := ∀ a o, H a = some o → ObjOk P w H h a o
end

section
variable {P : Program} {w : World} {H H' : Hp} {h h' : Heap} {a : Addr} {o : HO}
theorem ObjOk.lt (x : ObjOk P w H h a o) : a < h.objs.size := by
  cases o with
  | lst xs => obtain ⟨_, _, _, _, e⟩ := x; exact Heap.lt_size e
  | tup xs => obtain ⟨_, _, _, p⟩ := x; exact p.lt
  | dK kvs => obtain ⟨_, _, _, _, o, _, _, e, _⟩ := x; exact Heap.lt_size e
  | dT kvs => obtain ⟨_, _, _, _, o, _, _, e, _⟩ := x; exact Heap.lt_size e
  | set S n => obtain ⟨o, _, _, _, e, _⟩ := x; exact Heap.lt_size e
  | ins C dx fs => obtain ⟨_, _, _, e, _⟩ := x; exact Heap.lt_size e
  | own y => obtain ⟨_, e⟩ := x; exact Heap.lt_size e
  | xd fs => obtain ⟨_, ⟨_, _, _, e, _⟩, _⟩ := x; exact Heap.lt_size e
  | rng lo hi => obtain ⟨_, _, _, e⟩ := x; exact Heap.lt_size e
  | frz ob u => obtain ⟨e, _⟩ := x; exact Heap.lt_size e
  | tbl ps => exact Heap.lt_size (show h.get? a = some _ from x)
  | met f y => exact Heap.lt_size (show h.get? a = some _ from x)
  | ext φ => obtain ⟨_, ⟨_, e⟩, _⟩ := x; exact Heap.lt_size e
theorem Paired.mapP {α β : Type} {F G : α → β → Prop} : ∀ {l₁ : List α} {l₂ : List β}, Paired F l₁ l₂ → (∀ a b, F a b → G a b) → Paired G l₁ l₂
  | _, _, .nil, _ => .nil
  | _, _, .cons r t, f => .cons (f _ _ r) (Paired.mapP t f)
/-- what an object's description leans on: its own object, its own dict, the tuples -/
theorem ObjOk.stay (x : ObjOk P w H h a o) (k : ∀ b u, (b = a ∨ H b = some (.own a)) → h.get? b = some u → h'.get? b = some u)
    (ho : ∀ b, H b = some (.own a) → H' b = some (.own a)) (ht : ∀ b xs, H b = some (.tup xs) → H' b = some (.tup xs)) : ObjOk P w H' h' a o := by
  induction o with
  | lst xs => obtain ⟨z, its, n, r, e⟩ := x; exact ⟨z, its, n, r, k _ _ (.inl rfl) e⟩
  | tup xs => obtain ⟨z, its, r, ob, e, c⟩ := x; exact ⟨z, its, r, ob, k _ _ (.inl rfl) e, c⟩
  | dK kvs => obtain ⟨z, y, vs, r, ob, es, ep, e, c⟩ := x; exact ⟨z, y, vs, r, ob, es, ep, k _ _ (.inl rfl) e, c⟩
  | dT kvs =>
    obtain ⟨z, y, xs, r, ob, es, ep, e, c⟩ := x
    exact ⟨z, y, xs, Paired.mapP r fun p q z => ⟨z.1, ht _ _ z.2.1, z.2.2⟩, ob, es, ep, k _ _ (.inl rfl) e, c⟩
  | set S n => obtain ⟨ob, es, ep, t, e, c⟩ := x; exact ⟨ob, es, ep, t, k _ _ (.inl rfl) e, c⟩
  | ins C dx fs =>
    obtain ⟨d, z, ne, e, mA, ⟨od, es, ep, e2, c⟩, r⟩ := x
    exact ⟨ho _ d, z, ne, k _ _ (.inl rfl) e, mA, ⟨od, es, ep, k _ _ (.inr d) e2, c⟩, r⟩
  | own y => obtain ⟨ob, e⟩ := x; exact ⟨ob, k _ _ (.inl rfl) e⟩
  | xd fs => obtain ⟨mA, ⟨od, es, ep, e, c⟩, r⟩ := x; exact ⟨mA, ⟨od, es, ep, k _ _ (.inl rfl) e, c⟩, r⟩
  | rng lo hi => obtain ⟨t, u, v, e⟩ := x; exact ⟨t, u, v, k _ _ (.inl rfl) e⟩
  | frz ob u ih => obtain ⟨e, q⟩ := x; exact ⟨k _ _ (.inl rfl) e, ih q⟩
  | tbl ps =>
    have e : h.get? a = some { cls := .none, data := .fields ps } := x
    show h'.get? a = some { cls := .none, data := .fields ps }
    exact k a _ (.inl rfl) e
  | met f y =>
    have e : h.get? a = some (PySem.W.methodObj (.ref f) (.ref y)) := x
    show h'.get? a = some (PySem.W.methodObj (.ref f) (.ref y))
    exact k a _ (.inl rfl) e
  | ext φ => obtain ⟨p, ⟨o, e⟩, st⟩ := x; exact ⟨st _ _ p fun o q => k _ _ (.inl rfl) q, ⟨o, k _ _ (.inl rfl) e⟩, st⟩
theorem HOk.lt (x : HOk P w H h) (e : H a = some o) : a < h.objs.size := (x a o e).lt
theorem HOk.fresh (x : HOk P w H h) (e : h.objs.size ≤ a) : H a = none := by
  cases q : H a with
  | none => rfl
  | some u => exact absurd (Nat.lt_of_lt_of_le (x.lt q) e) (Nat.lt_irrefl _)
/-- every object of the heap is kept -/
theorem HOk.kept (x : HOk P w H h) (k : ∀ b u, h.get? b = some u → h'.get? b = some u) : HOk P w H h' := fun a o e =>
  (x a o e).stay (fun b u _ q => k b u q) (fun _ q => q) fun _ _ q => q
/-- a new object is laid and tracked -/
theorem HOk.laid (x : HOk P w H h) (k : ∀ b u, h.get? b = some u → h'.get? b = some u) (hp : h.objs.size ≤ a) (new : ObjOk P w (upd H a o) h' a o) : HOk P w (upd H a o) h' := fun b u e => by
  have hn := x.fresh hp
  by_cases hb : b = a
  · subst hb; rw [upd_same] at e; cases e; exact new
  · rw [upd_ne hb] at e
    exact (x b u e).stay (fun c v _ q => k c v q) (fun c q => by rw [upd_ne (ne_of_none q hn)]; exact q) fun c xs q => by rw [upd_ne (ne_of_none q hn)]; exact q
end

/-- what may be read as u: it is u, or a known u -/
def Rd (H : Hp) (a : Addr) (u : HO) : Prop := H a = some u ∨ ∃ o, H a = some (.frz o u)
theorem Rd.ok {P : Program} {w : World} {H : Hp} {h : Heap} {a : Addr} {u : HO} (r : Rd H a u) (x : HOk P w H h) : ObjOk P w H h a u := by
  rcases r with r | ⟨o, r⟩
  · exact x a u r
  · obtain ⟨_, q⟩ := x a _ r
    exact q
/-- what may be written -/
def Mut : Option HO → Prop
  | some (.lst _) => True
  | some (.dK _) => True
  | some (.dT _) => True
  | some (.set _ _) => True
  | some (.ins _ _ _) => True
  | some (.ext _) => True
  | _ => False
section
variable {P : Program} {w : World} {H : Hp} {h h' : Heap} {x e : Addr} {o' : HO}
/-- the object at e is changed: x itself, or the dict of the instance x -/
theorem HOk.write (ok : HOk P w H h) (mu : Mut (H x)) (he : e = x ∨ H e = some (.own x)) (k : ∀ b u, b ≠ e → h.get? b = some u → h'.get? b = some u) (heo : ∃ u, h'.get? e = some u)
    (new : ObjOk P w (upd H x o') h' x o') : HOk P w (upd H x o') h' := fun b u q => by
  have nown : ∀ c y, H c = some (.own y) → c ≠ x := fun c y r z => by subst z; rw [r] at mu; exact mu
  have ntup : ∀ c xs, H c = some (.tup xs) → c ≠ x := fun c xs r z => by subst z; rw [r] at mu; exact mu
  by_cases hb : b = x
  · subst hb; rw [upd_same] at q; cases q; exact new
  · rw [upd_ne hb] at q
    by_cases hbe : b = e
    · have q' : H b = some (.own x) := by
        rcases he with z | z
        · exact absurd (hbe.trans z) hb
        · rw [hbe]; exact z
      rw [q] at q'; cases q'
      obtain ⟨v, hv⟩ := heo
      exact ⟨v, by rw [hbe]; exact hv⟩
    · refine (ok b u q).stay (fun c v hc r => k c v ?_ r) (fun c r => by rw [upd_ne (nown c b r)]; exact r) fun c xs r => by rw [upd_ne (ntup c xs r)]; exact r
      rcases hc with rfl | hc
      · exact hbe
      · rintro rfl
        rcases he with z | z
        · exact nown c b hc z
        · rw [hc] at z; cases z; exact hb rfl
end

/-! ### kept unless tracked; of the frames at fs (the callers') the slots may change (an exception that passes writes there); of the records at ex (iterators) nothing is said -/
structure Un (fs ex : List Addr) (H H' : Hp) (h h' : Heap) : Prop where
  keep : ∀ b o, h.get? b = some o → H b = none → b ∉ fs → b ∉ ex → h'.get? b = some o
  slot : ∀ b o, h.get? b = some o → H b = none → b ∈ fs → b ∉ ex → ∃ sl, h'.get? b = some { o with slots := sl }
  free : ∀ b o, h.get? b = some o → H b = none → b ∉ ex → H' b = none
  there : ∀ b o, h.get? b = some o → b ∉ ex → ∃ o', h'.get? b = some o'
  tups : ∀ b xs, H b = some (.tup xs) → H' b = some (.tup xs)
  frzs : ∀ b o u, H b = some (.frz o u) → H' b = some (.frz o u)
  tbls : ∀ b ps, H b = some (.tbl ps) → ∃ more, H' b = some (.tbl (ps ++ more))
section
variable {fs fs' ex ex' : List Addr} {H H1 H2 : Hp} {h h1 h2 h' : Heap} {a x e : Addr} {o : HO}
theorem Un.any (u : Un fs ex H H1 h h1) {b : Addr} {ob : Obj} (q : h.get? b = some ob) (n : H b = none) (hx : b ∉ ex) : ∃ sl, h1.get? b = some { ob with slots := sl } := by
  by_cases hb : b ∈ fs
  · exact u.slot b ob q n hb hx
  · exact ⟨ob.slots, u.keep b ob q n hb hx⟩
theorem Un.kept (k : ∀ b u, h.get? b = some u → h'.get? b = some u) : Un fs ex H H h h' :=
  ⟨fun b ob q _ _ _ => k b ob q, fun b ob q _ _ _ => ⟨ob.slots, k b ob q⟩, fun _ _ _ n _ => n, fun b ob q _ => ⟨ob, k b ob q⟩, fun _ _ q => q, fun _ _ _ q => q, fun _ ps q => ⟨#[], by rw [q]; simp⟩⟩
theorem Un.refl : Un fs ex H H h h := Un.kept fun _ _ q => q
theorem Un.laid (k : ∀ b u, h.get? b = some u → h'.get? b = some u) (hp : h.objs.size ≤ a) (hn : H a = none) : Un fs ex H (upd H a o) h h' where
  keep := fun b u q _ _ _ => k b u q
  slot := fun b u q _ _ _ => ⟨u.slots, k b u q⟩
  free := fun b u q n _ => by rw [upd_ne (Nat.ne_of_lt (Nat.lt_of_lt_of_le (Heap.lt_size q) hp))]; exact n
  there := fun b u q _ => ⟨u, k b u q⟩
  tups := fun b xs q => by rw [upd_ne (ne_of_none q hn)]; exact q
  frzs := fun b u xs q => by rw [upd_ne (ne_of_none q hn)]; exact q
  tbls := fun b ps q => ⟨#[], by rw [upd_ne (ne_of_none q hn), q]; simp⟩
theorem Un.write (mu : Mut (H x)) (he : e = x ∨ H e = some (.own x)) (k : ∀ b u, b ≠ e → h.get? b = some u → h'.get? b = some u) (heo : ∃ u, h'.get? e = some u) : Un fs ex H (upd H x o) h h' := by
  have hx : ∀ b, H b = none → b ≠ x := fun b n z => by subst z; rw [n] at mu; exact mu
  have hb : ∀ b, H b = none → b ≠ e := fun b n z => by
    subst z
    rcases he with r | r
    · exact hx b n r
    · rw [n] at r; cases r
  have hm : ∀ b u, H b = some u → ¬ Mut (some u) → b ≠ x := fun b u q nm z => by subst z; rw [q] at mu; exact nm mu
  refine ⟨fun b u q n _ _ => k b u (hb b n) q, fun b u q n _ _ => ⟨u.slots, k b u (hb b n) q⟩, fun b u q n _ => by rw [upd_ne (hx b n)]; exact n, fun b u q _ => ?_,
    fun b xs q => by rw [upd_ne (hm b _ q fun z => z)]; exact q, fun b u xs q => by rw [upd_ne (hm b _ q fun z => z)]; exact q, fun b ps q => ⟨#[], by rw [upd_ne (hm b _ q fun z => z), q]; simp⟩⟩
  by_cases hbe : b = e
  · subst hbe; exact heo
  · exact ⟨u, k b u hbe q⟩
end

/-! ### the heap without what is tracked -/
def trk (h : Heap) (H : Hp) : List Addr := (List.range h.objs.size).filter fun a => (H a).isSome
def hidT (h : Heap) (H : Hp) : Heap := PySem.W.hideAll h (trk h H)
theorem hidT_size (h : Heap) (H : Hp) : (hidT h H).objs.size = h.objs.size := PySem.W.hideAll_size _ _
theorem hidT_get {h : Heap} {H : Hp} {b : Addr} {o : Obj} (e : h.get? b = some o) (n : H b = none) : (hidT h H).get? b = some o :=
  PySem.W.hideAll_get _ e fun hm => by
    have q : (H b).isSome = true := (List.mem_filter.mp hm).2
    rw [n] at q; simp at q
theorem of_hidT {h : Heap} {H : Hp} {b : Addr} {o : Obj} (e : (hidT h H).get? b = some o) : h.get? b = some o ∧ H b = none := by
  have e' : h.get? b = some o := PySem.W.of_hideAll (trk h H) e
  refine ⟨e', ?_⟩
  cases q : H b with
  | none => rfl
  | some x =>
    have hm : b ∈ trk h H := List.mem_filter.mpr ⟨List.mem_range.mpr (Heap.lt_size e'), by simp [q]⟩
    have z : (hidT h H).get? b = none := PySem.W.hideAll_none (trk h H) hm
    rw [z] at e; cases e

/-! ### OpenK's ledger, filled with every new object but one -/
end L2

namespace L2
open PySem PySem.Spec PyProof.Rows

/-- the module's facts, over the base: the heap at the law's entry without what is tracked there -/
structure Mod (K : PySem.W.Frag) (mg : Str → Option Value) (base : Heap) : Prop where
  kin : K.In base
  glob : base.Ns mainGlobals mg
  blt : ∃ mb, base.Ns builtinsNs mb ∧ ∀ x : Str, x ≠ "__name__" → mb x = bootBuiltins x
  nolimit : base.NoLimit

/-- the context: a def's body (or a comprehension's block) running. base: fixed through the whole law; s₀, H₀: the entry; outer: the frames whose slots others may change (a def's callers); stack: all frames that run;
   ex: iterators that were made ahead of the entry and are walked here (a comprehension's); fn: the names whose cells were made at the entry (a def: all; a comprehension's block: its own); calm: not within an except suite; pn: pins that every state bears; xe: what is wanted of an exception that leaves the code -/
structure Cx where
  prog : Program
  w : World
  K : PySem.W.Frag
  mg : Str → Option Value
  base : Heap
  A : Around
  N : List Str
  s_0 : Shared
  H_0 : Hp
  env : Env
  outer : List Env
  stack : List Env
  ex : List Addr
  fn : Str → Bool
  calm : Bool
  pn : List (Addr × Obj)
  xe : Value → Shared → Prop
/-- the callers' frames -/
def frs (l : List Env) : List Addr := l.filterMap (·.frame)
abbrev Cx.fs (X : Cx) : List Addr := frs X.outer

def Vis (sc : Scope) (x : Str) : Prop := sc.names.lookup x = some .local ∨ sc.names.lookup x = some .cell ∨ sc.names.lookup x = some .free
def Loc (sc : Scope) (x : Str) : Prop := sc.names.lookup x = some .local ∨ sc.names.lookup x = some .cell
def Look (env : Env) (h : Heap) (m : Str → Option Value) (x : Str) (u : Value) : Prop :=
  (env.kindOf x = some .local ∧ m x = some u) ∨ ((env.kindOf x = some .cell ∨ env.kindOf x = some .free) ∧ ∃ c, env.cells.lookup x = some c ∧ h.IsCell c (some u))

structure Cx.Ok (X : Cx) : Prop where
  mod : Mod X.K X.mg X.base
  kind : X.env.scope.kind = .function
  glob : X.env.globals = mainGlobals
  blt : X.env.builtins = builtinsNs
  above : X.s_0.heap.objs.size ≤ X.env.locals
  inj : ∀ x y c, X.env.cells.lookup x = some c → X.env.cells.lookup y = some c → x = y
  has : ∀ x, (X.env.kindOf x = some .cell ∨ X.env.kindOf x = some .free) → ∃ c, X.env.cells.lookup x = some c
  cab : ∀ x c, X.fn x = true → X.env.cells.lookup x = some c → X.s_0.heap.objs.size ≤ c
  hd : X.calm = true → X.A.handled = none
  frames : X.A.frames = some X.stack
  stk : X.stack = X.outer ∨ (X.stack = X.env :: X.outer ∧ X.env.frame = some X.env.locals)
  exf : ∀ b ∈ X.ex, b ≠ X.env.locals ∧ ∀ x c, X.env.cells.lookup x = some c → c ≠ b
  bs : ∀ b o, X.base.get? b = some o → X.s_0.heap.get? b = some o ∧ X.H_0 b = none
  bsz : X.base.objs.size ≤ X.s_0.heap.objs.size
  noex : ∀ b o, X.base.get? b = some o → b ∉ X.ex
  exfs : ∀ b ∈ X.ex, b ∉ X.fs
  funs : X.s_0.heap.FunFrames X.base X.outer
  frf : ∀ b ∈ X.fs, X.H_0 b = none

structure Inv (X : Cx) (pins : List (Addr × Obj)) (σ : List (Option V)) (H : Hp) (s : Shared) : Prop where
  ok : X.Ok
  os : s.os = X.s_0.os
  bare : AllBare s.gens
  base : Un X.fs X.ex X.H_0 H X.s_0.heap s.heap
  loc : ∃ m, s.heap.Ns X.env.locals m ∧ ∀ (i : Nat) (x : Str) (v : V), X.N[i]? = some x → σ[i]? = some (some v) → Vis X.env.scope x → ∃ u, RelV v u ∧ Look X.env s.heap m x u
  cell : ∀ x c, X.env.cells.lookup x = some c → ∃ v, s.heap.IsCell c v
  free : H X.env.locals = none
  freeC : ∀ x c, X.env.cells.lookup x = some c → H c = none
  pin : ∀ p ∈ X.pn ++ pins, s.heap.get? p.1 = some p.2 ∧ H p.1 = none ∧ p.1 ≠ X.env.locals ∧ p.1 ∉ X.fs ∧ ∀ v, p.2.data ≠ .cell v
  hok : HOk X.prog X.w H s.heap
  len : σ.length = X.N.length

section
variable {X : Cx} {pins : List (Addr × Obj)} {σ : List (Option V)} {H H' : Hp} {s : Shared} {h' : Heap}

theorem Cx.Ok.nofr (ok : X.Ok) {b : Addr} {o : Obj} (e : X.base.get? b = some o) : b ∉ X.fs := fun hb => by
  have := (ok.funs.mem hb).1
  rw [e] at this; cases this
theorem Inv.bs (I : Inv X pins σ H s) : ∀ b o, X.base.get? b = some o → s.heap.get? b = some o ∧ H b = none := fun b o e =>
  ⟨I.base.keep b o (I.ok.bs b o e).1 (I.ok.bs b o e).2 (I.ok.nofr e) (I.ok.noex b o e), I.base.free b o (I.ok.bs b o e).1 (I.ok.bs b o e).2 (I.ok.noex b o e)⟩
theorem Inv.bk (I : Inv X pins σ H s) : ∀ b o, X.base.get? b = some o → s.heap.get? b = some o := fun b o e => (I.bs b o e).1
theorem Inv.mod (I : Inv X pins σ H s) : Mod X.K X.mg X.base := I.ok.mod
theorem Inv.kIn (I : Inv X pins σ H s) : X.K.In s.heap := I.ok.mod.kin.keeps I.bk
theorem Inv.lt (I : Inv X pins σ H s) : X.env.locals < s.heap.objs.size := let ⟨_, hn, _⟩ := I.loc; hn.lt
theorem Inv.sz (I : Inv X pins σ H s) : X.s_0.heap.objs.size ≤ s.heap.objs.size := Nat.le_trans I.ok.above (Nat.le_of_lt I.lt)
theorem Inv.nofs (I : Inv X pins σ H s) {a : Addr} (h : s.heap.objs.size ≤ a) : a ∉ X.fs := fun hb => by
  obtain ⟨_, o, ho, _⟩ := I.ok.funs.mem hb
  exact absurd (Nat.lt_of_lt_of_le (Heap.lt_size ho) (Nat.le_trans I.sz h)) (Nat.lt_irrefl _)
theorem Inv.cne (I : Inv X pins σ H s) : ∀ x c, X.env.cells.lookup x = some c → c ≠ X.env.locals := fun x c e z => by
  obtain ⟨v, o, ho, hd⟩ := I.cell x c e
  obtain ⟨m, ⟨o', es, ep, ho', hd', _⟩, _⟩ := I.loc
  rw [z, ho'] at ho; cases ho; rw [hd'] at hd; cases hd
theorem Inv.funs (I : Inv X pins σ H s) : s.heap.FunFrames X.base X.outer := by
  have all : ∀ (l : List Env), (∀ b ∈ frs l, b ∈ X.fs) → X.s_0.heap.FunFrames X.base l → s.heap.FunFrames X.base l := by
    intro l
    induction l with
    | nil => intro _ _; trivial
    | cons env r ih =>
      intro hs hl
      obtain ⟨hk, ⟨L, o, hf, hn, ho, hd⟩, hr⟩ := hl
      have hL : L ∈ X.fs := hs L (by unfold frs; rw [List.filterMap_cons, hf]; exact List.mem_cons_self)
      obtain ⟨sl, e⟩ := I.base.slot L o ho (I.ok.frf L hL) hL fun z => I.ok.exfs L z hL
      exact ⟨hk, ⟨L, _, hf, hn, e, hd⟩, ih (fun b hb => hs b (by unfold frs; rw [List.filterMap_cons, hf]; exact List.mem_cons_of_mem _ hb)) hr⟩
  exact all X.outer (fun _ hb => hb) I.ok.funs

/-- the frames that run, for a call -/
theorem Inv.stack (I : Inv X pins σ H s) : s.heap.FunFrames X.base X.stack := by
  rcases I.ok.stk with e | ⟨e, hf⟩
  · rw [e]; exact I.funs
  · rw [e]
    obtain ⟨m, hn, _⟩ := I.loc
    refine .cons (by rw [I.ok.kind]; decide) hf hn ?_ I.funs
    exact Heap.get?_none_of_le (Nat.le_trans I.ok.bsz I.ok.above)
theorem Inv.stkSub (I : Inv X pins σ H s) : ∀ b ∈ frs X.stack, b ∈ X.env.locals :: X.fs := fun b hb => by
  rcases I.ok.stk with e | ⟨e, hf⟩
  · rw [e] at hb; exact List.mem_cons_of_mem _ hb
  · rw [e] at hb
    unfold frs at hb
    rw [List.filterMap_cons, hf] at hb
    exact hb
theorem Inv.stkFree (I : Inv X pins σ H s) : ∀ b ∈ frs X.stack, H b = none := fun b hb => by
  rcases List.mem_cons.mp (I.stkSub b hb) with e | hb
  · rw [e]; exact I.free
  · obtain ⟨_, o, ho, _⟩ := I.ok.funs.mem hb
    exact I.base.free b o ho (I.ok.frf b hb) fun z => I.ok.exfs b z hb

/-- THE STEP: the untracked objects but the frame and the records at ch are kept (the callers' frames up to slots), the frame's map is kept, the new abstract heap is held -/
theorem Inv.step {g' : Array GenState} {t' : Nat} {d' : Drawn} {ch : List Addr} (I : Inv X pins σ H s)
    (hch : ∀ b ∈ ch, (b ∈ X.ex ∨ X.s_0.heap.objs.size ≤ b) ∧ b ≠ X.env.locals ∧ (∀ x c, X.env.cells.lookup x = some c → c ≠ b) ∧ ∀ p ∈ X.pn ++ pins, p.1 ≠ b)
    (keep : ∀ b o, b ≠ X.env.locals → b ∉ X.fs → b ∉ ch → s.heap.get? b = some o → H b = none → h'.get? b = some o)
    (slot : ∀ b o, b ≠ X.env.locals → b ∈ X.fs → b ∉ ch → s.heap.get? b = some o → H b = none → ∃ sl, h'.get? b = some { o with slots := sl }) (free : ∀ b o, b ∉ ch → s.heap.get? b = some o → H b = none → H' b = none)
    (there : ∀ b o, b ∉ ch → s.heap.get? b = some o → ∃ o', h'.get? b = some o')
    (tups : ∀ b xs, H b = some (.tup xs) → H' b = some (.tup xs)) (frzs : ∀ b o u, H b = some (.frz o u) → H' b = some (.frz o u)) (tbls : ∀ b ps, H b = some (.tbl ps) → ∃ more, H' b = some (.tbl (ps ++ more)))
    (ns : ∀ m, s.heap.Ns X.env.locals m → h'.Ns X.env.locals m) (hok : HOk X.prog X.w H' h') (hg : AllBare g') :
    Inv X pins σ H' { s with heap := h', gens := g', drawn := d', toks := t' } := by
  have neL : ∀ b o, X.s_0.heap.get? b = some o → b ≠ X.env.locals := fun b o e => Nat.ne_of_lt (Nat.lt_of_lt_of_le (Heap.lt_size e) I.ok.above)
  have neC : ∀ b o, X.s_0.heap.get? b = some o → b ∉ X.ex → b ∉ ch := fun b o e hx hb => by
    rcases (hch b hb).1 with z | z
    · exact hx z
    · exact absurd (Nat.lt_of_lt_of_le (Heap.lt_size e) z) (Nat.lt_irrefl _)
  have cellK : ∀ x c, X.env.cells.lookup x = some c → ∀ v, s.heap.IsCell c v → h'.IsCell c v := fun x c e v ⟨o, ho, hd⟩ => by
    have nch : c ∉ ch := fun z => (hch c z).2.2.1 x c e rfl
    by_cases hc : c ∈ X.fs
    · obtain ⟨sl, q⟩ := slot c o (I.cne x c e) hc nch ho (I.freeC x c e)
      exact ⟨_, q, hd⟩
    · exact ⟨o, keep c o (I.cne x c e) hc nch ho (I.freeC x c e), hd⟩
  refine ⟨I.ok, I.os, hg, ⟨fun b o e n hb hx => ?_, fun b o e n hb hx => ?_, fun b o e n hx => ?_, fun b o e hx => ?_, fun b xs e => tups b xs (I.base.tups b xs e), fun b o xs e => frzs b o xs (I.base.frzs b o xs e), fun b ps e => ?_⟩, ?_, fun x c e => ?_, ?_, fun x c e => ?_, fun p hp => ?_, hok, I.len⟩
  · exact keep b o (neL b o e) hb (neC b o e hx) (I.base.keep b o e n hb hx) (I.base.free b o e n hx)
  · obtain ⟨sl, e1⟩ := I.base.slot b o e n hb hx
    obtain ⟨sl', e2⟩ := slot b _ (neL b o e) hb (neC b o e hx) e1 (I.base.free b o e n hx)
    exact ⟨sl', e2⟩
  · obtain ⟨o', e1⟩ := I.base.there b o e hx
    exact free b o' (neC b o e hx) e1 (I.base.free b o e n hx)
  · obtain ⟨o', e1⟩ := I.base.there b o e hx
    exact there b o' (neC b o e hx) e1
  · obtain ⟨m1, e1⟩ := I.base.tbls b ps e
    obtain ⟨m2, e2⟩ := tbls b _ e1
    exact ⟨m1 ++ m2, by rw [e2, Array.append_assoc]⟩
  · obtain ⟨m, hn, hl⟩ := I.loc
    refine ⟨m, ns m hn, fun i x v e1 e2 e3 => ?_⟩
    obtain ⟨u, r, l⟩ := hl i x v e1 e2 e3
    refine ⟨u, r, ?_⟩
    rcases l with l | ⟨k, c, e, z⟩
    · exact .inl l
    · exact .inr ⟨k, c, e, cellK x c e _ z⟩
  · obtain ⟨v, z⟩ := I.cell x c e
    exact ⟨v, cellK x c e v z⟩
  · obtain ⟨m, ⟨o, _, _, ho, _⟩, _⟩ := I.loc
    exact free _ o (fun z => (hch _ z).2.1 rfl) ho I.free
  · obtain ⟨v, o, ho, hd⟩ := I.cell x c e
    exact free c o (fun z => (hch c z).2.2.1 x c e rfl) ho (I.freeC x c e)
  · obtain ⟨e, n, ne, nf, d⟩ := I.pin p hp
    have nch : p.1 ∉ ch := fun z => (hch p.1 z).2.2.2 p hp rfl
    exact ⟨keep p.1 p.2 ne nf nch e n, free p.1 p.2 nch e n, ne, nf, d⟩
/-- .. where the frame's own object is kept too -/
theorem Inv.un {t' : Nat} (I : Inv X pins σ H s) (u : Un X.fs [] H H' s.heap h') (hok : HOk X.prog X.w H' h') : Inv X pins σ H' { s with heap := h', toks := t' } := by
  obtain ⟨m, ⟨o, es, ep, ho, r⟩, _⟩ := id I.loc
  obtain ⟨sl, hL⟩ := u.any ho I.free (by simp)
  exact I.step (g' := s.gens) (d' := s.drawn) (ch := []) (fun _ z => nomatch z) (fun b o _ hb _ e n => u.keep b o e n hb (by simp)) (fun b o _ hb _ e n => u.slot b o e n hb (by simp)) (fun b o _ e n => u.free b o e n (by simp)) (fun b o _ e => u.there b o e (by simp)) u.tups u.frzs u.tbls (fun m' hm => by
    obtain ⟨o', es', ep', ho', r'⟩ := hm
    rw [ho] at ho'; cases ho'
    exact ⟨_, es', ep', hL, r'⟩) hok I.bare
/-- behind a call (or a comprehension's block): the slots of this frame may have changed too, the records at ch may have turned -/
theorem Inv.call {g' : Array GenState} {t' : Nat} {d' : Drawn} {ch : List Addr} (I : Inv X pins σ H s) (u : Un (frs X.stack) ch H H' s.heap h') (hok : HOk X.prog X.w H' h') (hg : AllBare g')
    (hch : ∀ b ∈ ch, (b ∈ X.ex ∨ X.s_0.heap.objs.size ≤ b) ∧ b ≠ X.env.locals ∧ (∀ x c, X.env.cells.lookup x = some c → c ≠ b) ∧ ∀ p ∈ X.pn ++ pins, p.1 ≠ b) :
    Inv X pins σ H' { s with heap := h', gens := g', drawn := d', toks := t' } := by
  obtain ⟨m, ⟨o, es, ep, ho, r⟩, _⟩ := id I.loc
  obtain ⟨sl, hL⟩ := u.any ho I.free fun z => (hch _ z).2.1 rfl
  exact I.step (ch := ch) hch (fun b o hL hb hc e n => u.keep b o e n (fun z => (List.mem_cons.mp (I.stkSub b z)).elim hL hb) hc) (fun b o _ _ hc e n => u.any e n hc) (fun b o hc e n => u.free b o e n hc) (fun b o hc e => u.there b o e hc) u.tups u.frzs u.tbls (fun m' hm => by
    obtain ⟨o', es', ep', ho', r'⟩ := hm
    rw [ho] at ho'; cases ho'
    exact ⟨_, es', ep', hL, r'⟩) hok hg
/-- an untracked record of ours (an iterator) has turned -/
theorem Inv.turned {t' : Nat} {it : Addr} (I : Inv X pins σ H s) (k : ∀ b o, b ≠ it → s.heap.get? b = some o → h'.get? b = some o) (hn : H it = none) (hL : it ≠ X.env.locals)
    (h1 : it ∈ X.ex ∨ X.s_0.heap.objs.size ≤ it) (h2 : ∀ x c, X.env.cells.lookup x = some c → c ≠ it) (h3 : ∀ p ∈ X.pn ++ pins, p.1 ≠ it) : Inv X pins σ H { s with heap := h', toks := t' } := by
  have nit : ∀ b u, H b = some u → b ≠ it := fun b u e z => by rw [z, hn] at e; cases e
  refine I.step (g' := s.gens) (d' := s.drawn) (ch := [it]) (fun b hb => ?_) (fun b o _ _ hc e _ => k b o (fun z => hc (by simp [z])) e) (fun b o _ _ hc e _ => ⟨o.slots, k b o (fun z => hc (by simp [z])) e⟩) (fun _ _ _ _ n => n)
    (fun b o hc e => ⟨o, k b o (fun z => hc (by simp [z])) e⟩) (fun _ _ e => e) (fun _ _ _ e => e) (fun b ps e => ⟨#[], by rw [e]; simp⟩) (fun m hm => ?_) (fun b u e => ?_) I.bare
  · have e : b = it := by simpa using hb
    subst e
    exact ⟨h1, hL, h2, h3⟩
  · obtain ⟨o, es, ep, ho, r⟩ := hm
    exact ⟨o, es, ep, k _ o (Ne.symm hL) ho, r⟩
  · refine (I.hok b u e).stay (fun c v hc q => k c v ?_ q) (fun _ q => q) fun _ _ q => q
    rcases hc with z | z
    · rw [z]; exact nit b u e
    · exact nit c _ z
theorem Inv.tok (I : Inv X pins σ H s) (t : Nat) : Inv X pins σ H { s with toks := t } := I.un (h' := s.heap) (t' := t) Un.refl I.hok
/-- all objects kept -/
theorem Inv.kept {t' : Nat} (I : Inv X pins σ H s) (k : ∀ b u, s.heap.get? b = some u → h'.get? b = some u) : Inv X pins σ H { s with heap := h', toks := t' } := I.un (Un.kept k) (I.hok.kept k)
/-- a new object laid and tracked -/
theorem Inv.laid {a : Addr} {o : HO} {t' : Nat} (I : Inv X pins σ H s) (k : ∀ b u, s.heap.get? b = some u → h'.get? b = some u) (hp : s.heap.objs.size ≤ a) (new : ObjOk X.prog X.w (upd H a o) h' a o) :
    Inv X pins σ (upd H a o) { s with heap := h', toks := t' } := I.un (Un.laid k hp (I.hok.fresh hp)) (I.hok.laid k hp new)
/-- an object written -/
theorem Inv.write {x e : Addr} {o : HO} {t' : Nat} (I : Inv X pins σ H s) (mu : Mut (H x)) (he : e = x ∨ H e = some (.own x)) (k : ∀ b u, b ≠ e → s.heap.get? b = some u → h'.get? b = some u) (heo : ∃ u, h'.get? e = some u)
    (new : ObjOk X.prog X.w (upd H x o) h' x o) : Inv X pins σ (upd H x o) { s with heap := h', toks := t' } := I.un (Un.write mu he k heo) (I.hok.write mu he k heo new)
theorem Inv.pins_of {pins' : List (Addr × Obj)} (I : Inv X pins σ H s) (h : ∀ p ∈ pins', s.heap.get? p.1 = some p.2 ∧ H p.1 = none ∧ p.1 ≠ X.env.locals ∧ p.1 ∉ X.fs ∧ ∀ v, p.2.data ≠ .cell v) : Inv X pins' σ H s :=
  ⟨I.ok, I.os, I.bare, I.base, I.loc, I.cell, I.free, I.freeC, fun p hp => (List.mem_append.mp hp).elim (fun z => I.pin p (List.mem_append_left _ z)) (h p), I.hok, I.len⟩

theorem nodup_ix {N : List Str} (hN : N.Nodup) {i j : Nat} {x : Str} (a : N[i]? = some x) (b : N[j]? = some x) : i = j := by
  obtain ⟨h1, e1⟩ := List.getElem?_eq_some_iff.mp a
  obtain ⟨h2, e2⟩ := List.getElem?_eq_some_iff.mp b
  exact (List.getElem_inj hN).mp (e1.trans e2.symm)

/-- a name is stored; what changed -/
theorem store_ok2 {M : Model} {A : Around} {E : Value → Shared → Prop} {i : Nat} {x : Str} {v : V} {u : Value} {Q : Unit → Shared → Prop} (I : Inv X pins σ H s) (hN : X.N.Nodup) (hi : X.N[i]? = some x) (hx : Loc X.env.scope x) (r : RelV v u)
    (h : ∀ s', Inv X pins (σ.set i (some v)) H s' → (∃ a, Heap.SameBut a s.heap s'.heap ∧ (a = X.env.locals ∨ X.env.cells.lookup x = some a)) → Q () s') (hf : X.fn x = true ∨ X.env.scope.names.lookup x = some .local := by first | exact .inl rfl | exact .inr rfl | assumption) : wpAny M A (storeName X.env x u) Q E s := by
  obtain ⟨m, hn, hl⟩ := id I.loc
  have hcls : (X.env.scope.kind == .class || (X.env.scope.kind == .module && X.env.locals != X.env.globals)) = false := by rw [I.ok.kind]; rfl
  have hiσ : i < σ.length := by rw [I.len]; exact (List.getElem?_eq_some_iff.mp hi).1
  have cne := I.cne
  have tracked : ∀ {a : Addr} {h' : Heap}, (∃ o, s.heap.get? a = some o ∧ H a = none) → Heap.SameBut a s.heap h' → HOk X.prog X.w H h' := fun {a h'} ha hs b ob e => by
    obtain ⟨_, _, hfree⟩ := ha
    refine (I.hok b ob e).stay (fun c w' hc q => (hs.2 c ?_).trans q) (fun _ q => q) fun _ _ q => q
    rintro rfl
    rcases hc with rfl | hc
    · rw [hfree] at e; cases e
    · rw [hfree] at hc; cases hc
  rcases hx with hk | hk
  · refine wpAny_storeName_local hk hn (fun h' hn' hs => ?_) hcls
    obtain ⟨oL, _, _, hoL, _⟩ := id hn
    refine h _ ⟨I.ok, I.os, I.bare, ⟨fun b o e n hb hx => ?_, fun b o e n hb hx => ?_, I.base.free, fun b o e hx => ?_, I.base.tups, I.base.frzs, I.base.tbls⟩, ⟨_, hn', fun j y v' e1 e2 e3 => ?_⟩, fun y c e => ?_, I.free, I.freeC, fun p hp => ?_, tracked ⟨oL, hoL, I.free⟩ hs, by simpa using I.len⟩ ⟨_, hs, .inl rfl⟩
    · exact (hs.2 b (Nat.ne_of_lt (Nat.lt_of_lt_of_le (Heap.lt_size e) I.ok.above))).trans (I.base.keep b o e n hb hx)
    · obtain ⟨sl, e1⟩ := I.base.slot b o e n hb hx
      exact ⟨sl, (hs.2 b (Nat.ne_of_lt (Nat.lt_of_lt_of_le (Heap.lt_size e) I.ok.above))).trans e1⟩
    · obtain ⟨o', e1⟩ := I.base.there b o e hx
      exact ⟨o', (hs.2 b (Nat.ne_of_lt (Nat.lt_of_lt_of_le (Heap.lt_size e) I.ok.above))).trans e1⟩
    · by_cases hj : j = i
      · subst hj
        rw [hi] at e1; cases e1
        rw [List.getElem?_set_self hiσ] at e2
        cases e2
        exact ⟨u, r, .inl ⟨hk, by simp⟩⟩
      · rw [List.getElem?_set_ne (Ne.symm hj)] at e2
        obtain ⟨u', r', q⟩ := hl j y v' e1 e2 e3
        refine ⟨u', r', ?_⟩
        rcases q with ⟨k, e⟩ | ⟨k, c, e, z⟩
        · refine .inl ⟨k, ?_⟩
          have : y ≠ x := fun e => hj (nodup_ix hN e1 (e ▸ hi))
          simp [this, e]
        · exact .inr ⟨k, c, e, z.sameBut hs (cne y c e)⟩
    · obtain ⟨w', z⟩ := I.cell y c e
      exact ⟨w', z.sameBut hs (cne y c e)⟩
    · obtain ⟨e, n, ne, nf, d⟩ := I.pin p hp
      exact ⟨(hs.2 p.1 ne).trans e, n, ne, nf, d⟩
  · have hfn : X.fn x = true := by
      rcases hf with z | z
      · exact z
      · rw [z] at hk; cases hk
    obtain ⟨c, hc⟩ := I.ok.has x (.inl hk)
    obtain ⟨w', z⟩ := I.cell x c hc
    refine wpAny_storeName_cell I.ok.kind hk hc z (fun h' hc' hs => ?_)
    obtain ⟨oc, hoc, hocd⟩ := id z
    refine h { s with heap := h' } ⟨I.ok, I.os, I.bare, ⟨fun b o e n hb hx => ?_, fun b o e n hb hx => ?_, I.base.free, fun b o e hx => ?_, I.base.tups, I.base.frzs, I.base.tbls⟩, ⟨m, hn.sameBut hs (Ne.symm (cne x c hc)), fun j y v' e1 e2 e3 => ?_⟩, fun y c' e => ?_, I.free, I.freeC, fun p hp => ?_, tracked ⟨oc, hoc, I.freeC x c hc⟩ hs, by simpa using I.len⟩ ⟨c, hs, .inr hc⟩
    · exact (hs.2 b (Nat.ne_of_lt (Nat.lt_of_lt_of_le (Heap.lt_size e) (I.ok.cab x c hfn hc)))).trans (I.base.keep b o e n hb hx)
    · obtain ⟨sl, e1⟩ := I.base.slot b o e n hb hx
      exact ⟨sl, (hs.2 b (Nat.ne_of_lt (Nat.lt_of_lt_of_le (Heap.lt_size e) (I.ok.cab x c hfn hc)))).trans e1⟩
    · obtain ⟨o', e1⟩ := I.base.there b o e hx
      exact ⟨o', (hs.2 b (Nat.ne_of_lt (Nat.lt_of_lt_of_le (Heap.lt_size e) (I.ok.cab x c hfn hc)))).trans e1⟩
    · by_cases hj : j = i
      · subst hj
        rw [hi] at e1; cases e1
        rw [List.getElem?_set_self hiσ] at e2
        cases e2
        exact ⟨u, r, .inr ⟨.inl hk, c, hc, hc'⟩⟩
      · rw [List.getElem?_set_ne (Ne.symm hj)] at e2
        obtain ⟨u', r', q⟩ := hl j y v' e1 e2 e3
        refine ⟨u', r', ?_⟩
        rcases q with q | ⟨k, c', e, z'⟩
        · exact .inl q
        · refine .inr ⟨k, c', e, z'.sameBut hs ?_⟩
          rintro rfl
          exact hj (nodup_ix hN e1 (I.ok.inj _ _ _ e hc ▸ hi))
    · by_cases hcc : c' = c
      · subst hcc; exact ⟨_, hc'⟩
      · obtain ⟨w2, z2⟩ := I.cell y c' e
        exact ⟨w2, z2.sameBut hs hcc⟩
    · obtain ⟨e, n, ne, nf, d⟩ := I.pin p hp
      refine ⟨(hs.2 p.1 ?_).trans e, n, ne, nf, d⟩
      intro q
      rw [q, hoc] at e
      have q' : oc = p.2 := Option.some.inj e
      exact d w' (by rw [← q']; exact hocd)
theorem store_ok {M : Model} {A : Around} {E : Value → Shared → Prop} {i : Nat} {x : Str} {v : V} {u : Value} {Q : Unit → Shared → Prop} (I : Inv X pins σ H s) (hN : X.N.Nodup) (hi : X.N[i]? = some x) (hx : Loc X.env.scope x) (r : RelV v u)
    (h : ∀ s', Inv X pins (σ.set i (some v)) H s' → Q () s') (hf : X.fn x = true ∨ X.env.scope.names.lookup x = some .local := by first | exact .inl rfl | exact .inr rfl | assumption) : wpAny M A (storeName X.env x u) Q E s :=
  store_ok2 I hN hi hx r (fun s' I' _ => h s' I') hf
end

/-! ### the judgements -/
/-- an exception: its class, its own dict's address (where it has one), the abstract heap behind it -/
abbrev XK := Value → Option Addr → Hp → Prop
abbrev St := List (Option V)
abbrev VK := V → Hp → Prop
/-- an expression's reading; a test's; an argument list's -/
abbrev TE := St → Hp → VK → Prop
abbrev TT := St → Hp → (Bool → Hp → Prop) → Prop
abbrev TA := St → Hp → (List V → Hp → Prop) → Prop
/-- what is wanted behind a statement -/
structure Ends where
  nx : St → Hp → Prop
  rt : VK
  bk : St → Hp → Prop := fun _ _ => False
  ct : St → Hp → Prop := fun _ _ => False
abbrev TS := Ends → St → Hp → Prop

def EP (X : Cx) (pins : List (Addr × Obj)) (σ : St) (Q : VK) (u : Value) (s' : Shared) : Prop := ∃ v H', Inv X pins σ H' s' ∧ RelV v u ∧ Q v H'
def TP (X : Cx) (pins : List (Addr × Obj)) (σ : St) (Q : Bool → Hp → Prop) (b : Bool) (s' : Shared) : Prop := ∃ H', Inv X pins σ H' s' ∧ Q b H'
def AP (X : Cx) (pins : List (Addr × Obj)) (σ : St) (Q : List V → Hp → Prop) (us : List Value) (s' : Shared) : Prop := ∃ vs H', Inv X pins σ H' s' ∧ Vals vs us ∧ Q vs H'
def SP (X : Cx) (pins : List (Addr × Obj)) (D : Ends) (f : Flow) (s' : Shared) : Prop :=
  match f with
  | .next => ∃ σ' H', Inv X pins σ' H' s' ∧ D.nx σ' H'
  | .brk => ∃ σ' H', Inv X pins σ' H' s' ∧ D.bk σ' H'
  | .cont => ∃ σ' H', Inv X pins σ' H' s' ∧ D.ct σ' H'
  | .ret u => ∃ v σ' H', Inv X pins σ' H' s' ∧ RelV v u ∧ D.rt v H'

def PE (X : Cx) (e : Expr) (t : TE) : Prop :=
  ∀ (pins : List (Addr × Obj)) (s : Shared) (σ : St) (H : Hp) (Q : VK), Inv X pins σ H s → t σ H Q → wpAny (model X.prog X.w) X.A (eval e X.env) (EP X pins σ Q) X.xe s
def PT (X : Cx) (e : Expr) (t : TT) : Prop :=
  ∀ (pins : List (Addr × Obj)) (s : Shared) (σ : St) (H : Hp) (Q : Bool → Hp → Prop), Inv X pins σ H s → t σ H Q → wpAny (model X.prog X.w) X.A (isTrue e X.env (eval e X.env)) (TP X pins σ Q) X.xe s
/-- a test whatever its 'whole' is (and, or) -/
def PW (X : Cx) (e : Expr) (t : TT) : Prop :=
  ∀ (whole : Sem Value) (pins : List (Addr × Obj)) (s : Shared) (σ : St) (H : Hp) (Q : Bool → Hp → Prop), Inv X pins σ H s → t σ H Q → wpAny (model X.prog X.w) X.A (isTrue e X.env whole) (TP X pins σ Q) X.xe s
theorem PW.pt {X : Cx} {e : Expr} {t : TT} (h : PW X e t) : PT X e t := h _
/-- an argument list (no star), from the left -/
def PA (X : Cx) (es : List Expr) (t : TA) : Prop :=
  ∀ (pos : Pos) (pins : List (Addr × Obj)) (s : Shared) (σ : St) (H : Hp) (Q : List V → Hp → Prop), Inv X pins σ H s → t σ H Q → wpAny (model X.prog X.w) X.A (spliced (backTo pos (starEach es X.env))) (AP X pins σ Q) X.xe s
def PS (X : Cx) (st : Stmt) (t : TS) : Prop :=
  ∀ (pins : List (Addr × Obj)) (s : Shared) (σ : St) (H : Hp) (D : Ends), Inv X pins σ H s → t D σ H → wpAny (model X.prog X.w) X.A (exec st X.env) (SP X pins D) X.xe s
def PSs (X : Cx) (st : List Stmt) (t : TS) : Prop :=
  ∀ (pins : List (Addr × Obj)) (s : Shared) (σ : St) (H : Hp) (D : Ends), Inv X pins σ H s → t D σ H → wpAny (model X.prog X.w) X.A (execs st X.env) (SP X pins D) X.xe s
/-- weaken the end -/
theorem thn {α : Type} {t : Sem α} {Q Q' : α → Shared → Prop} {M : Model} {A : Around} {E : Value → Shared → Prop} {s : Shared} (h : wpAny M A t Q E s) (hQ : ∀ a s, Q a s → Q' a s) : wpAny M A t Q' E s := wpAny_mono h hQ fun _ _ x => x
end L2

namespace L2
open PySem PySem.Spec PyProof.Rows
section
variable {X : Cx}

/-- two expressions in a row -/
theorem bin {a b : Expr} {ta tb : TE} (ha : PE X a ta) (hb : PE X b tb) {pins : List (Addr × Obj)} {s : Shared} {σ : St} {H : Hp} {R : V → V → Hp → Prop} (I : Inv X pins σ H s) (h : ta σ H fun x H1 => tb σ H1 fun y H2 => R x y H2)
    {α : Type} {Q : α → Shared → Prop} {f : Value → Value → Sem α}
    (hf : ∀ v u s2 x y H2, Inv X pins σ H2 s2 → RelV x v → RelV y u → R x y H2 → wpAny (model X.prog X.w) X.A (f v u) Q X.xe s2) :
    wpAny (model X.prog X.w) X.A (eval a X.env) (fun v s₁ => wpAny (model X.prog X.w) X.A (eval b X.env) (fun u s₂ => wpAny (model X.prog X.w) X.A (f v u) Q X.xe s₂) X.xe s₁) X.xe s := by
  refine thn (ha pins s σ H _ I h) fun v s1 ⟨x, H1, I1, r1, q1⟩ => ?_
  refine thn (hb pins s1 σ H1 _ I1 q1) fun u s2 ⟨y, H2, I2, r2, q2⟩ => ?_
  exact hf v u s2 x y H2 I2 r1 r2 q2

/-! ### names and constants -/
def tVar (i : Nat) : TE := fun σ H Q => ∃ v, σ[i]? = some (some v) ∧ Q v H
def tC (v : V) : TE := fun _ H Q => Q v H
theorem pe_var {i : Nat} {x : Str} {pos : Pos} (hN : X.N[i]? = some x) (hv : Vis X.env.scope x) (hd : (x == ("__debug__" : Str)) = false := by decide) (hcd : (x == ("__classdict__" : Str)) = false := by decide) : PE X (.Name x pos) (tVar i) := by
  intro pins s σ H Q I h
  obtain ⟨v, e, h⟩ := h
  obtain ⟨m, hn, hl⟩ := I.loc
  obtain ⟨u, r, l⟩ := hl i x v hN e hv
  have fin : EP X pins σ Q u s := ⟨v, H, I, r, h⟩
  rcases l with ⟨hk, hm⟩ | ⟨hk, c, hc, hcell⟩
  · exact wpAny_Name (wpAny_loadName_local I.ok.kind hk hn hm fin) hd
  · rcases hk with hk | hk
    · exact wpAny_Name (wpAny_loadName_cell I.ok.kind hk hc hcell fin) hd
    · exact wpAny_Name (wpAny_loadName_free I.ok.kind hk hc hcell fin hcd) hd
theorem pe_int {i j pos} : PE X (.Constant (.int i) j pos) (tC (.int i)) := fun _ _ _ H _ I h => wpAny_Constant_int ⟨.int i, H, I.tok _, ⟨_, rfl⟩, h⟩
theorem pe_bl {b j pos} : PE X (.Constant (.bool b) j pos) (tC (.bl b)) := fun _ _ _ H _ I h => Constant_bool ⟨.bl b, H, I, rfl, h⟩
theorem pe_non {j pos} : PE X (.Constant .none j pos) (tC .non) := fun _ _ _ H _ I h => Constant_none ⟨.non, H, I, rfl, h⟩

/-- a global name of the def -/
def Gl (X : Cx) (x : Str) : Prop := X.env.kindOf x = some .globalImplicit
theorem ld_glob {E : Value → Shared → Prop} {pins : List (Addr × Obj)} {s : Shared} {σ : St} {H : Hp} {x : Str} {u : Value} {pos : Pos} {Q : Value → Shared → Prop} (I : Inv X pins σ H s) (hg : Gl X x) (hm : X.mg x = some u) (h : Q u s)
    (hd : (x == ("__debug__" : Str)) = false := by decide) : wpAny (model X.prog X.w) X.A (eval (.Name x pos) X.env) Q E s :=
  Calls.Name_function_global I.ok.kind hg (Calls.loadGlobal_global (by rw [I.ok.glob]; exact I.mod.glob.keeps I.bk) hm h) hd
theorem ld_blt {E : Value → Shared → Prop} {pins : List (Addr × Obj)} {s : Shared} {σ : St} {H : Hp} {x : Str} {u : Value} {pos : Pos} {Q : Value → Shared → Prop} (I : Inv X pins σ H s) (hg : Gl X x) (hm : X.mg x = none) (hv : bootBuiltins x = some u) (h : Q u s)
    (hn : x ≠ "__name__" := by decide) (hd : (x == ("__debug__" : Str)) = false := by decide) : wpAny (model X.prog X.w) X.A (eval (.Name x pos) X.env) Q E s := by
  obtain ⟨mb, h1, h2⟩ := I.mod.blt
  exact Calls.Name_function_global I.ok.kind hg (Calls.loadGlobal_builtin (by rw [I.ok.glob]; exact I.mod.glob.keeps I.bk) hm (by rw [I.ok.blt]; exact h1.keeps I.bk) ((h2 x hn).trans hv) h) hd
/-- a module's constant, a class, a function, as a value -/
theorem pe_glob {x : Str} {v : V} {u : Value} {pos : Pos} (hg : Gl X x) (hm : X.mg x = some u) (r : RelV v u) (hd : (x == ("__debug__" : Str)) = false := by decide) : PE X (.Name x pos) (tC v) :=
  fun _ _ _ H _ I h => ld_glob I hg hm ⟨v, H, I, r, h⟩ hd

/-! ### arithmetic -/
variable {a b : Expr} {ta tb : TE} {pos : Pos}

/-! ### comparisons -/
def PC (X : Cx) (op : CmpOp) (a b : Expr) (t : TE) : Prop :=
  ∀ (pins : List (Addr × Obj)) (s : Shared) (σ : St) (H : Hp) (Q : VK), Inv X pins σ H s → t σ H Q →
    wpAny (model X.prog X.w) X.A (eval a X.env) (fun v s₁ => wpAny (model X.prog X.w) X.A (eval b X.env) (fun u s₂ => wpAny (model X.prog X.w) X.A (compareOp op v u) (EP X pins σ Q) X.xe s₂) X.xe s₁) X.xe s
/-- a comparison as a value, as a test -/
def tB (t : TE) : TT := fun σ H Q => t σ H fun x H1 => ∃ c, x = .bl c ∧ Q c H1
theorem pe_cmp {op : CmpOp} {t : TE} (h : PC X op a b t) (h1 : behindInMarks op b = false := by first | exact nobehind _ (by decide) (by decide) | rfl) : PE X (.Compare a [op] [b] pos) t := fun pins s σ H Q I hw => wpAny_Compare1 (h pins s σ H Q I hw) h1
theorem pt_cmp {op : CmpOp} {t : TE} (h : PC X op a b t) (h1 : behindInMarks op b = false := by first | exact nobehind _ (by decide) (by decide) | rfl) : PT X (.Compare a [op] [b] pos) (tB t) := by
  intro pins s σ H Q I hw
  refine wpAny_isTrue_Compare1 (thn (h pins s σ H _ I hw) fun v s1 h1 => thn h1 fun u s2 h2 => thn h2 fun c s3 ⟨x, H1, I1, r1, q1⟩ => ?_) h1
  obtain ⟨d, rfl, q⟩ := q1
  cases r1
  exact wpAny_truthy_bool ⟨H1, I1, q⟩
/-- an expression whose value is a bool, as a test -/
theorem pt_val {e : Expr} {t : TE} (h : PE X e t) (he : ∀ whole, isTrue e X.env whole = (do let v ← whole; standAt e.pos; holding [v] (truthy v)) := by intro _; rfl) : PT X e (tB t) := by
  intro pins s σ H Q I hw
  refine isTrue_plain (thn (h pins s σ H _ I hw) fun v s1 ⟨x, H1, I1, r1, q1⟩ => ?_) (he _)
  obtain ⟨d, rfl, q⟩ := q1
  cases r1
  exact wpAny_truthy_bool ⟨H1, I1, q⟩

/-! ### and, or, not -/
variable {tA tB' : TT} {rest : List Expr}
def tAnd (t u : TT) : TT := fun σ H Q => t σ H fun c H1 => if c = true then u σ H1 Q else Q false H1
def tOr (t u : TT) : TT := fun σ H Q => t σ H fun c H1 => if c = true then Q true H1 else u σ H1 Q
def tNot (t : TT) : TT := fun σ H Q => t σ H fun c H1 => Q (!c) H1
theorem pw_and1 (ha : PT X a tA) : PW X (.BoolOp .And [a] pos) tA := by
  intro wh pins s σ H Q I h
  refine isTrue_and (thn (ha pins s σ H Q I h) fun c s1 e => ?_)
  cases c with
  | true => exact isTrue_and_nil e
  | false => exact e
theorem pw_or1 (ha : PT X a tA) : PW X (.BoolOp .Or [a] pos) tA := by
  intro wh pins s σ H Q I h
  refine isTrue_or (thn (ha pins s σ H Q I h) fun c s1 e => ?_)
  cases c with
  | false => exact isTrue_or_nil e
  | true => exact e
theorem pw_and (ha : PT X a tA) (hb : PW X (.BoolOp .And (b :: rest) pos) tB') : PW X (.BoolOp .And (a :: b :: rest) pos) (tAnd tA tB') := by
  intro wh pins s σ H Q I h
  refine isTrue_and (thn (ha pins s σ H _ I h) fun c s1 ⟨H1, I1, q1⟩ => ?_)
  cases c with
  | true => exact hb wh pins s1 σ H1 Q I1 q1
  | false => exact ⟨H1, I1, q1⟩
theorem pw_or (ha : PT X a tA) (hb : PW X (.BoolOp .Or (b :: rest) pos) tB') : PW X (.BoolOp .Or (a :: b :: rest) pos) (tOr tA tB') := by
  intro wh pins s σ H Q I h
  refine isTrue_or (thn (ha pins s σ H _ I h) fun c s1 ⟨H1, I1, q1⟩ => ?_)
  cases c with
  | true => exact ⟨H1, I1, q1⟩
  | false => exact hb wh pins s1 σ H1 Q I1 q1
theorem pt_not (ha : PT X a tA) : PT X (.UnaryOp .Not a pos) (tNot tA) := by
  intro pins s σ H Q I h
  exact isTrue_not (ha pins s σ H (fun c H1 => Q (!c) H1) I h)
/-- .. as values (bools) -/
def tAndV (ta tb : TE) : TE := fun σ H Q => ta σ H fun x H1 => ∃ c, x = .bl c ∧ if c = true then tb σ H1 Q else Q (.bl false) H1
def tOrV (ta tb : TE) : TE := fun σ H Q => ta σ H fun x H1 => ∃ c, x = .bl c ∧ if c = true then Q (.bl true) H1 else tb σ H1 Q
def tNotV (ta : TE) : TE := fun σ H Q => ta σ H fun x H1 => ∃ c, x = .bl c ∧ Q (.bl (!c)) H1
theorem pe_one {op} {t : TE} (h : PE X a t) : PE X (.BoolOp op [a] pos) t := fun pins s σ H Q I hw => BoolOp_one (h pins s σ H Q I hw)
theorem pe_and (ha : PE X a ta) (hb : PE X (.BoolOp .And (b :: rest) pos) tb) : PE X (.BoolOp .And (a :: b :: rest) pos) (tAndV ta tb) := by
  intro pins s σ H Q I h
  refine BoolOp_and (thn (ha pins s σ H _ I h) fun v s1 ⟨x, H1, I1, r1, q1⟩ => ?_)
  obtain ⟨c, rfl, q1⟩ := q1
  cases r1
  refine wpAny_truthy_bool ?_
  cases c with
  | true => exact hb pins s1 σ H1 Q I1 q1
  | false => exact ⟨.bl false, H1, I1, rfl, q1⟩
/-- a if t else b -/
def tIf (t : TT) (ta tb : TE) : TE := fun σ H Q => t σ H fun c H1 => if c = true then ta σ H1 Q else tb σ H1 Q
theorem pe_ifExp {c : Expr} (hc : PT X c tA) (ha : PE X a ta) (hb : PE X b tb) : PE X (.IfExp c a b pos) (tIf tA ta tb) := by
  intro pins s σ H Q I h
  refine wpAny_IfExp (thn (hc pins s σ H _ I h) fun d s1 ⟨H1, I1, q1⟩ => ?_)
  cases d with
  | true => exact ha pins s1 σ H1 Q I1 q1
  | false => exact hb pins s1 σ H1 Q I1 q1
end
end L2

namespace L2
open PySem PySem.Spec PyProof.Rows

/-! ### a list, a tuple that is read: tracked, frozen, or an object of the module -/
def SqL (K : PySem.W.Frag) (H : Hp) (a : Addr) (xs : List V) : Prop :=
  Rd H a (.lst xs) ∨
    ∃ (o : Obj) (its : Array Value) (n : Nat), K.lookup a = some o ∧ o.cls = .type "list" ∧ o.dict = none ∧ o.data = .seq its n ∧ its.size ≤ sizeLine ∧ Vals xs its.toList
def SqT (K : PySem.W.Frag) (H : Hp) (a : Addr) (xs : List V) : Prop :=
  Rd H a (.tup xs) ∨
    ∃ (o : Obj) (its : Array Value) (n : Nat), K.lookup a = some o ∧ o.cls = .type "tuple" ∧ o.data = .seq its n ∧ its.size ≤ sizeLine ∧ Vals xs its.toList
def absV : Value → Option V
  | .none => some .non
  | .bool b => some (.bl b)
  | .int i _ => some (.int i)
  | .str x _ => some (.str x)
  | .bytes b _ => some (.byt b)
  | .float b _ => some (.flt b)
  | .ref a => some (.ref a)
  | .type n => some (.ty n)
  | _ => none
theorem RelV.abs {x : V} {u : Value} (r : RelV x u) : absV u = some x := by
  cases x with
  | non => cases r; rfl
  | bl _ => cases r; rfl
  | int _ => obtain ⟨t, rfl⟩ := r; rfl
  | str _ => obtain ⟨t, rfl⟩ := r; rfl
  | byt _ => obtain ⟨t, rfl⟩ := r; rfl
  | flt _ => obtain ⟨t, rfl⟩ := r; rfl
  | ref _ => cases r; rfl
  | ty _ => cases r; rfl
theorem RelV.inj {x y : V} {u : Value} (r : RelV x u) (q : RelV y u) : x = y := Option.some.inj (r.abs.symm.trans q.abs)
theorem Vals.inj : ∀ {xs ys : List V} {us : List Value}, Vals xs us → Vals ys us → xs = ys
  | _, _, _, .nil, .nil => rfl
  | _, _, _, .cons r t, .cons r' t' => by rw [r.inj r', Vals.inj t t']
section
variable {X : Cx} {pins : List (Addr × Obj)} {σ : St} {H : Hp} {s : Shared} {a : Addr} {xs ys : List V}
theorem SqL.of {K : PySem.W.Frag} (h : H a = some (.lst xs)) : SqL K H a xs := .inl (.inl h)
theorem Inv.list (I : Inv X pins σ H s) (h : SqL X.K H a xs) : ∃ its : List Value, Vals xs its ∧ PlainL s.heap a its.toArray ∧ xs.length ≤ sizeLine := by
  rcases h with h | ⟨o, its, n, hk, hc, hd, hs, hz, r⟩
  · obtain ⟨z, its, n, r, e⟩ := h.ok I.hok
    exact ⟨its, r, ⟨_, n, e, rfl, rfl, rfl⟩, z⟩
  · refine ⟨its.toList, r, ⟨o, n, I.kIn a o hk, hc, hd, by simpa using hs⟩, ?_⟩
    have e := r.length
    simp only [Array.length_toList] at e
    omega
theorem Inv.tuple (I : Inv X pins σ H s) (h : SqT X.K H a xs) : ∃ its : List Value, Vals xs its ∧ IsTup s.heap a its.toArray ∧ xs.length ≤ sizeLine := by
  rcases h with h | ⟨o, its, n, hk, hc, hs, hz, r⟩
  · obtain ⟨z, its, r, p⟩ := h.ok I.hok
    exact ⟨its, r, p, z⟩
  · refine ⟨its.toList, r, ⟨o, I.kIn a o hk, hc, n, by simpa using hs⟩, ?_⟩
    have e := r.length
    simp only [Array.length_toList] at e
    omega
theorem Inv.list_inj (I : Inv X pins σ H s) (h : SqL X.K H a xs) (h' : SqL X.K H a ys) : xs = ys := by
  obtain ⟨its, r, ⟨o, n, e, _, _, d⟩, _⟩ := I.list h
  obtain ⟨its', r', ⟨o', n', e', _, _, d'⟩, _⟩ := I.list h'
  rw [e] at e'; cases e'
  rw [d] at d'
  injection d' with d1 _
  have : its = its' := by simpa using congrArg Array.toList d1
  subst this
  exact r.inj r'
end

/-! ### another wish about exceptions -/
abbrev Cx.wish (X : Cx) (E : Value → Shared → Prop) : Cx := { X with xe := E }
/-- no exception leaves -/
abbrev Cx.nox (X : Cx) : Cx := X.wish fun _ _ => False
theorem Cx.Ok.wish {X : Cx} (ok : X.Ok) (E : Value → Shared → Prop) : (X.wish E).Ok :=
  ⟨ok.mod, ok.kind, ok.glob, ok.blt, ok.above, ok.inj, ok.has, ok.cab, ok.hd, ok.frames, ok.stk, ok.exf, ok.bs, ok.bsz, ok.noex, ok.exfs, ok.funs, ok.frf⟩
theorem Cx.Ok.unwish {X : Cx} {E : Value → Shared → Prop} (ok : (X.wish E).Ok) : X.Ok :=
  ⟨ok.mod, ok.kind, ok.glob, ok.blt, ok.above, ok.inj, ok.has, ok.cab, ok.hd, ok.frames, ok.stk, ok.exf, ok.bs, ok.bsz, ok.noex, ok.exfs, ok.funs, ok.frf⟩
section
variable {X : Cx} {pins : List (Addr × Obj)} {σ : St} {H : Hp} {s : Shared} {E : Value → Shared → Prop}
theorem Inv.wish (I : Inv X pins σ H s) (E : Value → Shared → Prop) : Inv (X.wish E) pins σ H s := ⟨I.ok.wish E, I.os, I.bare, I.base, I.loc, I.cell, I.free, I.freeC, I.pin, I.hok, I.len⟩
theorem Inv.unwish (I : Inv (X.wish E) pins σ H s) : Inv X pins σ H s := ⟨I.ok.unwish, I.os, I.bare, I.base, I.loc, I.cell, I.free, I.freeC, I.pin, I.hok, I.len⟩
theorem SP.unwish {D : Ends} {f : Flow} {s' : Shared} (h : SP (X.wish E) pins D f s') : SP X pins D f s' := by
  cases f with
  | next => obtain ⟨σ', H', I, q⟩ := h; exact ⟨σ', H', I.unwish, q⟩
  | brk => obtain ⟨σ', H', I, q⟩ := h; exact ⟨σ', H', I.unwish, q⟩
  | cont => obtain ⟨σ', H', I, q⟩ := h; exact ⟨σ', H', I.unwish, q⟩
  | ret u => obtain ⟨v, σ', H', I, r, q⟩ := h; exact ⟨v, σ', H', I.unwish, r, q⟩
theorem PSs.nox {st : List Stmt} {t : TS} (h : PSs X.nox st t) : PSs X st t := fun pins s σ H D I hw =>
  wpAny_mono (h pins s σ H D (I.wish _) hw) (fun _ _ q => q.unwish) fun _ _ z => False.elim z
end

/-! ### blocks and small statements -/
section
variable {X : Cx} {st : Stmt} {rest : List Stmt} {t u : TS} {e : Expr} {te : TE} {pos : Pos}
def tNext : TS := fun D σ H => D.nx σ H
def tSeq (t u : TS) : TS := fun D σ H => t { D with nx := u D } σ H
theorem pss_nil : PSs X [] tNext := fun _ _ σ H _ I h => wpAny_execs_nil ⟨σ, H, I, h⟩
theorem pss_cons (h1 : PS X st t) (h2 : PSs X rest u) : PSs X (st :: rest) (tSeq t u) := by
  intro pins s σ H D I h
  refine wpAny_execs_cons (thn (h1 pins s σ H { D with nx := u D } I h) fun f s1 q => ?_)
  cases f with
  | next =>
    obtain ⟨σ', H', I', q⟩ := q
    exact h2 pins s1 σ' H' D I' q
  | ret v => exact q
  | brk => exact q
  | cont => exact q
theorem pss_one (h1 : PS X st t) : PSs X [st] t := by
  intro pins s σ H D I h
  refine wpAny_execs_cons (thn (h1 pins s σ H D I h) fun f s1 q => ?_)
  cases f with
  | next => exact wpAny_execs_nil q
  | ret v => exact q
  | brk => exact q
  | cont => exact q
/-- in a def's body nothing is shown -/
theorem Inv.quiet {pins : List (Addr × Obj)} {σ : St} {H : Hp} {s : Shared} (I : Inv X pins σ H s) : interactive X.env = false := by simp [interactive, I.ok.kind]
/-- an expression whose value is dropped -/
def tDrop (te : TE) : TS := fun D σ H => te σ H fun _ H1 => D.nx σ H1
theorem ps_expr (he : PE X e te) (hs : swapsWith e none pos.line X.env = pure false := by rfl) : PS X (.Expr e pos) (tDrop te) := by
  intro pins s σ H D I h
  exact wpAny_Expr_any (thn (he pins s σ H _ I h) fun v s1 ⟨x, H1, I1, r1, q1⟩ => ⟨σ, H1, I1, q1⟩) I.quiet hs
def tRet (te : TE) : TS := fun D σ H => te σ H D.rt
theorem ps_ret (he : PE X e te) : PS X (.Return (some e) pos) (tRet te) := by
  intro pins s σ H D I h
  exact wpAny_Return_some (thn (he pins s σ H _ I h) fun v s1 ⟨x, H1, I1, r1, q1⟩ => ⟨x, σ, H1, I1, r1, q1⟩)
def tRetN : TS := fun D _ H => D.rt .non H
theorem ps_retN : PS X (.Return none pos) tRetN := fun _ _ σ H _ I h => wpAny_Return_none ⟨.non, σ, H, I, rfl, h⟩
def tIfS (c : TT) (t u : TS) : TS := fun D σ H => c σ H fun b H1 => if b = true then t D σ H1 else u D σ H1
theorem ps_if {c : Expr} {a b : List Stmt} {tc : TT} (hc : PT X c tc) (ha : PSs X a t) (hb : PSs X b u) : PS X (.If c a b pos) (tIfS tc t u) := by
  intro pins s σ H D I h
  refine wpAny_If (thn (hc pins s σ H _ I h) fun d s1 ⟨H1, I1, q1⟩ => ?_)
  cases d with
  | true => exact ha pins s1 σ H1 D I1 q1
  | false => exact hb pins s1 σ H1 D I1 q1
end

/-! ### targets -/
abbrev TG := V → St → Hp → (St → Hp → Prop) → Prop
abbrev TGs := List V → St → Hp → (St → Hp → Prop) → Prop
def PG (X : Cx) (target : Expr) (t : TG) : Prop :=
  ∀ (pins : List (Addr × Obj)) (s : Shared) (σ : St) (H : Hp) (v : V) (u : Value) (Q : St → Hp → Prop), Inv X pins σ H s → RelV v u → t v σ H Q →
    wpAny (model X.prog X.w) X.A (assign target X.env u) (fun _ s' => ∃ σ' H', Inv X pins σ' H' s' ∧ Q σ' H') X.xe s
/-- several targets, one after another -/
def PGs (X : Cx) (ts : List Expr) (t : TGs) : Prop :=
  ∀ (pins : List (Addr × Obj)) (s : Shared) (σ : St) (H : Hp) (vs : List V) (us : List Value) (Q : St → Hp → Prop), Inv X pins σ H s → Vals vs us → t vs σ H Q →
    wpAny (model X.prog X.w) X.A (assignInOrder ((assignEach ts X.env).map (·.2)) us) (fun _ s' => ∃ σ' H', Inv X pins σ' H' s' ∧ Q σ' H') X.xe s
/-- o[i] = v, by values -/
abbrev TSet := V → V → V → Hp → (Hp → Prop) → Prop
def PSet (X : Cx) (t : TSet) : Prop :=
  ∀ (pins : List (Addr × Obj)) (s : Shared) (σ : St) (H : Hp) (o i v : V) (ov iv u : Value) (Q : Hp → Prop), Inv X pins σ H s → RelV o ov → RelV i iv → RelV v u → t o i v H Q →
    wpAny (model X.prog X.w) X.A (setItem ov iv u) (fun _ s' => ∃ H', Inv X pins σ H' s' ∧ Q H') X.xe s
/-- a op= b, by values -/
abbrev TIp := V → V → Hp → VK → Prop
section
variable {X : Cx} {pos : Pos}
def gName (i : Nat) : TG := fun v σ H Q => Q (σ.set i (some v)) H
theorem pg_name {i : Nat} {x : Str} (hN : X.N.Nodup) (hi : X.N[i]? = some x) (hx : Loc X.env.scope x) (hf : X.fn x = true ∨ X.env.scope.names.lookup x = some .local := by first | exact .inl rfl | exact .inr rfl | assumption) : PG X (.Name x pos) (gName i) := by
  intro pins s σ H v u Q I r h
  exact wpAny_assign_Name (store_ok I hN hi hx r (fun s' I' => ⟨_, H, I', h⟩) hf)
def gNil : TGs := fun vs σ H Q => vs = [] ∧ Q σ H
def gCons (t : TG) (u : TGs) : TGs := fun vs σ H Q => ∃ v r, vs = v :: r ∧ t v σ H fun σ' H' => u r σ' H' Q
theorem pgs_nil : PGs X [] gNil := by
  intro pins s σ H vs us Q I r h
  obtain ⟨e, h⟩ := h
  subst e
  cases r
  exact assignInOrder_nil ⟨σ, H, I, h⟩
theorem pgs_cons {e : Expr} {es : List Expr} {t : TG} {u : TGs} (h1 : PG X e t) (h2 : PGs X es u)
    (hs : (assignEach (e :: es) X.env).map (·.2) = assign e X.env :: (assignEach es X.env).map (·.2) := by rfl) : PGs X (e :: es) (gCons t u) := by
  intro pins s σ H vs us Q I r h
  obtain ⟨v, vr, e1, h⟩ := h
  subst e1
  cases r with
  | cons r rr =>
    rw [hs]
    refine assignInOrder_cons (thn (h1 pins s σ H _ _ _ I r h) fun _ s1 ⟨σ1, H1, I1, q1⟩ => ?_)
    exact h2 pins s1 σ1 H1 _ _ Q I1 rr q1
/-- (a, b, ..) = a tuple of that length -/
def gTup (K : PySem.W.Frag) (n : Nat) (t : TGs) : TG := fun v σ H Q => ∃ a xs, v = .ref a ∧ SqT K H a xs ∧ xs.length = n ∧ t xs σ H Q
theorem pg_tup {es : List Expr} {k : Nat} {t : TGs} {n : Nat} (hc : X.calm = true) (h : PGs X es t)
    (hn : (assignEach es X.env).length = n := by rfl) (hst : (assignEach es X.env).findIdx? (·.1) = none := by rfl) : PG X (.Tuple es k pos) (gTup X.K n t) := by
  intro pins s σ H v u Q I r hw
  obtain ⟨a, xs, e1, hq, hl, hw⟩ := hw
  subst e1
  cases r
  obtain ⟨its, rv, ht, hz⟩ := I.tuple hq
  refine assign_Tuple_tuple (I.ok.hd hc) ht (by simp [hn, ← hl, rv.length]) hst fun h' hx => ?_
  have I1 : Inv X pins σ H { s with heap := h' } := I.kept (t' := s.toks) fun b o e => hx b o (Nat.ne_of_lt (Heap.lt_size e)) e
  exact h pins _ σ H xs _ Q I1 (by simpa using rv) hw
/-- o[i] = .. -/
def gSub (to ti : TE) (t : TSet) : TG := fun v σ H Q => to σ H fun o H1 => ti σ H1 fun i H2 => t o i v H2 fun H3 => Q σ H3
theorem pg_sub {o i : Expr} {to ti : TE} {t : TSet} (ho : PE X o to) (hi : PE X i ti) (hs : PSet X t)
    (ha : ∀ v, assign (.Subscript o i pos) X.env v = (do
      let ov ← holding [v] (eval o X.env)
      let iv ← holding [v, ov] (eval i X.env)
      standAt pos
      holding [v, ov, iv] (setItem ov iv v)
      release [v, ov, iv] []) := by intro _; rfl) : PG X (.Subscript o i pos) (gSub to ti t) := by
  intro pins s σ H v u Q I r h
  rw [ha]
  refine wpAny_bind (wpAny_holding (thn (ho pins s σ H _ I h) fun ov s1 ⟨x, H1, I1, r1, q1⟩ => ?_))
  refine wpAny_bind (wpAny_holding (thn (hi pins s1 σ H1 _ I1 q1) fun iv s2 ⟨y, H2, I2, r2, q2⟩ => ?_))
  refine wpAny_bind (wpAny_standAt (wpAny_bind (wpAny_holding (thn (hs pins s2 σ H2 x y v ov iv u _ I2 r1 r2 r q2) fun _ s3 ⟨H3, I3, q3⟩ => ?_))))
  exact wpAny_release ⟨σ, H3, I3, q3⟩
/-- target = value -/
def tAsg (te : TE) (g : TG) : TS := fun D σ H => te σ H fun x H1 => g x σ H1 D.nx
theorem ps_asg {tg e : Expr} {te : TE} {g : TG} (he : PE X e te) (hg : PG X tg g) (hs : swapsWithSole [tg] e pos.line X.env = pure false := by rfl) (hw : swappedStores [tg] e X.env = pure none := by rfl)
    (h1 : (assignEach [tg] X.env).map (·.2) = [assign tg X.env] := by rfl) : PS X (.Assign [tg] e pos) (tAsg te g) := by
  intro pins s σ H D I h
  refine wpAny_Assign_stores (thn (he pins s σ H _ I h) fun v s1 ⟨x, H1, I1, r1, q1⟩ => ?_) hs hw
  rw [h1]
  exact thn (hg pins s1 σ H1 x v _ I1 r1 q1) fun _ s2 q => q
/-- name = value -/
theorem ps_set {i : Nat} {x : Str} {e : Expr} {te : TE} {pos' : Pos} (hN : X.N.Nodup) (hi : X.N[i]? = some x) (hx : Loc X.env.scope x) (he : PE X e te) (hs : swapsWith e (some (.Name x pos')) pos.line X.env = pure false := by rfl) (hf : X.fn x = true ∨ X.env.scope.names.lookup x = some .local := by first | exact .inl rfl | exact .inr rfl | assumption) :
    PS X (.Assign [.Name x pos'] e pos) (tAsg te (gName i)) := by
  intro pins s σ H D I h
  refine wpAny_Assign_Name (thn (he pins s σ H _ I h) fun v s1 ⟨y, H1, I1, r1, q1⟩ => ?_) hs
  exact store_ok I1 hN hi hx r1 (fun s2 I2 => ⟨_, H1, I2, q1⟩) hf
/-- name op= e -/
def tAug (i : Nat) (te : TE) (ti : TIp) : TS := fun D σ H => ∃ x, σ[i]? = some (some x) ∧ te σ H fun y H1 => ti x y H1 fun z H2 => D.nx (σ.set i (some z)) H2
/-- ints -/
def ipI (f : Int → Int → Int) : TIp := fun x y H Q => ∃ i j, x = .int i ∧ y = .int j ∧ Q (.int (f i j)) H
end

/-! ### while -/
section
variable {X : Cx} {pos : Pos}
/-- the invariant W with its measure -/
def tWhile (c : TT) (tb : TS) : TS := fun D σ H => ∃ W : Nat → St → Hp → Prop, (∃ m, W m σ H) ∧ ∀ m σ H, W m σ H →
  c σ H fun b H1 => if b = true then ∃ N : St → Hp → Prop, (∀ σ' H', N σ' H' → ∃ m', m' < m ∧ W m' σ' H') ∧ tb { D with nx := N, ct := N, bk := D.nx } σ H1 else D.nx σ H1
theorem ps_while {c : Expr} {body : List Stmt} {tc : TT} {tb : TS} (hp : PassesOwn (model X.prog X.w) X.A X.env X.xe) (hc : PT X c tc) (hb : PSs X body tb) : PS X (.While c body [] pos) (tWhile tc tb) := by
  intro pins s σ H D I h
  obtain ⟨W, ⟨m0, w0⟩, turn⟩ := h
  refine wpAny_While (codeAny_whileLoop (fun n s' => ∃ σ' H', Inv X pins σ' H' s' ∧ W n σ' H') ?_ m0 ⟨σ, H, I, w0⟩)
  rintro n s1 ⟨σ1, H1, I1, w1⟩
  refine wpAny_passesOwn hp (thn (hc pins s1 σ1 H1 _ I1 (turn n σ1 H1 w1)) fun b s2 ⟨H2, I2, q2⟩ => ?_)
  cases b with
  | true =>
    obtain ⟨N, hN, q2⟩ := q2
    rw [if_pos rfl]
    refine wpAny_passesOwn hp (thn (hb pins s2 σ1 H2 _ I2 q2) fun f s3 q3 => ?_)
    cases f with
    | next =>
      obtain ⟨σ3, H3, I3, n3⟩ := q3
      obtain ⟨m', hm, w3⟩ := hN σ3 H3 n3
      exact ⟨m', hm, σ3, H3, I3, w3⟩
    | cont =>
      obtain ⟨σ3, H3, I3, n3⟩ := q3
      obtain ⟨m', hm, w3⟩ := hN σ3 H3 n3
      exact ⟨m', hm, σ3, H3, I3, w3⟩
    | brk => exact q3
    | ret v => exact q3
  | false =>
    rw [if_neg Bool.false_ne_true]
    exact wpAny_execs_nil ⟨σ1, H2, I2, q2⟩
end

/-! ### what a loop or a comprehension walks -/
/-- at turn i: it yields x (the heap may grow), or it stops -/
structure It where
  go : Nat → Hp → Prop
  yld : Nat → Hp → V → Hp → Prop
  stop : Nat → Hp → Prop
/-- the iterator's own objects may turn: they are not the frame's, not pinned, younger than the entry (or a comprehension's own) -/
def FpOk (X : Cx) (pins : List (Addr × Obj)) (H : Hp) (b : Addr) : Prop :=
  H b = none ∧ b ≠ X.env.locals ∧ b ∉ X.fs ∧ (b ∈ X.ex ∨ X.s_0.heap.objs.size ≤ b) ∧ (∀ x c, X.env.cells.lookup x = some c → c ≠ b) ∧ ∀ p ∈ X.pn ++ pins, p.1 ≠ b
theorem Inv.fpOk {X : Cx} {pins : List (Addr × Obj)} {σ : St} {H H' : Hp} {s : Shared} {b : Addr} (I : Inv X pins σ H s) (hb : s.heap.objs.size ≤ b) (hn : H' b = none) : FpOk X pins H' b := by
  refine ⟨hn, Nat.ne_of_gt (Nat.lt_of_lt_of_le I.lt hb), I.nofs hb, .inr (Nat.le_trans I.sz hb), fun x c e z => ?_, fun p hp z => ?_⟩
  · obtain ⟨v, q⟩ := I.cell x c e
    exact absurd (Nat.lt_of_lt_of_le q.lt (by rw [z]; exact hb)) (Nat.lt_irrefl _)
  · exact absurd (Nat.lt_of_lt_of_le (Heap.lt_size (I.pin p hp).1) (by rw [z]; exact hb)) (Nat.lt_irrefl _)
structure Turn (P : Program) (w : World) (K : PySem.W.Frag) (tg : Expr) (J : It) (fp : List Addr) (it : Addr) (tn : Nat → Heap → Prop) : Prop where
  mem : it ∈ fp
  obj : ∀ i h, tn i h → ∀ b ∈ fp, ∃ o, h.get? b = some o ∧ ∀ v, o.data ≠ .cell v
  keep : ∀ i h h', tn i h → (∀ b ∈ fp, ∀ o, h.get? b = some o → h'.get? b = some o) → tn i h'
  item : ∀ (X : Cx), X.prog = P → X.w = w → X.K = K → X.calm = true → ∀ (i : Nat) (pins : List (Addr × Obj)) (s : Shared) (σ : St) (H : Hp) (E : Value → Shared → Prop), Inv X pins σ H s → (∀ b ∈ fp, FpOk X pins H b) → tn i s.heap → J.go i H →
    wpAny (model P w) X.A (pyNext (.ref it)) (fun r s1 => ∃ u, r = some u ∧
      wpAny (model P w) X.A (letOwnedTupleGo tg (.ref it) u) (fun _ s2 => ∃ x H', Inv X pins σ H' s2 ∧ RelV x u ∧ J.yld i H x H' ∧ tn (i + 1) s2.heap ∧ ∀ b ∈ fp, H' b = none) E s1) E s
  done : ∀ (X : Cx), X.prog = P → X.w = w → X.K = K → X.calm = true → ∀ (i : Nat) (pins : List (Addr × Obj)) (s : Shared) (σ : St) (H : Hp) (E : Value → Shared → Prop), Inv X pins σ H s → (∀ b ∈ fp, FpOk X pins H b) → tn i s.heap → J.stop i H →
    wpAny (model P w) X.A (pyNext (.ref it)) (fun r s1 => r = none ∧ Inv X pins σ H s1) E s
  self : ∀ (A : Around) (i : Nat) (s : Shared) (Q : Value → Shared → Prop) (E : Value → Shared → Prop), tn i s.heap → Q (.ref it) s → wpAny (model P w) A (pyIter (.ref it)) Q E s
abbrev TI := St → Hp → (It → Hp → Prop) → Prop
/-- an iterator has come -/
def PIE (X : Cx) (pins : List (Addr × Obj)) (σ : St) (tg : Expr) (R : It → Hp → Prop) (itv : Value) (s2 : Shared) : Prop :=
  ∃ (it : Addr) (fp : List Addr) (tn : Nat → Heap → Prop) (J : It) (H' : Hp), itv = .ref it ∧ Inv X pins σ H' s2 ∧ Turn X.prog X.w X.K tg J fp it tn ∧ tn 0 s2.heap ∧ (∀ b ∈ fp, FpOk X pins H' b) ∧ R J H'
def PI (X : Cx) (tg iter : Expr) (wi : TI) : Prop :=
  ∀ (pins : List (Addr × Obj)) (s : Shared) (σ : St) (H : Hp) (R : It → Hp → Prop), Inv X pins σ H s → wi σ H R →
    wpAny (model X.prog X.w) X.A (eval iter X.env) (fun v s1 => wpAny (model X.prog X.w) X.A (pyIter v) (PIE X pins σ tg R) X.xe s1) X.xe s

/-- the step ahead of the store is nothing for an iterator that keeps no tuple -/
theorem go_of {M : Model} {A : Around} {E : Value → Shared → Prop} {s : Shared} {tg : Expr} {it : Addr} {u : Value} {o : Obj} {n : String} {vs : Array Value} {Q : Unit → Shared → Prop} (ho : s.heap.get? it = some o) (hc : o.cls = .type n) (hd : o.data = .fields vs)
    (hn : ["enumerate", "zip", "dict_itemiterator", "dict_reverseitemiterator", "odict_iterator", "itertools.zip_longest", "itertools.pairwise"].contains n = false) (hQ : Q () s) : wpAny M A (letOwnedTupleGo tg (.ref it) u) Q E s := by
  unfold letOwnedTupleGo
  cases tg <;> first
    | exact wpAny_pure hQ
    | (cases u <;> first
        | exact wpAny_pure hQ
        | (refine wpAny_bind (wpAny_load ho ?_)
           rw [hc, hd]
           show wpAny M A (if (["enumerate", "zip", "dict_itemiterator", "dict_reverseitemiterator", "odict_iterator", "itertools.zip_longest", "itertools.pairwise"].contains n && vs[0]? == some (rawInt _)) = true then _ else _) Q E s
           rw [if_neg (by intro h; rw [hn, Bool.false_and] at h; cases h)]
           exact wpAny_pure hQ))

/-- the list at a, as it stands at each turn (a loop may append to it) -/
def Itl (K : PySem.W.Frag) (a : Addr) : It :=
  ⟨fun i H => ∃ xs x, SqL K H a xs ∧ xs[i]? = some x, fun i H x H' => H' = H ∧ ∀ xs, SqL K H a xs → xs[i]? = some x, fun i H => ∃ xs, SqL K H a xs ∧ xs.length ≤ i⟩
/-- lo, lo + 1, .. (n of them) -/
def Itr (lo : Int) (n : Nat) : It := ⟨fun i _ => i < n, fun i H x H' => H' = H ∧ x = .int (lo + i), fun i _ => n ≤ i⟩
theorem turn_list {P : Program} {w : World} {K : PySem.W.Frag} {tg : Expr} (a it : Addr) : Turn P w K tg (Itl K a) [it] it (fun i h => h.IsListIter it a i) where
  mem := by simp
  obj := fun i h st b hb => by
    have e : b = it := by simpa using hb
    subst e
    obtain ⟨o, e, c, d⟩ := st
    exact ⟨o, e, fun v z => by rw [d] at z; cases z⟩
  keep := fun i h h' st k => st.at fun o e => k it (by simp) o e
  item := by
    intro X hP hw hK hc i pins s σ H E I hf st hg
    subst hP hw hK
    obtain ⟨xs, x, hq, hx⟩ := hg
    obtain ⟨its, rv, p, hz⟩ := I.list hq
    obtain ⟨u, hu, ru⟩ := rv.get hx
    obtain ⟨f0, f1, f2, f3, f4, f5⟩ := hf it (by simp)
    refine wpAny_pyNext_list_item st p.isList (x := u) (by simpa using hu) fun h' st' sb => ?_
    have I1 : Inv X pins σ H { s with heap := h' } := I.turned (t' := s.toks) (fun b o hb e => (sb.2 b hb).trans e) f0 f1 f3 f4 f5
    obtain ⟨o, e, c, d⟩ := id st'
    exact ⟨u, rfl, go_of (s := { s with heap := h' }) e c d (by decide) ⟨x, H, I1, ru, ⟨rfl, fun ys hy => by rw [I.list_inj hy hq]; exact hx⟩, st', fun b hb => (hf b hb).1⟩⟩
  done := by
    intro X hP hw hK hc i pins s σ H E I hf st hg
    subst hP hw hK
    obtain ⟨xs, hq, hx⟩ := hg
    obtain ⟨its, rv, p, hz⟩ := I.list hq
    obtain ⟨f0, f1, f2, f3, f4, f5⟩ := hf it (by simp)
    have hl := rv.length
    exact wpAny_pyNext_list_end (I.ok.hd hc) st p.isList (by simp; omega) fun h' eb => ⟨rfl, I.turned (t' := s.toks) (fun b o hb e => eb b o hb e) f0 f1 f3 f4 f5⟩
  self := fun _ _ _ _ _ st h => wpAny_pyIter_listiter st h
theorem turn_range {P : Program} {w : World} {K : PySem.W.Frag} {tg : Expr} (it : Addr) (lo : Int) (n : Nat) : Turn P w K tg (Itr lo n) [it] it (fun i h => IsRangeIter h it (lo + (i : Nat) * 1) ((n : Int) - (i : Nat)) 1) where
  mem := by simp
  obj := fun i h st b hb => by
    have e : b = it := by simpa using hb
    subst e
    exact ⟨_, st, fun v z => by
      have z' : Data.fields _ = Data.cell v := z
      cases z'⟩
  keep := fun i h h' st k => k it (by simp) _ st
  item := by
    intro X hP hw hK hc i pins s σ H E I hf st hg
    subst hP hw hK
    obtain ⟨f0, f1, f2, f3, f4, f5⟩ := hf it (by simp)
    have W := Walks.range (prog := X.prog) (w := X.w) (I.ok.hd hc) it lo 1 n
    refine W.item i s _ _ hg st fun v h' tk hv st' kk => ?_
    obtain ⟨t, rfl⟩ := hv
    have I1 : Inv X pins σ H { s with heap := h', toks := tk } := I.turned (fun b o hb e => kk b o (by simpa using hb) e) f0 f1 f3 f4 f5
    refine ⟨_, rfl, go_of (s := { s with heap := h', toks := tk }) (n := "range_iterator") st' rfl rfl (by decide) ⟨.int (lo + i), H, I1, ⟨t, ?_⟩, ⟨rfl, rfl⟩, st', fun b hb => (hf b hb).1⟩⟩
    rw [Int.mul_one]
  done := by
    intro X hP hw hK hc i pins s σ H E I hf st hg
    subst hP hw hK
    obtain ⟨f0, f1, f2, f3, f4, f5⟩ := hf it (by simp)
    exact wpAny_pyNext_range_end (I.ok.hd hc) st (by have : n ≤ i := hg; omega) fun h' eb => ⟨rfl, I.turned (t' := s.toks) (fun b o hb e => eb b o hb e) f0 f1 f3 f4 f5⟩
  self := fun _ _ _ _ _ st h => wpAny_pyIter_rangeiter st h
end L2

namespace L2
open PySem PySem.Spec PyProof.Rows
section
variable {X : Cx} {tg : Expr}
def iList (K : PySem.W.Frag) (tl : TE) : TI := fun σ H R => tl σ H fun x H1 => ∃ a, x = .ref a ∧ (∃ xs, SqL K H1 a xs) ∧ R (Itl K a) H1
theorem pi_list {l : Expr} {tl : TE} (hl : PE X l tl) : PI X tg l (iList X.K tl) := by
  intro pins s σ H R I h
  refine thn (hl pins s σ H _ I h) fun v s1 ⟨x, H1, I1, r1, q1⟩ => ?_
  obtain ⟨a, e, ⟨xs, hq⟩, q⟩ := q1
  subst e
  cases r1
  obtain ⟨its, rv, p, hz⟩ := I1.list hq
  refine wpAny_pyIter_list p.isList ?_
  refine ⟨s1.heap.objs.size, [s1.heap.objs.size], _, _, H1, rfl, I1.kept (t' := s1.toks) fun b o e => Heap.get?_push_of_some _ e, turn_list a _, ⟨_, Heap.get?_push_size _ rfl, rfl, rfl⟩, fun b hb => ?_, q⟩
  have e : b = s1.heap.objs.size := by simpa using hb
  subst e
  exact I1.fpOk (Nat.le_refl _) (I1.hok.fresh (Nat.le_refl _))
/-- a range object just made, walked -/
theorem range_it {pins : List (Addr × Obj)} {σ : St} {H : Hp} {s : Shared} {R : It → Hp → Prop} {E : Value → Shared → Prop} {lo hi : Int} {t u v : Tok} {tk : Nat} (I : Inv X pins σ H s) (h1 : -(2 ^ 62) ≤ lo) (h2 : lo < 2 ^ 62) (h3 : -(2 ^ 62) ≤ hi) (h4 : hi < 2 ^ 62)
    (q : R (Itr lo (hi - lo).toNat) H) : wpAny (model X.prog X.w) X.A (pyIter (.ref s.heap.objs.size)) (PIE X pins σ tg R) E { s with heap := s.heap.push { cls := .type "range", data := .fields #[.int lo t, .int hi u, .int 1 v] }, toks := tk } := by
  refine wpAny_pyIter_range (IsRange.new ..) (small_one h1 h2 h3 h4) ?_
  have I1 : Inv X pins σ H { s with heap := s.heap.push { cls := .type "range", data := .fields #[.int lo t, .int hi u, .int 1 v] }, toks := tk } := I.kept fun b o e => Heap.get?_push_of_some _ e
  refine ⟨(s.heap.push { cls := .type "range", data := .fields #[.int lo t, .int hi u, .int 1 v] }).objs.size, [(s.heap.push { cls := .type "range", data := .fields #[.int lo t, .int hi u, .int 1 v] }).objs.size], _, _, H, rfl,
    I1.kept (t' := tk) fun b o e => Heap.get?_push_of_some _ e, turn_range _ lo (hi - lo).toNat, ?_, fun b hb => ?_, q⟩
  · have e1 : lo + ((0 : Nat) : Int) * 1 = lo := by simp
    have e2 : (((hi - lo).toNat : Nat) : Int) - ((0 : Nat) : Int) = Builtin.Range.rangeSize lo hi 1 := by rw [rangeSize_one]; split <;> omega
    show IsRangeIter _ _ (lo + ((0 : Nat) : Int) * 1) ((((hi - lo).toNat : Nat) : Int) - ((0 : Nat) : Int)) 1
    rw [e1, e2]
    exact Heap.get?_push_size _ rfl
  · have e : b = (s.heap.push { cls := .type "range", data := .fields #[.int lo t, .int hi u, .int 1 v] }).objs.size := by simpa using hb
    subst e
    exact I1.fpOk (Nat.le_refl _) (I1.hok.fresh (Nat.le_refl _))
def iRng1 (ta : TA) : TI := fun σ H R => ta σ H fun vs H1 => ∃ j : Int, vs = [.int j] ∧ -(2 ^ 62) ≤ j ∧ j < 2 ^ 62 ∧ R (Itr 0 j.toNat) H1
theorem pi_range1 {a : Expr} {ta : TA} {p pos : Pos} (hg : Gl X "range") (hm : X.mg "range" = none) (ha : PA X [a] ta) (hs : starEach [a] X.env = [(false, eval a X.env)] := by rfl) : PI X tg (.Call (.Name "range" p) [a] [] pos) (iRng1 ta) := by
  intro pins s σ H R I h
  refine Call_ (ld_blt I hg hm boot_range (PyProof.Rows.callWith_type1 (thn (ha pos pins s σ H _ I h) fun us s1 ⟨vs, H1, I1, r1, q1⟩ => ?_) hs rfl))
  obtain ⟨j, e, q1, q2, q⟩ := q1
  subst e
  cases r1 with
  | cons r rr =>
    cases rr
    obtain ⟨t, rfl⟩ := r
    exact call_range_1 (range_it I1 (by omega) (by omega) q1 q2 (by simpa using q))

/-! ### for -/
/-- W: the invariant by the turn and a measure; N: what the body is to reach -/
def tFor (wi : TI) (g : TG) (tb : TS) : TS := fun D σ H => wi σ H fun J H1 => ∃ W : Nat → Nat → St → Hp → Prop, (∃ m, W 0 m σ H1) ∧ ∀ i m σ H, W i m σ H →
  (J.stop i H ∧ D.nx σ H) ∨ (J.go i H ∧ ∃ N : St → Hp → Prop, (∀ σ' H', N σ' H' → ∃ m', m' < m ∧ W (i + 1) m' σ' H') ∧ ∀ x H', J.yld i H x H' → g x σ H' fun σ2 H2 => tb { D with nx := N, ct := N, bk := D.nx } σ2 H2)
/-- the records at fp as they stand -/
def pinsAt (fp : List Addr) (h : Heap) : List (Addr × Obj) := fp.filterMap fun b => (h.get? b).map fun o => (b, o)
theorem mem_pinsAt {fp : List Addr} {h : Heap} {b : Addr} {o : Obj} (hb : b ∈ fp) (e : h.get? b = some o) : (b, o) ∈ pinsAt fp h := List.mem_filterMap.mpr ⟨b, hb, by rw [e]; rfl⟩
theorem of_pinsAt {fp : List Addr} {h : Heap} {p : Addr × Obj} (hp : p ∈ pinsAt fp h) : p.1 ∈ fp ∧ h.get? p.1 = some p.2 := by
  obtain ⟨b, hb, e⟩ := List.mem_filterMap.mp hp
  cases q : h.get? b with
  | none => rw [q] at e; cases e
  | some o =>
    rw [q] at e
    have e' : (b, o) = p := Option.some.inj e
    subst e'
    exact ⟨hb, q⟩
theorem Inv.pinned {pins : List (Addr × Obj)} {σ : St} {H : Hp} {s : Shared} {fp : List Addr} (I : Inv X pins σ H s) (hf : ∀ b ∈ fp, FpOk X pins H b) (ho : ∀ b ∈ fp, ∃ o, s.heap.get? b = some o ∧ ∀ v, o.data ≠ .cell v) : Inv X (pins ++ pinsAt fp s.heap) σ H s :=
  I.pins_of fun p hp => (List.mem_append.mp hp).elim (fun z => I.pin p (List.mem_append_right _ z)) fun z => by
    obtain ⟨hb, e⟩ := of_pinsAt z
    obtain ⟨f0, f1, f2, _⟩ := hf p.1 hb
    obtain ⟨o, e', d⟩ := ho p.1 hb
    rw [e] at e'; cases e'
    exact ⟨e, f0, f1, f2, d⟩
theorem Inv.unpinned {pins pl : List (Addr × Obj)} {σ : St} {H : Hp} {s : Shared} (I : Inv X (pins ++ pl) σ H s) : Inv X pins σ H s := I.pins_of fun p hp => I.pin p (List.mem_append_right _ (List.mem_append_left _ hp))
theorem ps_for {iter : Expr} {body : List Stmt} {wi : TI} {g : TG} {tb : TS} {pos : Pos} (hp : PassesOwn (model X.prog X.w) X.A X.env X.xe) (hc : X.calm = true) (hi : PI X tg iter wi) (hg : PG X tg g) (hb : PSs X body tb)
    (hs : ∀ x, foldedSetIterable iter X.env x = pure x := by intro _; rfl) : PS X (.For tg iter body [] pos) (tFor wi g tb) := by
  intro pins s σ H D I h
  refine wpAny_For (thn (hi pins s σ H _ I h) fun v s1 h1 => thn h1 fun itv s2 h2 => ?_) hs
  obtain ⟨it, fp, tn, J, H2, e, I2, T, st2, f2, W, ⟨m0, w0⟩, turn⟩ := h2
  subst e
  -- what stays true of the iterator's objects through the loop
  have stat : ∀ {H' : Hp}, (∀ b ∈ fp, H' b = none) → ∀ b ∈ fp, FpOk X pins H' b := fun hn b hb => ⟨hn b hb, (f2 b hb).2⟩
  refine codeAny_forLoop_any (fun n s' => ∃ i σ' H', Inv X pins σ' H' s' ∧ tn i s'.heap ∧ (∀ b ∈ fp, H' b = none) ∧ W i n σ' H') ?_ m0 ⟨0, σ, H2, I2, st2, fun b hb => (f2 b hb).1, w0⟩
  rintro n s3 ⟨i, σ3, H3, I3, st3, fr3, w3⟩
  rcases turn i n σ3 H3 w3 with ⟨stop, qn⟩ | ⟨go, N, hN, step⟩
  · refine wpAny_passesOwn hp (thn (T.done X rfl rfl rfl hc i pins s3 σ3 H3 X.xe I3 (stat fr3) st3 stop) fun r s4 ⟨hr, I4⟩ => ?_)
    subst hr
    exact wpAny_execs_nil ⟨σ3, H3, I4, qn⟩
  · refine wpAny_passesOwn hp (thn (T.item X rfl rfl rfl hc i pins s3 σ3 H3 X.xe I3 (stat fr3) st3 go) fun r s4 ⟨u, hr, h4⟩ => ?_)
    subst hr
    refine wpAny_passesOwn hp (thn h4 fun _ s5 ⟨x, H5, I5, r5, y5, st5, fr5⟩ => ?_)
    have I5' := I5.pinned (stat fr5) (T.obj _ _ st5)
    refine wpAny_passesOwn hp (thn (hg _ s5 σ3 H5 x u _ I5' r5 (step x H5 y5)) fun _ s6 ⟨σ6, H6, I6, q6⟩ => ?_)
    refine wpAny_passesOwn hp (thn (hb _ s6 σ6 H6 _ I6 q6) fun f s7 q7 => ?_)
    have again : ∀ {σ7 : St} {H7 : Hp}, Inv X (pins ++ pinsAt fp s5.heap) σ7 H7 s7 → N σ7 H7 → ∃ m, m < n ∧ ∃ i σ' H', Inv X pins σ' H' s7 ∧ tn i s7.heap ∧ (∀ b ∈ fp, H' b = none) ∧ W i m σ' H' := fun {σ7 H7} I7 n7 => by
      obtain ⟨m', hm, w7⟩ := hN σ7 H7 n7
      refine ⟨m', hm, i + 1, σ7, H7, I7.unpinned, T.keep _ _ _ st5 fun b hb o e => (I7.pin (b, o) (List.mem_append_right _ (List.mem_append_right _ (mem_pinsAt hb e)))).1, fun b hb => ?_, w7⟩
      obtain ⟨o, e, d⟩ := T.obj _ _ st5 b hb
      exact (I7.pin (b, o) (List.mem_append_right _ (List.mem_append_right _ (mem_pinsAt hb e)))).2.1
    cases f with
    | next => obtain ⟨σ7, H7, I7, n7⟩ := q7; exact again I7 n7
    | cont => obtain ⟨σ7, H7, I7, n7⟩ := q7; exact again I7 n7
    | brk => obtain ⟨σ7, H7, I7, q7⟩ := q7; exact ⟨σ7, H7, I7.unpinned, q7⟩
    | ret v => obtain ⟨x7, σ7, H7, I7, r7, q7⟩ := q7; exact ⟨x7, σ7, H7, I7.unpinned, r7, q7⟩
end

/-! ### the forms one uses -/
/-- over a list that the body leaves as it is -/
theorem for_list {K : PySem.W.Frag} {a : Addr} {xs : List V} {g : TG} {tb : TS} {D : Ends} {σ : St} {H : Hp} (Pv : Nat → St → Hp → Prop) (h0 : Pv 0 σ H) (hl : ∀ i σ H, i ≤ xs.length → Pv i σ H → SqL K H a xs)
    (hs : ∀ i x σ H, xs[i]? = some x → Pv i σ H → g x σ H fun σ2 H2 => tb { D with nx := Pv (i + 1), ct := Pv (i + 1), bk := D.nx } σ2 H2) (hd : ∀ σ H, Pv xs.length σ H → D.nx σ H) :
    ∃ W : Nat → Nat → St → Hp → Prop, (∃ m, W 0 m σ H) ∧ ∀ i m σ H, W i m σ H →
      ((Itl K a).stop i H ∧ D.nx σ H) ∨ ((Itl K a).go i H ∧ ∃ N : St → Hp → Prop, (∀ σ' H', N σ' H' → ∃ m', m' < m ∧ W (i + 1) m' σ' H') ∧ ∀ x H', (Itl K a).yld i H x H' → g x σ H' fun σ2 H2 => tb { D with nx := N, ct := N, bk := D.nx } σ2 H2) := by
  refine ⟨fun i m σ H => m = xs.length - i ∧ i ≤ xs.length ∧ Pv i σ H, ⟨xs.length, by simp, Nat.zero_le _, h0⟩, ?_⟩
  rintro i m σ H ⟨rfl, hi, p⟩
  have q := hl i σ H hi p
  by_cases hlt : i < xs.length
  · refine .inr ⟨⟨xs, xs[i], q, by simp [hlt]⟩, Pv (i + 1), fun σ' H' p' => ⟨xs.length - (i + 1), by omega, rfl, hlt, p'⟩, fun x H' y => ?_⟩
    obtain ⟨e, y⟩ := y
    subst e
    exact hs i x σ _ (y xs q) p
  · have e : i = xs.length := by omega
    subst e
    exact .inl ⟨⟨xs, q, Nat.le_refl _⟩, hd σ H p⟩
theorem for_range {lo : Int} {n : Nat} {g : TG} {tb : TS} {D : Ends} {σ : St} {H : Hp} (Pv : Nat → St → Hp → Prop) (h0 : Pv 0 σ H)
    (hs : ∀ i σ H, i < n → Pv i σ H → g (.int (lo + i)) σ H fun σ2 H2 => tb { D with nx := Pv (i + 1), ct := Pv (i + 1), bk := D.nx } σ2 H2) (hd : ∀ σ H, Pv n σ H → D.nx σ H) :
    ∃ W : Nat → Nat → St → Hp → Prop, (∃ m, W 0 m σ H) ∧ ∀ i m σ H, W i m σ H →
      ((Itr lo n).stop i H ∧ D.nx σ H) ∨ ((Itr lo n).go i H ∧ ∃ N : St → Hp → Prop, (∀ σ' H', N σ' H' → ∃ m', m' < m ∧ W (i + 1) m' σ' H') ∧ ∀ x H', (Itr lo n).yld i H x H' → g x σ H' fun σ2 H2 => tb { D with nx := N, ct := N, bk := D.nx } σ2 H2) := by
  refine ⟨fun i m σ H => m = n - i ∧ i ≤ n ∧ Pv i σ H, ⟨n, by simp, Nat.zero_le _, h0⟩, ?_⟩
  rintro i m σ H ⟨rfl, hi, p⟩
  by_cases hlt : i < n
  · refine .inr ⟨hlt, Pv (i + 1), fun σ' H' p' => ⟨n - (i + 1), by omega, rfl, hlt, p'⟩, fun x H' y => ?_⟩
    obtain ⟨e, y⟩ := y
    subst e y
    exact hs i σ _ hlt p
  · have e : i = n := by omega
    subst e
    exact .inl ⟨Nat.le_refl _, hd σ H p⟩
/-- while, by a word and a measure of the state -/
theorem while_by {c : TT} {tb : TS} {D : Ends} {σ : St} {H : Hp} (Pv : St → Hp → Prop) (μ : St → Hp → Nat) (h0 : Pv σ H)
    (hs : ∀ σ H, Pv σ H → c σ H fun b H1 => if b = true then tb { D with nx := fun σ' H' => Pv σ' H' ∧ μ σ' H' < μ σ H, ct := fun σ' H' => Pv σ' H' ∧ μ σ' H' < μ σ H, bk := D.nx } σ H1 else D.nx σ H1)
    (mono : ∀ σ H Q Q', (∀ b H1, Q b H1 → Q' b H1) → c σ H Q → c σ H Q') : tWhile c tb D σ H := by
  refine ⟨fun m σ H => m = μ σ H ∧ Pv σ H, ⟨_, rfl, h0⟩, ?_⟩
  rintro m σ H ⟨rfl, p⟩
  refine mono σ H _ _ (fun b H1 q => ?_) (hs σ H p)
  cases b with
  | true => exact ⟨_, fun σ' H' ⟨p', l⟩ => ⟨_, l, rfl, p'⟩, q⟩
  | false => exact q
end L2

namespace L2
open PySem PySem.Spec PyProof.Rows

abbrev R2 := V → V → Hp → VK → Prop
/-- a two-place operation on values: f is binaryOp op, inplaceOp op or compareOp op -/
def OpR (X : Cx) (f : Value → Value → Sem Value) (r : R2) : Prop :=
  ∀ (pins : List (Addr × Obj)) (s : Shared) (σ : St) (H : Hp) (x y : V) (v u : Value) (Q : VK), Inv X pins σ H s → RelV x v → RelV y u → r x y H Q →
    wpAny (model X.prog X.w) X.A (f v u) (EP X pins σ Q) X.xe s
/-- a one-place operation -/
def UnR (X : Cx) (f : Value → Sem Value) (r : V → Hp → VK → Prop) : Prop :=
  ∀ (pins : List (Addr × Obj)) (s : Shared) (σ : St) (H : Hp) (x : V) (v : Value) (Q : VK), Inv X pins σ H s → RelV x v → r x H Q →
    wpAny (model X.prog X.w) X.A (f v) (EP X pins σ Q) X.xe s
/-- a call of a value that is known (a builtin, a type) with values -/
def CallR (X : Cx) (f : Value) (r : List V → Hp → VK → Prop) : Prop :=
  ∀ (pins : List (Addr × Obj)) (s : Shared) (σ : St) (H : Hp) (xs : List V) (us : List Value) (Q : VK), Inv X pins σ H s → Vals xs us → r xs H Q →
    wpAny (model X.prog X.w) X.A (call f us) (EP X pins σ Q) X.xe s

def tOp (r : R2) (ta tb : TE) : TE := fun σ H Q => ta σ H fun x H1 => tb σ H1 fun y H2 => r x y H2 Q
def tUn (r : V → Hp → VK → Prop) (ta : TE) : TE := fun σ H Q => ta σ H fun x H1 => r x H1 Q
/-- ints in, under C, and a value out -/
def rI (C : Int → Int → Prop) (g : Int → Int → V) : R2 := fun x y H Q => ∃ i j, x = .int i ∧ y = .int j ∧ C i j ∧ Q (g i j) H
def rI0 (g : Int → Int → V) : R2 := fun x y H Q => ∃ i j, x = .int i ∧ y = .int j ∧ Q (g i j) H
def rU (g : Int → V) : V → Hp → VK → Prop := fun x H Q => ∃ i, x = .int i ∧ Q (g i) H

section
variable {X : Cx} {a b c : Expr} {ta tb tc : TE} {pos : Pos}

theorem binT (ha : PE X a ta) (hb : PE X b tb) {pins : List (Addr × Obj)} {s : Shared} {σ : St} {H : Hp} {R : V → V → Hp → Prop} (I : Inv X pins σ H s)
    (h : ta σ H fun x H1 => tb σ H1 fun y H2 => R x y H2) {Q : Value → Shared → Prop} {f : Value → Value → Sem Value}
    (hf : ∀ v u s2 x y H2, Inv X pins σ H2 s2 → RelV x v → RelV y u → R x y H2 → wpAny (model X.prog X.w) X.A (f v u) Q X.xe s2) :
    wpAny (model X.prog X.w) X.A (eval a X.env) (fun v s₁ => wpAny (model X.prog X.w) X.A (eval b X.env) (fun u s₂ => wpAny (model X.prog X.w) X.A (f v u) Q X.xe s₂) X.xe s₁) X.xe s := by
  refine thn (ha pins s σ H _ I h) fun v s1 ⟨x, H1, I1, r1, q1⟩ => ?_
  refine thn (hb pins s1 σ H1 _ I1 q1) fun u s2 ⟨y, H2, I2, r2, q2⟩ => ?_
  exact hf v u s2 x y H2 I2 r1 r2 q2

theorem pe_op {op : Operator} {r : R2} (ho : OpR X (binaryOp op) r) (ha : PE X a ta) (hb : PE X b tb) : PE X (.BinOp a op b pos) (tOp r ta tb) := by
  intro pins s σ H Q I h
  exact wpAny_BinOp (binT ha hb I h fun v u s2 x y H2 I2 rx ry q => ho pins s2 σ H2 x y v u Q I2 rx ry q)
theorem pe_un {op : UnaryOp} {r : V → Hp → VK → Prop} (ho : UnR X (unaryOp op) r) (ha : PE X a ta) : PE X (.UnaryOp op a pos) (tUn r ta) := by
  intro pins s σ H Q I h
  exact UnaryOp_ (thn (ha pins s σ H _ I h) fun v s1 ⟨x, H1, I1, r1, q1⟩ => ho pins s1 σ H1 x v Q I1 r1 q1)

/-! ### ints -/
theorem opI {f : Value → Value → Sem Value} {C : Int → Int → Prop} {g : Int → Int → Int}
    (rule : ∀ (i j : Int) (t u : Tok) (s : Shared) (Q : Value → Shared → Prop) (E : Value → Shared → Prop), C i j → Q (.int (g i j) s.toks) { s with toks := s.toks + 1 } → wpAny (model X.prog X.w) X.A (f (.int i t) (.int j u)) Q E s) :
    OpR X f (rI C fun i j => .int (g i j)) := by
  intro pins s σ H x y v u Q I rx ry h
  obtain ⟨i, j, rfl, rfl, hc, q⟩ := h
  obtain ⟨t, rfl⟩ := rx
  obtain ⟨t', rfl⟩ := ry
  exact rule i j t t' s _ _ hc ⟨.int (g i j), H, I.tok _, ⟨_, rfl⟩, q⟩
theorem opI0 {f : Value → Value → Sem Value} {g : Int → Int → Int}
    (rule : ∀ (i j : Int) (t u : Tok) (s : Shared) (Q : Value → Shared → Prop) (E : Value → Shared → Prop), Q (.int (g i j) s.toks) { s with toks := s.toks + 1 } → wpAny (model X.prog X.w) X.A (f (.int i t) (.int j u)) Q E s) :
    OpR X f (rI0 fun i j => .int (g i j)) := by
  intro pins s σ H x y v u Q I rx ry h
  obtain ⟨i, j, rfl, rfl, q⟩ := h
  obtain ⟨t, rfl⟩ := rx
  obtain ⟨t', rfl⟩ := ry
  exact rule i j t t' s _ _ ⟨.int (g i j), H, I.tok _, ⟨_, rfl⟩, q⟩
theorem opB0 {f : Value → Value → Sem Value} {g : Int → Int → Bool}
    (rule : ∀ (i j : Int) (t u : Tok) (s : Shared) (Q : Value → Shared → Prop) (E : Value → Shared → Prop), Q (.bool (g i j)) s → wpAny (model X.prog X.w) X.A (f (.int i t) (.int j u)) Q E s) :
    OpR X f (rI0 fun i j => .bl (g i j)) := by
  intro pins s σ H x y v u Q I rx ry h
  obtain ⟨i, j, rfl, rfl, q⟩ := h
  obtain ⟨t, rfl⟩ := rx
  obtain ⟨t', rfl⟩ := ry
  exact rule i j t t' s _ _ ⟨.bl (g i j), H, I, rfl, q⟩

theorem op_add : OpR X (binaryOp .Add) (rI0 fun i j => .int (i + j)) := opI0 fun _ _ _ _ _ _ _ q => add_int q
theorem op_sub : OpR X (binaryOp .Sub) (rI0 fun i j => .int (i - j)) := opI0 fun _ _ _ _ _ _ _ q => sub_int q
/-- % by a positive divisor of any size -/
theorem op_mod : OpR X (binaryOp .Mod) (rI (fun _ j => 0 < j) fun i j => .int (i % j)) := opI fun i j _ _ _ _ _ hc q => by
  have h1 : (0 : Int) < j := hc
  exact mod_int' (by omega) (by rw [Int.fmod_eq_emod_of_nonneg i (by omega)]; exact q)

theorem unI {f : Value → Sem Value} {g : Int → Int}
    (rule : ∀ (i : Int) (t : Tok) (s : Shared) (Q : Value → Shared → Prop) (E : Value → Shared → Prop), Q (.int (g i) s.toks) { s with toks := s.toks + 1 } → wpAny (model X.prog X.w) X.A (f (.int i t)) Q E s) :
    UnR X f (rU fun i => .int (g i)) := by
  intro pins s σ H x v Q I rx h
  obtain ⟨i, rfl, q⟩ := h
  obtain ⟨t, rfl⟩ := rx
  exact rule i t s _ _ ⟨.int (g i), H, I.tok _, ⟨_, rfl⟩, q⟩
theorem un_neg : UnR X (unaryOp .USub) (rU fun i => .int (-i)) := unI fun _ _ _ _ _ q => neg_int q

/-! ### bools among ints: n += (a < b) -/
end

/-! ### comparisons -/
/-- the scalars that == tells apart as data does -/
def scal : V → V → Bool
  | .non, .non => true | .non, .int _ => true | .int _, .non => true | .non, .bl _ => true | .bl _, .non => true | .non, .str _ => true | .str _, .non => true
  | .int _, .int _ => true | .bl _, .bl _ => true | .str _, .str _ => true | .byt _, .byt _ => true
  | .int _, .str _ => true | .str _, .int _ => true | .bl _, .str _ => true | .str _, .bl _ => true
  | _, _ => false
def rEq : R2 := fun x y H Q => scal x y = true ∧ Q (.bl (decide (x = y))) H
def rNe : R2 := fun x y H Q => scal x y = true ∧ Q (.bl (!decide (x = y))) H

theorem dec_int {i j : Int} : decide (V.int i = V.int j) = (i == j) := by
  rw [Bool.eq_iff_iff]
  simp
theorem dec_bl {i j : Bool} : decide (V.bl i = V.bl j) = (i == j) := by
  rw [Bool.eq_iff_iff]
  simp
theorem dec_str {i j : Str} : decide (V.str i = V.str j) = (i == j) := by
  rw [Bool.eq_iff_iff]
  simp
theorem dec_byt {i j : Array UInt8} : decide (V.byt i = V.byt j) = (i.toList == j.toList) := by
  rw [Bool.eq_iff_iff]
  cases i
  cases j
  simp

section
variable {X : Cx} {a b c : Expr} {ta tb tc : TE} {pos : Pos}
theorem fin_bl {pins : List (Addr × Obj)} {σ : St} {H : Hp} {s : Shared} {Q : VK} {k k' : Bool} (I : Inv X pins σ H s) (q : Q (.bl k) H) (e : k = k') : EP X pins σ Q (.bool k') s := by
  subst e
  exact ⟨.bl k, H, I, rfl, q⟩
theorem op_eq : OpR X (compareOp .Eq) rEq := by
  intro pins s σ H x y v u Q I rx ry h
  obtain ⟨hs, q⟩ := h
  cases x with
  | non =>
    cases rx
    cases y with
    | non => cases ry; exact PySem.EqNone.eq_none_none (fin_bl I q (by simp))
    | bl j => cases ry; exact PySem.EqNone.eq_none_bool (fin_bl I q (by simp))
    | int j => obtain ⟨t', rfl⟩ := ry; exact PySem.EqNone.eq_none_int (fin_bl I q (by simp))
    | str j => obtain ⟨t', rfl⟩ := ry; exact PySem.EqNone.eq_none_str (fin_bl I q (by simp))
    | _ => exact absurd (show false = true from hs) Bool.false_ne_true
  | bl i =>
    cases rx
    cases y with
    | non => cases ry; exact PySem.EqNone.eq_bool_none (fin_bl I q (by simp))
    | bl j => cases ry; exact eq_bool (fin_bl I q dec_bl)
    | str j => obtain ⟨t', rfl⟩ := ry; exact PySem.EqMixed.eq_bool_str (fin_bl I q (by simp))
    | _ => exact absurd (show false = true from hs) Bool.false_ne_true
  | int i =>
    obtain ⟨t, rfl⟩ := rx
    cases y with
    | non => cases ry; exact PySem.EqNone.eq_int_none (fin_bl I q (by simp))
    | int j => obtain ⟨t', rfl⟩ := ry; exact eq_int (fin_bl I q dec_int)
    | str j => obtain ⟨t', rfl⟩ := ry; exact PySem.EqMixed.eq_int_str (fin_bl I q (by simp))
    | _ => exact absurd (show false = true from hs) Bool.false_ne_true
  | str i =>
    obtain ⟨t, rfl⟩ := rx
    cases y with
    | non => cases ry; exact PySem.EqNone.eq_str_none (fin_bl I q (by simp))
    | bl j => cases ry; exact PySem.EqMixed.eq_str_bool (fin_bl I q (by simp))
    | int j => obtain ⟨t', rfl⟩ := ry; exact PySem.EqMixed.eq_str_int (fin_bl I q (by simp))
    | str j => obtain ⟨t', rfl⟩ := ry; exact eq_str (fin_bl I q dec_str)
    | _ => exact absurd (show false = true from hs) Bool.false_ne_true
  | byt i =>
    obtain ⟨t, rfl⟩ := rx
    cases y with
    | byt j => obtain ⟨t', rfl⟩ := ry; exact PySem.W.eq_bytes (fin_bl I q dec_byt)
    | _ => exact absurd (show false = true from hs) Bool.false_ne_true
  | _ => cases y <;> exact absurd (show false = true from hs) Bool.false_ne_true
theorem op_ne : OpR X (compareOp .NotEq) rNe := by
  intro pins s σ H x y v u Q I rx ry h
  obtain ⟨hs, q⟩ := h
  cases x with
  | non =>
    cases rx
    cases y with
    | non => cases ry; exact PySem.EqNone.ne_none_none (fin_bl I q (by simp))
    | bl j => cases ry; exact PySem.EqNone.ne_none_bool (fin_bl I q (by simp))
    | int j => obtain ⟨t', rfl⟩ := ry; exact PySem.EqNone.ne_none_int (fin_bl I q (by simp))
    | str j => obtain ⟨t', rfl⟩ := ry; exact PySem.EqNone.ne_none_str (fin_bl I q (by simp))
    | _ => exact absurd (show false = true from hs) Bool.false_ne_true
  | bl i =>
    cases rx
    cases y with
    | non => cases ry; exact PySem.EqNone.ne_bool_none (fin_bl I q (by simp))
    | bl j => cases ry; exact ne_bool (fin_bl I q (congrArg not dec_bl))
    | str j => obtain ⟨t', rfl⟩ := ry; exact PySem.EqMixed.ne_bool_str (fin_bl I q (by simp))
    | _ => exact absurd (show false = true from hs) Bool.false_ne_true
  | int i =>
    obtain ⟨t, rfl⟩ := rx
    cases y with
    | non => cases ry; exact PySem.EqNone.ne_int_none (fin_bl I q (by simp))
    | int j => obtain ⟨t', rfl⟩ := ry; exact ne_int (fin_bl I q (congrArg not dec_int))
    | str j => obtain ⟨t', rfl⟩ := ry; exact PySem.EqMixed.ne_int_str (fin_bl I q (by simp))
    | _ => exact absurd (show false = true from hs) Bool.false_ne_true
  | str i =>
    obtain ⟨t, rfl⟩ := rx
    cases y with
    | non => cases ry; exact PySem.EqNone.ne_str_none (fin_bl I q (by simp))
    | bl j => cases ry; exact PySem.EqMixed.ne_str_bool (fin_bl I q (by simp))
    | int j => obtain ⟨t', rfl⟩ := ry; exact PySem.EqMixed.ne_str_int (fin_bl I q (by simp))
    | str j => obtain ⟨t', rfl⟩ := ry; exact ne_str (fin_bl I q (congrArg not dec_str))
    | _ => exact absurd (show false = true from hs) Bool.false_ne_true
  | byt i =>
    obtain ⟨t, rfl⟩ := rx
    cases y with
    | byt j => obtain ⟨t', rfl⟩ := ry; exact PySem.W.ne_bytes (fin_bl I q (congrArg not dec_byt))
    | _ => exact absurd (show false = true from hs) Bool.false_ne_true
  | _ => cases y <;> exact absurd (show false = true from hs) Bool.false_ne_true

theorem op_lt : OpR X (compareOp .Lt) (rI0 fun i j => .bl (decide (i < j))) := opB0 fun _ _ _ _ _ _ _ q => lt_int q
theorem op_le : OpR X (compareOp .LtE) (rI0 fun i j => .bl (decide (i ≤ j))) := opB0 fun _ _ _ _ _ _ _ q => le_int q
theorem op_gt : OpR X (compareOp .Gt) (rI0 fun i j => .bl (decide (j < i))) := opB0 fun _ _ _ _ _ _ _ q => gt_int q
theorem op_ge : OpR X (compareOp .GtE) (rI0 fun i j => .bl (decide (j ≤ i))) := opB0 fun _ _ _ _ _ _ _ q => ge_int q

/-- is None, is not None: the right side a value none -/
theorem op_isN : OpR X (compareOp .Is) (fun x y H Q => y = .non ∧ Q (.bl (decide (x = .non))) H) := by
  intro pins s σ H x y v u Q I rx ry h
  obtain ⟨rfl, q⟩ := h
  cases ry
  refine is_none_gen (fin_bl I q ?_)
  cases x <;> first
    | (cases rx; rfl)
    | (obtain ⟨t, rfl⟩ := rx; rfl)
theorem op_notN : OpR X (compareOp .IsNot) (fun x y H Q => y = .non ∧ Q (.bl (!decide (x = .non))) H) := by
  intro pins s σ H x y v u Q I rx ry h
  obtain ⟨rfl, q⟩ := h
  cases ry
  refine isnot_none_gen (fin_bl I q ?_)
  cases x <;> first
    | (cases rx; rfl)
    | (obtain ⟨t, rfl⟩ := rx; rfl)

theorem nomark (b : Expr) {op : CmpOp} (h : op ≠ .In := by decide) (h2 : op ≠ .NotIn := by decide) : behindInMarks op b = false := by
  have e1 : (op == CmpOp.In) = false := by cases op <;> first | rfl | exact absurd rfl h
  have e2 : (op == CmpOp.NotIn) = false := by cases op <;> first | rfl | exact absurd rfl h2
  cases b <;> simp [behindInMarks, e1, e2]
/-- a comparison as a value; hm: nomark b, or (for in, not in) by with_unfolding_all rfl -/
theorem pe_cmpR {op : CmpOp} {r : R2} (ho : OpR X (compareOp op) r) (ha : PE X a ta) (hb : PE X b tb) (hm : behindInMarks op b = false) : PE X (.Compare a [op] [b] pos) (tOp r ta tb) := by
  intro pins s σ H Q I h
  exact wpAny_Compare1 (binT ha hb I h fun v u s2 x y H2 I2 rx ry q => ho pins s2 σ H2 x y v u Q I2 rx ry q) hm
/-- a reading of a value as a test -/
def tTest (t : TE) : TT := fun σ H Q => t σ H fun x H' => ∃ k, x = .bl k ∧ Q k H'
theorem pt_cmpR {op : CmpOp} {r : R2} (ho : OpR X (compareOp op) r) (ha : PE X a ta) (hb : PE X b tb) (hm : behindInMarks op b = false) : PT X (.Compare a [op] [b] pos) (tTest (tOp r ta tb)) := by
  intro pins s σ H Q I h
  refine wpAny_isTrue_Compare1 (thn (ha pins s σ H _ I h) fun v s1 ⟨x, H1, I1, r1, q1⟩ => thn (hb pins s1 σ H1 _ I1 q1) fun u s2 ⟨y, H2, I2, r2, q2⟩ =>
    thn (ho pins s2 σ H2 x y v u _ I2 r1 r2 q2) fun c s3 ⟨z, H3, I3, r3, k, e, q3⟩ => ?_) hm
  subst e
  cases r3
  exact wpAny_truthy_bool ⟨H3, I3, q3⟩

/-! ### truth -/
theorem line63 : (sizeLine : Nat) < 2 ^ 63 := by rw [sizeLine_eq]; decide

/-! ### strs and bytes -/

/-! ### scalar builtins, by CallR -/
theorem vals1 {x : V} {us : List Value} (r : Vals [x] us) : ∃ u, us = [u] ∧ RelV x u := by
  cases r with
  | cons r1 r2 => cases r2; exact ⟨_, rfl, r1⟩
theorem vals2 {x y : V} {us : List Value} (r : Vals [x, y] us) : ∃ u w', us = [u, w'] ∧ RelV x u ∧ RelV y w' := by
  cases r with
  | cons r1 r2 =>
    cases r2 with
    | cons r3 r4 => cases r4; exact ⟨_, _, rfl, r1, r3⟩
theorem call_min2 (hc : X.calm = true) : CallR X (.builtin "min") (fun xs H Q => ∃ i j, xs = [.int i, .int j] ∧ Q (.int (if j < i then j else i)) H) := by
  intro pins s σ H xs us Q I r h
  obtain ⟨i, j, rfl, q⟩ := h
  obtain ⟨u, w', rfl, ⟨t, rfl⟩, ⟨t', rfl⟩⟩ := vals2 r
  refine min_two_ints (I.ok.hd hc) fun h' tk k => ⟨_, H, I.kept k, ?_, q⟩
  by_cases hj : j < i
  · rw [if_pos hj, if_pos hj]; exact ⟨_, rfl⟩
  · rw [if_neg hj, if_neg hj]; exact ⟨_, rfl⟩
end
end L2

namespace L2
open PySem PySem.Spec PyProof.Rows

/-! ### an instance, its attributes a map -/
structure ObjM (h : Heap) (x dx C : Addr) (mA : Str → Option Value) : Prop where
  obj : h.get? x = some (PySem.W.instObj C dx)
  ns : h.Ns1 dx mA
  ne : dx ≠ x

theorem lookIn_ns {h : Heap} {dx : Addr} {mA : Str → Option Value} (n : h.Ns1 dx mA) : ∃ od, h.get? dx = some od ∧ ∀ name, PySem.W.lookIn name od = some (mA name) := by
  obtain ⟨o, es, ep, ho, hd, hk, _, hm⟩ := n
  refine ⟨o, ho, fun name => ?_⟩
  have e := hm name
  unfold nsFind findBy at e
  rw [← Array.find?_toList] at e
  unfold PySem.W.lookIn
  rw [hd]
  dsimp only
  split
  · rename_i y q
    rw [q] at e
    exact congrArg some e
  · rename_i q
    rw [q] at e
    have a : es.toList.any (·.refKey) = false := by
      rw [List.any_eq_false]
      intro y hy
      obtain ⟨z, t, hkey⟩ := hk y (Array.mem_toList_iff.mp hy)
      simp [DictEntry.refKey, hkey]
    have a' : ¬ es.toList.any (·.refKey) = true := by rw [a]; exact Bool.false_ne_true
    rw [if_neg a']
    exact congrArg some e

theorem ObjM.look {h : Heap} {x dx C : Addr} {mA : Str → Option Value} (I : ObjM h x dx C mA) : ∃ od, PySem.W.InstAt h x (PySem.W.instObj C dx) C (some od) ∧ ∀ name, PySem.W.lookIn name od = some (mA name) :=
  let ⟨od, ho, hl⟩ := lookIn_ns I.ns
  ⟨od, ⟨I.obj, rfl, rfl, ho⟩, hl⟩

section
variable {prog : Program} {w : World} {A : Around} {E : Value → Shared → Prop} {s : Shared} {K : PySem.W.Frag} {x dx C f : Addr} {mA : Str → Option Value} {name : Str} {v : Value}

theorem get_map {expr : Bool} {Q : Value → Shared → Prop} (X : K.In s.heap) (I : ObjM s.heap x dx C mA) (hg : PySem.W.plainGet K C name = true) (hh : PySem.W.hasDictIn K C = true)
    (ha : PySem.W.findIn K (.ref C) name = some none) (hv : mA name = some v) (hv' : PySem.W.handedIn v = true) (h : Q v { s with toks := s.toks + 1 }) :
    wpAny (model prog w) A (getAttr (.ref x) name expr) Q E s := by
  obtain ⟨od, J, hl⟩ := I.look
  exact PySem.W.get_value X J (PySem.W.plainGet_of hg).1 (PySem.W.findObj_own hh ha rfl (by rw [hl, hv])) hv' h

theorem get_meth {pl : Sem Bool} {Q : Value × List Value → Shared → Prop} (X : K.In s.heap) (I : ObjM s.heap x dx C mA) (hg : PySem.W.plainGet K C name = true)
    (hf : PySem.W.findIn K (.ref C) name = some (some (.ref f))) (ht : PySem.W.isFn K (.ref f) = true) (hv : mA name = none) (h : Q (.ref f, [.ref x]) s) :
    wpAny (model prog w) A (getMethod (.ref x) name pl) Q E s := by
  obtain ⟨od, J, hl⟩ := I.look
  exact PySem.W.method_fn X J (PySem.W.plainGet_of hg).1 (PySem.W.plainGet_of hg).2 hf (beq_iff_eq.mp ht) (by show (PySem.W.lookIn name od).map (·.isSome) = some false; rw [hl, hv]; rfl) h

theorem set_map {ns : List Str} {Q : Unit → Shared → Prop} (X : K.In s.heap) (I : ObjM s.heap x dx C mA)
    (hs : PySem.W.findIn K (.ref C) "__setattr__" = some (some (.builtin "object.__setattr__"))) (hp : PySem.W.plainOver K C = true) (ht : PySem.W.takerIn K C name = some none) (hh : PySem.W.hasDictIn K C = true)
    (hw : PySem.Within mA ns) (hsz : ns.length ≤ sizeLine)
    (h : ∀ h', ObjM h' x dx C (fun y => if y = name then some v else mA y) → Heap.SameBut dx s.heap h' → Q () { s with heap := h', toks := s.toks + 2 }) :
    wpAny (model prog w) A (setAttr (.ref x) name v) Q E s := by
  obtain ⟨od, J, hl⟩ := I.look
  refine PySem.W.set_plain X J hs (PySem.W.osa_open (s := { s with toks := s.toks + 1 }) (r := none) X J hp ht fun b => ?_)
  obtain ⟨cd, hc, hd'⟩ := PySem.W.any_some hh
  have hx : s.heap.get? x = some ⟨.ref C, some dx, .plain, #[]⟩ := I.obj
  refine wpAny_bind (wpAny_pure (wpAny_bind (wpAny_bind (wpAny_loadPart hx (wpAny_bind (PySem.W.Looks.here (s := { s with toks := s.toks + 1 }) (PySem.W.looks_clsIn X hc) ?_))))))
  rw [hd']
  refine wpAny_pure (a := some dx) (wpAny_bind (wpAny_pure (wpAny_bind ?_)))
  refine wpAny_nsSet1 (s := { s with toks := s.toks + 1 }) I.ns fun h' hn2 hs2 => ?_
  obtain ⟨oD, esD, epD, hoD, hdD, hcD⟩ := hn2.count (PySem.Within.cons name v hw)
  refine wpAny_bind (wpAny_lookBehind hoD (by rw [hdD]; exact pastItsLine_dict (Nat.le_trans hcD (by rw [List.length_cons]; omega))) ?_)
  exact wpAny_pure (h _ ⟨(hs2.2 _ (Ne.symm I.ne)).trans I.obj, hn2, I.ne⟩ hs2)

/-- C(..): the dict at the heap's end, the instance behind it; then its __init__ -/
theorem make_map {R : Result → Shared → Prop} {vs : List Value} {kw : List (Str × Value)} (X : K.In s.heap) (hm : PySem.W.makesIn K C = true)
    (hi : PySem.W.findIn K (.ref C) "__init__" = some (some (.ref f))) (hf : PySem.W.typeIn K (.ref f) = some (.type "function"))
    (h : codeAny (model prog w) (A.under (.builtin "type.__call__" ⟨.ref C :: vs, kw⟩)) (.call (.ref f) ⟨.ref (s.heap.objs.size + 1) :: vs, kw⟩) (PySem.W.InitBack (s.heap.objs.size + 1) R)
      { s with heap := (s.heap.push PySem.W.emptyDict).push (PySem.W.instObj C s.heap.objs.size) }) :
    codeAny (model prog w) A (.call (.ref C) ⟨vs, kw⟩) R s := by
  obtain ⟨hh, g, d, t, os⟩ := s
  exact PySem.W.make_core (PySem.W.makes_of X hm) (PySem.W.looks_findIn X hi) (fun self => PySem.W.bind_fn X self hf) (.inl rfl) h
end

/-! ### the attributes as a list of pairs -/
def putF (f : Str) (v : V) : List (Str × V) → List (Str × V)
  | [] => [(f, v)]
  | (g, x) :: r => if g = f then (g, v) :: r else (g, x) :: putF f v r
theorem lookup_putF (f g : Str) (v : V) : ∀ fs : List (Str × V), (putF f v fs).lookup g = if g = f then some v else fs.lookup g
  | [] => by
    show List.lookup g [(f, v)] = _
    by_cases h : g = f
    · have hb : (g == f) = true := beq_iff_eq.mpr h
      simp only [List.lookup, hb, if_pos h]
    · have hb : (g == f) = false := beq_eq_false_iff_ne.mpr h
      simp only [List.lookup, hb, if_neg h]
  | (k, x) :: r => by
    have ih := lookup_putF f g v r
    rw [show putF f v ((k, x) :: r) = (if k = f then (k, v) :: r else (k, x) :: putF f v r) from rfl]
    by_cases hk : k = f
    · rw [if_pos hk]
      by_cases h : g = k
      · have hb : (g == k) = true := beq_iff_eq.mpr h
        simp only [List.lookup, hb, if_pos (h.trans hk)]
      · have hb : (g == k) = false := beq_eq_false_iff_ne.mpr h
        simp only [List.lookup, hb, if_neg (fun e : g = f => h (e.trans hk.symm))]
    · rw [if_neg hk]
      by_cases h : g = k
      · have hb : (g == k) = true := beq_iff_eq.mpr h
        simp only [List.lookup, hb, if_neg (fun e : g = f => hk (h.symm.trans e))]
      · have hb : (g == k) = false := beq_eq_false_iff_ne.mpr h
        simp only [List.lookup, hb]
        exact ih
theorem keys_putF (f : Str) (v : V) : ∀ fs : List (Str × V), f ∈ (putF f v fs).map (·.1) ∧ ∀ g, g ∈ fs.map (·.1) → g ∈ (putF f v fs).map (·.1)
  | [] => ⟨by simp [putF], fun g h => by simp at h⟩
  | (k, x) :: r => by
    obtain ⟨i1, i2⟩ := keys_putF f v r
    rw [show putF f v ((k, x) :: r) = (if k = f then (k, v) :: r else (k, x) :: putF f v r) from rfl]
    by_cases hk : k = f
    · rw [if_pos hk]
      subst hk
      exact ⟨by simp, fun g h => by simpa using h⟩
    · rw [if_neg hk]
      refine ⟨?_, fun g h => ?_⟩
      · rw [List.map_cons]
        exact List.mem_cons_of_mem _ i1
      · rw [List.map_cons] at h ⊢
        rcases List.mem_cons.mp h with e | e
        · exact List.mem_cons.mpr (.inl e)
        · exact List.mem_cons_of_mem _ (i2 g e)
theorem length_putF (f : Str) (v : V) : ∀ fs : List (Str × V), (putF f v fs).length ≤ fs.length + 1
  | [] => by simp [putF]
  | (k, x) :: r => by
    have ih := length_putF f v r
    rw [show putF f v ((k, x) :: r) = (if k = f then (k, v) :: r else (k, x) :: putF f v r) from rfl]
    by_cases hk : k = f
    · rw [if_pos hk, List.length_cons, List.length_cons]; omega
    · rw [if_neg hk, List.length_cons, List.length_cons]; omega

theorem RelO.some_of {v : V} {o : Option Value} (r : RelO (some v) o) : ∃ u, o = some u ∧ RelV v u := by
  cases o with
  | none => exact (show False from r).elim
  | some u => exact ⟨u, rfl, r⟩
theorem RelO.none_of {o : Option Value} (r : RelO none o) : o = none := by
  cases o with
  | none => rfl
  | some u => exact (show False from r).elim
theorem handed_of {v : V} {u : Value} (r : RelV v u) : PySem.W.handedIn u = true := by
  cases v with
  | non => cases (show u = Value.none from r); rfl
  | bl b => cases (show u = Value.bool b from r); rfl
  | int i => obtain ⟨t, e⟩ := (show ∃ t, u = Value.int i t from r); cases e; rfl
  | str x => obtain ⟨t, e⟩ := (show ∃ t, u = Value.str x t from r); cases e; rfl
  | byt b => obtain ⟨t, e⟩ := (show ∃ t, u = Value.bytes b t from r); cases e; rfl
  | flt b => obtain ⟨t, e⟩ := (show ∃ t, u = Value.float b t from r); cases e; rfl
  | ref a => cases (show u = Value.ref a from r); rfl
  | ty n => cases (show u = Value.type n from r); rfl

section
variable {P : Program} {w : World} {H H' : Hp} {h h' : Heap} {a C dx : Addr} {fs fs' : List (Str × V)}
theorem ins_get (hok : HOk P w H h) (e : H a = some (.ins C dx fs)) : ∃ mA, ObjM h a dx C mA ∧ (∀ f, RelO (fs.lookup f) (mA f)) ∧ PySem.Within mA (fs.map (·.1)) ∧ fs.length ≤ 1000 ∧ H dx = some (.own a) := by
  obtain ⟨d, z, ne, ob, mA, n, r, q⟩ := (show ObjOk P w H h a (.ins C dx fs) from hok a _ e)
  exact ⟨mA, ⟨ob, n, ne⟩, r, q, z, d⟩
end

/-! ### what of the text a class must have -/
structure Cls (K : PySem.W.Frag) (C : Addr) : Prop where
  pg : PySem.W.plainGet K C Str.empty = true
  hd : PySem.W.hasDictIn K C = true
  po : PySem.W.plainOver K C = true
  sa : PySem.W.findIn K (.ref C) "__setattr__" = some (some (.builtin "object.__setattr__"))
theorem Cls.get {K : PySem.W.Frag} {C : Addr} (c : Cls K C) (f : Str) : PySem.W.plainGet K C f = true := c.pg
/-- no class of it has the name -/
def NoAttr (K : PySem.W.Frag) (C : Addr) (f : Str) : Prop := PySem.W.findIn K (.ref C) f = some none
theorem NoAttr.taker {K : PySem.W.Frag} {C : Addr} {f : Str} (n : NoAttr K C f) : PySem.W.takerIn K C f = some none := by
  unfold PySem.W.takerIn
  rw [show PySem.W.findIn K (.ref C) f = some none from n]
  rfl
/-- a method: a plain def of the class or of one above it -/
structure Meth (K : PySem.W.Frag) (C : Addr) (m : Str) (f : Addr) : Prop where
  at_ : PySem.W.findIn K (.ref C) m = some (some (.ref f))
  fn : PySem.W.isFn K (.ref f) = true
  kp : PySem.W.keepIn K (.ref f) = true

section
variable {X : Cx} {pins : List (Addr × Obj)} {σ : St} {H : Hp} {s : Shared} {a C dx : Addr} {fs : List (Str × V)} {f : Str} {v : V} {A : Around} {E : Value → Shared → Prop}

theorem getattr_ok {b : Bool} {Q : Value → Shared → Prop} (I : Inv X pins σ H s) (e : H a = some (.ins C dx fs)) (c : Cls X.K C) (n : NoAttr X.K C f) (l : fs.lookup f = some v)
    (h : ∀ u s', Inv X pins σ H s' → RelV v u → Q u s') : wpAny (model X.prog X.w) A (getAttr (.ref a) f b) Q E s := by
  obtain ⟨mA, O, r, _, _, _⟩ := ins_get I.hok e
  obtain ⟨u, hu, ru⟩ := RelO.some_of (v := v) (o := mA f) (by rw [← l]; exact r f)
  exact get_map I.kIn O (c.get f) c.hd n hu (handed_of ru) (h u _ (I.tok _) ru)

theorem getmeth_ok {m : Str} {g : Addr} {pl : Sem Bool} {Q : Value × List Value → Shared → Prop} (I : Inv X pins σ H s) (e : H a = some (.ins C dx fs)) (c : Cls X.K C) (k : Meth X.K C m g) (l : fs.lookup m = none)
    (h : Q (.ref g, [.ref a]) s) : wpAny (model X.prog X.w) A (getMethod (.ref a) m pl) Q E s := by
  obtain ⟨mA, O, r, _, _, _⟩ := ins_get I.hok e
  have hn : mA m = none := RelO.none_of (by rw [← l]; exact r m)
  exact get_meth I.kIn O (c.get m) k.at_ k.fn hn h

theorem setattr_ok {y : V} {u : Value} {Q : Unit → Shared → Prop} (I : Inv X pins σ H s) (e : H a = some (.ins C dx fs)) (c : Cls X.K C) (n : NoAttr X.K C f) (hl : fs.length < 1000) (ry : RelV y u)
    (h : ∀ s', Inv X pins σ (upd H a (.ins C dx (putF f y fs))) s' → Q () s') : wpAny (model X.prog X.w) A (setAttr (.ref a) f u) Q E s := by
  obtain ⟨mA, O, r, wi, _, ho⟩ := ins_get I.hok e
  have hz : (fs.map (·.1)).length ≤ sizeLine := by rw [List.length_map, sizeLine_eq]; omega
  refine set_map I.kIn O c.sa c.po n.taker c.hd wi hz fun h' O' sb => h _ ?_
  have hd : ∃ o, h'.get? dx = some o := let ⟨o, _, _, e', _⟩ := O'.ns; ⟨o, e'⟩
  refine I.write (x := a) (e := dx) (by rw [e]; exact True.intro) (.inr ho) (fun b q hb z => (sb.2 b hb).trans z) hd ?_
  refine ⟨by rw [upd_ne O.ne]; exact ho, ?_, O.ne, O'.obj, _, O'.ns, fun g => ?_, fun g hg => ?_⟩
  · have := length_putF f y fs; omega
  · show RelO ((putF f y fs).lookup g) (if g = f then some u else mA g)
    rw [lookup_putF]
    by_cases q : g = f
    · rw [if_pos q, if_pos q]; exact ry
    · rw [if_neg q, if_neg q]; exact r g
  · by_cases q : g = f
    · rw [q]; exact (keys_putF f y fs).1
    · refine (keys_putF f y fs).2 g (wi g fun z => hg ?_)
      show (if g = f then some u else mA g) = none
      rw [if_neg q]; exact z

/-- a new instance, tracked, without attributes -/
theorem Inv.made (I : Inv X pins σ H s) : Inv X pins σ (upd (upd H s.heap.objs.size (.own (s.heap.objs.size + 1))) (s.heap.objs.size + 1) (.ins C s.heap.objs.size []))
    { s with heap := (s.heap.push PySem.W.emptyDict).push (PySem.W.instObj C s.heap.objs.size) } := by
  have e1 : (s.heap.push PySem.W.emptyDict).get? s.heap.objs.size = some PySem.W.emptyDict := Heap.get?_push_size s.heap rfl
  have e2 : ((s.heap.push PySem.W.emptyDict).push (PySem.W.instObj C s.heap.objs.size)).get? (s.heap.objs.size + 1) = some (PySem.W.instObj C s.heap.objs.size) := by
    have := Heap.get?_push_size (s.heap.push PySem.W.emptyDict) (o := PySem.W.instObj C s.heap.objs.size) rfl
    rwa [Heap.size_push] at this
  have e3 : (s.heap.push PySem.W.emptyDict).Ns s.heap.objs.size (fun _ => none) := ⟨PySem.W.emptyDict, #[], _, e1, rfl, (fun e he => absurd he (by simp)), fun _ => rfl⟩
  have I1 := I.laid (a := s.heap.objs.size) (o := .own (s.heap.objs.size + 1)) (h' := s.heap.push PySem.W.emptyDict) (t' := s.toks) (fun b u q => Heap.get?_push_of_some _ q) (Nat.le_refl _) ⟨_, e1⟩
  refine I1.laid (a := s.heap.objs.size + 1) (o := .ins C s.heap.objs.size []) (t' := s.toks) (fun b u q => Heap.get?_push_of_some _ q) (Nat.le_of_eq (Heap.size_push _ _)) ?_
  have ne : s.heap.objs.size ≠ s.heap.objs.size + 1 := Nat.ne_of_lt (Nat.lt_succ_self _)
  refine ⟨by rw [upd_ne ne, upd_same], Nat.zero_le _, ne, e2, fun _ => none, (Heap.Ns1.of_empty e3).at fun o q => Heap.get?_push_of_some _ q, fun _ => True.intro, fun y hy => absurd rfl hy⟩

/-- e.f where nothing but the object is asked: through attributeBase (super) and the last hold -/
theorem attr_of {prog : Program} {w : World} {env : Env} {e : Expr} {f : Str} {pos : Pos} {s : Shared} {Q : Value → Shared → Prop} (hb : attributeBase e f env (eval e env) = eval e env)
    (h : wpAny (model prog w) A (eval e env) (fun o s₁ => wpAny (model prog w) A (getAttr o f true) Q E s₁) E s) : wpAny (model prog w) A (eval (.Attribute e f pos) env) Q E s :=
  Attribute_any_ h (by rw [arm_eval_Attribute, hb])
end

/-! ### readings and rules -/
/-- e.f, an attribute of the instance -/
def tFld (K : PySem.W.Frag) (ta : TE) (f : Str) : TE := fun σ H Q => ta σ H fun x H1 => ∃ a C dx fs v, x = .ref a ∧ H1 a = some (.ins C dx fs) ∧ Cls K C ∧ NoAttr K C f ∧ fs.lookup f = some v ∧ Q v H1
/-- e.f = value -/
def sFld (K : PySem.W.Frag) (ta tv : TE) (f : Str) : TS := fun D σ H => tv σ H fun y H1 => ta σ H1 fun x H2 => ∃ a C dx fs, x = .ref a ∧ H2 a = some (.ins C dx fs) ∧ Cls K C ∧ NoAttr K C f ∧ fs.length < 1000 ∧
  D.nx σ (upd H2 a (.ins C dx (putF f y fs)))
/-- an augmented operator on two values -/
def InOp (X : Cx) (op : Operator) (rd : V → V → Hp → VK → Prop) : Prop :=
  ∀ (pins : List (Addr × Obj)) (s : Shared) (σ : St) (H : Hp) (x y : V) (u v : Value) (Q : VK), Inv X pins σ H s → RelV x u → RelV y v → rd x y H Q → wpAny (model X.prog X.w) X.A (inplaceOp op u v) (EP X pins σ Q) X.xe s
/-- e.f op= value -/
def sFldAug (K : PySem.W.Frag) (ta tv : TE) (rd : V → V → Hp → VK → Prop) (f : Str) : TS := fun D σ H => ta σ H fun x H1 => ∃ a C dx fs v, x = .ref a ∧ H1 a = some (.ins C dx fs) ∧ Cls K C ∧ NoAttr K C f ∧ fs.lookup f = some v ∧
  tv σ H1 fun y H2 => rd v y H2 fun z H3 => ∃ dx' fs', H3 a = some (.ins C dx' fs') ∧ fs'.length < 1000 ∧ D.nx σ (upd H3 a (.ins C dx' (putF f z fs')))

section
variable {X : Cx} {o e value : Expr} {f : Str} {pos pos' tpos : Pos} {ta tv : TE}
theorem pe_fld (he : PE X e ta) (hb : attributeBase e f X.env (eval e X.env) = eval e X.env) : PE X (.Attribute e f pos) (tFld X.K ta f) := by
  intro pins s σ H Q I h
  refine attr_of hb (thn (he pins s σ H _ I h) fun u s1 ⟨x, H1, I1, rx, a, C, dx, fs, v, ex, ea, c, n, l, q⟩ => ?_)
  subst ex
  obtain rfl : u = Value.ref a := rx
  exact getattr_ok I1 ea c n l fun u' s2 I2 ru => ⟨v, H1, I2, ru, q⟩
theorem ps_fld (ha : PE X o ta) (hv : PE X value tv) (hs : swapsWith value (some (.Attribute o f pos')) pos.line X.env = pure false) : PS X (.Assign [.Attribute o f pos'] value pos) (sFld X.K ta tv f) := by
  intro pins s σ H D I h
  refine plainObj_wpAny_Assign_Attribute (thn (hv pins s σ H _ I h) fun u s1 ⟨y, H1, I1, ry, q⟩ => thn (ha pins s1 σ H1 _ I1 q) fun ov s2 ⟨x, H2, I2, rx, a, C, dx, fs, ex, ea, c, n, l, q2⟩ => ?_) hs
  subst ex
  obtain rfl : ov = Value.ref a := rx
  exact setattr_ok I2 ea c n l ry fun s3 I3 => ⟨σ, _, I3, q2⟩
theorem ps_fldaug {op : Operator} {rd : V → V → Hp → VK → Prop} (ha : PE X o ta) (hv : PE X value tv) (hop : InOp X op rd) : PS X (.AugAssign (.Attribute o f tpos) op value pos) (sFldAug X.K ta tv rd f) := by
  intro pins s σ H D I h
  refine wpAny_AugAssign_AttributeAny (thn (ha pins s σ H _ I h) fun ov s1 ⟨x, H1, I1, rx, a, C, dx, fs, v, ex, ea, c, n, l, q⟩ => ?_)
  subst ex
  obtain rfl : ov = Value.ref a := rx
  refine getattr_ok I1 ea c n l fun u s2 I2 ru => thn (hv pins s2 σ H1 _ I2 q) fun w3 s3 ⟨y, H2, I3, ry, q3⟩ => thn (hop pins s3 σ H2 v y u w3 _ I3 ru ry q3) fun w4 s4 ⟨z, H3, I4, rz, dx', fs', ea', l', q4⟩ => ?_
  exact setattr_ok I4 ea' c n l' rz fun s5 I5 => ⟨σ, _, I5, q4⟩
def rAdd : V → V → Hp → VK → Prop := fun x y H Q => ∃ i j, x = .int i ∧ y = .int j ∧ Q (.int (i + j)) H
def rSub : V → V → Hp → VK → Prop := fun x y H Q => ∃ i j, x = .int i ∧ y = .int j ∧ Q (.int (i - j)) H
theorem in_add : InOp X .Add rAdd := by
  rintro pins s σ H x y u v Q I rx ry ⟨i, j, rfl, rfl, q⟩
  obtain ⟨t, rfl⟩ := (show ∃ t, u = Value.int i t from rx)
  obtain ⟨t', rfl⟩ := (show ∃ t', v = Value.int j t' from ry)
  exact PyProof.Rows.iadd_int ⟨.int (i + j), H, I.tok _, ⟨_, rfl⟩, q⟩
theorem in_sub : InOp X .Sub rSub := by
  rintro pins s σ H x y u v Q I rx ry ⟨i, j, rfl, rfl, q⟩
  obtain ⟨t, rfl⟩ := (show ∃ t, u = Value.int i t from rx)
  obtain ⟨t', rfl⟩ := (show ∃ t', v = Value.int j t' from ry)
  exact PyProof.Rows.isub_int ⟨.int (i - j), H, I.tok _, ⟨_, rfl⟩, q⟩

/-- what is between an instance and its method: the tree of a method call -/
theorem methcall_of {pl : Sem Bool} {m : Str} {apos : Pos} {args : List Expr} {pins : List (Addr × Obj)} {s : Shared} {σ : St} {H : Hp} {Q : Value → Shared → Prop} {te : TE} (he : PE X e te) (I : Inv X pins σ H s)
    (h : te σ H fun x H1 => ∃ a C dx fs g, x = .ref a ∧ H1 a = some (.ins C dx fs) ∧ Cls X.K C ∧ Meth X.K C m g ∧ fs.lookup m = none ∧
      ∀ s1, Inv X pins σ H1 s1 → wpAny (model X.prog X.w) X.A (callWith pos (.ref g) [.ref a] (backTo pos (starEach args X.env)) (backToKw pos (keywordEach [] X.env))) Q X.xe s1)
    (ht : eval (.Call (.Attribute e m apos) args [] pos) X.env = (do
      let ov ← eval e X.env
      standAt apos.atName
      let (f, first) ← holding [ov] (getMethod ov m pl)
      callWith pos f first (backTo pos (starEach args X.env)) (backToKw pos (keywordEach [] X.env)))) :
    wpAny (model X.prog X.w) X.A (eval (.Call (.Attribute e m apos) args [] pos) X.env) Q X.xe s := by
  refine PySem.W.methodCall_KW (pl := pl) (thn (he pins s σ H _ I h) fun u s1 ⟨x, H1, I1, rx, a, C, dx, fs, g, ex, ea, c, k, l, q⟩ => ?_) ht
  subst ex
  obtain rfl : u = Value.ref a := rx
  exact getmeth_ok I1 ea c k l (q s1 I1)
end

/-! ### isinstance -/
end L2

namespace L2
open PySem PySem.Spec PyProof.Rows

/-! ### room -/
structure Room (k : Nat) (A : Around) : Prop where
  hd : A.handled = none
  dp : A.depth + 3 * k + 5 < recursionLimit
  un : A.units + 16 * k + 200 < cLine
theorem Room.mono {j k : Nat} {A : Around} (r : Room k A) (h : j ≤ k) : Room j A := ⟨r.hd, by have := r.dp; omega, by have := r.un; omega⟩
theorem Room.deeper {k : Nat} {A : Around} (r : Room (k + 1) A) (env : Env) : Room k (A.deeper env) :=
  ⟨r.hd, by have := r.dp; show A.depth + 1 + 3 * k + 5 < _; omega, by have := r.un; show A.units + 3 + 16 * k + 200 < _; omega⟩
theorem make_depth {A : Around} {C : Addr} {us : List Value} {kw : List (Str × Value)} : (A.under (.builtin "type.__call__" ⟨.ref C :: us, kw⟩)).depth = A.depth + 1 := by
  first | rfl | simp [Around.under, Code.weight, Code.isCreation, Code.isGuard, Code.isCaller, Code.frames, Code.isFrame, guardIds]
theorem make_units {A : Around} {C : Addr} {us : List Value} {kw : List (Str × Value)} : (A.under (.builtin "type.__call__" ⟨.ref C :: us, kw⟩)).units = A.units + 1 := by
  first | rfl | simp [Around.under, Code.cUnits, Code.frames, Code.isFrame]
theorem Room.make {k : Nat} {A : Around} (r : Room (k + 1) A) (C : Addr) (us : List Value) (kw : List (Str × Value)) : Room k (A.under (.builtin "type.__call__" ⟨.ref C :: us, kw⟩)) :=
  ⟨r.hd, by have := r.dp; rw [make_depth]; omega, by have := r.un; rw [make_units]; omega⟩
theorem Room.depth {k : Nat} {A : Around} (r : Room k A) : A.depth < recursionLimit := by have := r.dp; omega
theorem Room.units {k : Nat} {A : Around} (r : Room k A) : A.units + 64 < cLine := by have := r.un; omega

/-! ### argument lists and displays -/
def tNil : TA := fun _ H Q => Q [] H
def tCons (ta : TE) (tr : TA) : TA := fun σ H Q => ta σ H fun x H1 => tr σ H1 fun xs H2 => Q (x :: xs) H2
section
variable {X : Cx} {e : Expr} {es : List Expr} {te : TE} {t : TA} {pos : Pos}
theorem pa_nil : PA X [] tNil := fun _ _ _ _ H Q I h => Calls.spliced_nil ⟨[], H, I, .nil, h⟩
theorem pa_cons (ha : PE X e te) (hr : PA X es t) (hs : starEach (e :: es) X.env = (false, eval e X.env) :: starEach es X.env := by rfl) : PA X (e :: es) (tCons te t) := by
  intro pos pins s σ H Q I h
  rw [hs]
  show wpAny _ _ (spliced ((false, eval e X.env) :: backTo pos (starEach es X.env))) _ _ s
  refine Calls.spliced_cons (thn (ha pins s σ H _ I h) fun u s1 ⟨x, H1, I1, r1, q1⟩ => ?_)
  exact thn (hr pos pins s1 σ H1 _ I1 q1) fun us s2 ⟨xs, H2, I2, r2, q2⟩ => ⟨x :: xs, H2, I2, .cons r1 r2, q2⟩

/-- a tuple, a list of written items -/
def tTup (t : TA) : TE := fun σ H Q => t σ H fun xs H1 => xs.length ≤ sizeLine ∧ ∀ p, H1 p = none → Q (.ref p) (upd H1 p (.tup xs))
def tLst (t : TA) : TE := fun σ H Q => t σ H fun xs H1 => xs.length ≤ sizeLine ∧ ∀ p, H1 p = none → Q (.ref p) (upd H1 p (.lst xs))
theorem pe_tup {x1} (h : PA X es t) : PE X (.Tuple es x1 pos) (tTup t) := by
  intro pins s σ H Q I hq
  refine wpAny_Tuple_spliced (thn (h pos pins s σ H _ I hq) fun us s1 ⟨xs, H1, I1, r, z, q⟩ => ⟨by rw [← r.length]; exact z, ?_⟩)
  have hf : H1 s1.heap.objs.size = none := I1.hok.fresh (Nat.le_refl _)
  refine ⟨.ref s1.heap.objs.size, upd H1 s1.heap.objs.size (.tup xs), I1.laid (t' := s1.toks) (fun b u e => Heap.get?_push_of_some _ e) (Nat.le_refl _) ?_, rfl, q _ hf⟩
  exact ⟨z, us, r, ⟨_, Heap.get?_push_size _ rfl, rfl, _, rfl⟩⟩
theorem pe_lst (h : PA X es t) : PE X (.List es pos) (tLst t) := by
  intro pins s σ H Q I hq
  refine wpAny_List_spliced (thn (h pos pins s σ H _ I hq) fun us s1 ⟨xs, H1, I1, r, z, q⟩ => ⟨by rw [← r.length]; exact z, ?_⟩)
  have hf : H1 s1.heap.objs.size = none := I1.hok.fresh (Nat.le_refl _)
  refine ⟨.ref s1.heap.objs.size, upd H1 s1.heap.objs.size (.lst xs), I1.laid (t' := s1.toks) (fun b u e => Heap.get?_push_of_some _ e) (Nat.le_refl _) ?_, rfl, q _ hf⟩
  exact ⟨z, us, 0, r, Heap.get?_push_size _ rfl⟩
end

/-! ### what a def promises -/
/-- a def's promise: the bound arguments in the parameters' order, the heap, the wanted end, the wanted exception -/
abbrev Sp := List V → Hp → VK → XK → Prop
/-- how an exception lies behind a call (file 08 gives it): the callers' frames, abstract heap and state ahead of the call, the wish, the exception, the state -/
abbrev CXT := List Env → Hp → Shared → XK → Value → Shared → Prop

/-- the state at a call -/
structure Env0 (P : Program) (w : World) (K : PySem.W.Frag) (mg : Str → Option Value) (base : Heap) (A : Around) (outer : List Env) (s : Shared) (H : Hp) : Prop where
  frames : A.frames = some outer
  mod : Mod K mg base
  bs : ∀ b o, base.get? b = some o → s.heap.get? b = some o ∧ H b = none
  bsz : base.objs.size ≤ s.heap.objs.size
  funs : s.heap.FunFrames base outer
  frf : ∀ b ∈ frs outer, H b = none
  hok : HOk P w H s.heap
  bare : AllBare s.gens
/-- a call's end -/
def CE (outer : List Env) (P : Program) (w : World) (H : Hp) (s : Shared) (Q : VK) (u : Value) (s' : Shared) : Prop :=
  ∃ v H', s'.os = s.os ∧ AllBare s'.gens ∧ Un (frs outer) [] H H' s.heap s'.heap ∧ HOk P w H' s'.heap ∧ RelV v u ∧ Q v H'
def CR (CX : CXT) (outer : List Env) (P : Program) (w : World) (H : Hp) (s : Shared) (Q : VK) (E : XK) (r : Result) (s' : Shared) : Prop :=
  match r with
  | .ok (.ret u) => CE outer P w H s Q u s'
  | .ok _ => False
  | .error e => CX outer H s E e s'
structure FnOk (P : Program) (w : World) (K : PySem.W.Frag) (mg : Str → Option Value) (base : Heap) (CX : CXT) (k : Nat) (f : Addr) (fd : FuncData) (ps : List Str) (sp : Sp) : Prop where
  len : ∀ vs H Q E, sp vs H Q E → vs.length = ps.length
  run : ∀ (A : Around) (outer : List Env) (s : Shared) (H : Hp) (args : Args) (us : List Value) (vs : List V) (Q : VK) (E : XK), Room k A → Env0 P w K mg base A outer s H → BindsTo s fd args (ps.zip us) → Vals vs us → sp vs H Q E →
    codeAny (model P w) A (.call (.ref f) args) (CR CX outer P w H s Q E) s

theorem Env0.make {P : Program} {w : World} {K : PySem.W.Frag} {mg : Str → Option Value} {base : Heap} {A : Around} {outer : List Env} {s : Shared} {H : Hp} (e : Env0 P w K mg base A outer s H) (C : Addr) (us : List Value) (kw : List (Str × Value)) :
    Env0 P w K mg base (A.under (.builtin "type.__call__" ⟨.ref C :: us, kw⟩)) outer s H := ⟨by first | exact e.frames | (simpa [Around.under, Code.envs, Code.isFrame, pushEnvs] using e.frames), e.mod, e.bs, e.bsz, e.funs, e.frf, e.hok, e.bare⟩

section
variable {X : Cx} {pins : List (Addr × Obj)} {σ : St} {H : Hp} {s s' : Shared}
/-- from a body: what a callee wants -/
theorem Inv.env0 (I : Inv X pins σ H s) : Env0 X.prog X.w X.K X.mg X.base X.A X.stack s H :=
  ⟨I.ok.frames, I.ok.mod, I.bs, Nat.le_trans I.ok.bsz I.sz, I.stack, I.stkFree, I.hok, I.bare⟩
/-- behind a call -/
theorem Inv.after {Q : VK} {u : Value} (I : Inv X pins σ H s) (h : CE X.stack X.prog X.w H s Q u s') : EP X pins σ Q u s' := by
  obtain ⟨v, H', os, bare, un, hok, r, q⟩ := h
  obtain ⟨hh, g, d, t, os'⟩ := s'
  obtain rfl : os' = s.os := os
  exact ⟨v, H', I.call (h' := hh) (g' := g) (d' := d) (t' := t) (ch := []) un hok bare (fun b z => absurd z (by simp)), r, q⟩
end

/-! ### calls -/
/-- f(..): the written arguments, then the defaults dvs; E: what is wanted of an exception -/
def tCall (sp : Sp) (dvs : List V) (E : XK) (t : TA) : TE := fun σ H Q => t σ H fun vs H1 => sp (vs ++ dvs) H1 Q E
/-- o.m(..) of an instance of the class at C -/
def tMeth (C : Addr) (m : Str) (sp : Sp) (dvs : List V) (E : XK) (ta : TE) (t : TA) : TE := fun σ H Q => ta σ H fun x H1 => ∃ a dx fs, x = .ref a ∧ H1 a = some (.ins C dx fs) ∧ fs.lookup m = none ∧
  t σ H1 fun vs H2 => sp (x :: (vs ++ dvs)) H2 Q E
/-- C(..): a new instance and its dict, then __init__ -/
def tMake (C : Addr) (sp : Sp) (dvs : List V) (E : XK) (t : TA) : TE := fun σ H Q => t σ H fun vs H1 => ∀ x dx, H1 x = none → H1 dx = none → dx ≠ x →
  sp (.ref x :: (vs ++ dvs)) (upd (upd H1 dx (.own x)) x (.ins C dx [])) (fun v H2 => v = .non ∧ Q (.ref x) H2) E

/-- how the parameters are bound: us the positional arguments, kw the keywords' values by name, ds the defaults that fill up -/
def Binds (K : PySem.W.Frag) (fd : FuncData) (ps : List Str) (ds : List Value) : Prop :=
  ∀ (s : Shared) (us : List Value), K.In s.heap → (us ++ ds).length = ps.length → BindsTo s fd ⟨us, []⟩ (ps.zip (us ++ ds))
/-- every parameter is given -/
theorem Binds.all {K : PySem.W.Frag} {fd : FuncData} {ps : List Str} (h : ∀ us : List Value, us.length = ps.length → bindArgs fd ⟨us, []⟩ = pure (ps.zip us)) : Binds K fd ps [] := fun s us _ hl => by
  rw [List.append_nil] at hl ⊢
  exact .of_eq (h us hl)

/-- an exception of a callee reaches what this body wants of exceptions -/
def Passes (CX : CXT) (X : Cx) (E : XK) : Prop := ∀ (pins : List (Addr × Obj)) (σ : St) (H : Hp) (s : Shared) (e : Value) (s' : Shared), Inv X pins σ H s → CX X.stack H s E e s' → X.xe e s'

section
variable {X : Cx} {CX : CXT} {k : Nat} {f C : Addr} {fd : FuncData} {ps : List Str} {sp : Sp} {dvs : List V} {ds : List Value} {E : XK} {x m : Str} {p pos apos : Pos} {e o : Expr} {es : List Expr} {ta : TE} {t : TA}

/-- the callee runs -/
theorem run_fn {pins : List (Addr × Obj)} {σ : St} {H : Hp} {s : Shared} {Q : VK} {us : List Value} {vs : List V} (F : FnOk X.prog X.w X.K X.mg X.base CX k f fd ps sp) (hr : Room k X.A) (hb : Binds X.K fd ps ds) (hd : Vals dvs ds) (hx : Passes CX X E)
    (I : Inv X pins σ H s) (r : Vals vs us) (h : sp (vs ++ dvs) H Q E) : wpAny (model X.prog X.w) X.A (call (.ref f) us) (EP X pins σ Q) X.xe s := by
  have r2 : Vals (vs ++ dvs) (us ++ ds) := r.append hd
  have hl : (us ++ ds).length = ps.length := by rw [← r2.length]; exact F.len _ _ _ _ h
  refine wpAny_call (codeAny_mono (F.run X.A X.stack s H ⟨us, []⟩ (us ++ ds) (vs ++ dvs) Q E hr I.env0 (hb s us I.kIn hl) r2 h) fun r s' hq => ?_)
  cases r with
  | error e => exact hx pins σ H s e s' I hq
  | ok fl =>
    cases fl with
    | ret u => exact I.after hq
    | next => exact False.elim hq
    | brk => exact False.elim hq
    | cont => exact False.elim hq

theorem pe_call (F : FnOk X.prog X.w X.K X.mg X.base CX k f fd ps sp) (hr : Room k X.A) (hg : Gl X x) (hm : X.mg x = some (.ref f)) (hk : PySem.W.keepIn X.K (.ref f) = true) (hb : Binds X.K fd ps ds) (hd : Vals dvs ds) (hx : Passes CX X E)
    (ha : PA X (e :: es) t) (hdb : (x == ("__debug__" : Str)) = false := by decide) (he : starEach (e :: es) X.env = (false, eval e X.env) :: starEach es X.env := by rfl) (hpl : (backTo pos (starEach es X.env)).any (·.1) = false := by rfl) :
    PE X (.Call (.Name x p) (e :: es) [] pos) (tCall sp dvs E t) := by
  intro pins s σ H Q I h
  refine wpAny_Call_Name_kw (ld_glob I hg hm ?_ hdb)
  refine PySem.W.callWith_K (h₀ := X.base) I.ok.mod.kin hk (thn (ha pos pins s σ H _ I h) fun us s1 ⟨vs, H1, I1, r, q⟩ => ⟨I1.kIn, ?_⟩) he hpl
  exact run_fn F hr hb hd hx I1 r q

/-- o.m(e, ..) -/
theorem pe_meth {pl : Sem Bool} (he : PE X o ta) (c : Cls X.K C) (hm : Meth X.K C m f) (F : FnOk X.prog X.w X.K X.mg X.base CX k f fd ps sp) (hr : Room k X.A) (hb : Binds X.K fd ps ds) (hd : Vals dvs ds) (hx : Passes CX X E) (ha : PA X (e :: es) t)
    (hst : starEach (e :: es) X.env = (false, eval e X.env) :: starEach es X.env := by rfl) (hpl : (backTo pos (starEach es X.env)).any (·.1) = false := by rfl)
    (ht : eval (.Call (.Attribute o m apos) (e :: es) [] pos) X.env = (do
      let ov ← eval o X.env
      standAt apos.atName
      let (f, first) ← holding [ov] (getMethod ov m pl)
      callWith pos f first (backTo pos (starEach (e :: es) X.env)) (backToKw pos (keywordEach [] X.env))) := by rfl) :
    PE X (.Call (.Attribute o m apos) (e :: es) [] pos) (tMeth C m sp dvs E ta t) := by
  intro pins s σ H Q I h
  refine PySem.W.methodCall_KW (pl := pl) (thn (he pins s σ H _ I h) fun u s1 ⟨x, H1, I1, rx, a, dx, fs, ex, ea, l, q⟩ => ?_) ht
  subst ex
  obtain rfl : u = Value.ref a := rx
  refine getmeth_ok I1 ea c hm l ?_
  refine PySem.W.callWith_K (first := [.ref a]) (h₀ := X.base) I.ok.mod.kin hm.kp (thn (ha pos pins s1 σ H1 _ I1 q) fun us s2 ⟨vs, H2, I2, r, q2⟩ => ⟨I2.kIn, ?_⟩) hst hpl
  exact run_fn (us := .ref a :: us) (vs := .ref a :: vs) F hr hb hd hx I2 (.cons rfl r) q2
/-- o.m() -/
theorem pe_meth0 {pl : Sem Bool} (he : PE X o ta) (c : Cls X.K C) (hm : Meth X.K C m f) (F : FnOk X.prog X.w X.K X.mg X.base CX k f fd ps sp) (hr : Room k X.A) (hb : Binds X.K fd ps ds) (hd : Vals dvs ds) (hx : Passes CX X E)
    (ht : eval (.Call (.Attribute o m apos) [] [] pos) X.env = (do
      let ov ← eval o X.env
      standAt apos.atName
      let (f, first) ← holding [ov] (getMethod ov m pl)
      callWith pos f first (backTo pos (starEach [] X.env)) (backToKw pos (keywordEach [] X.env))) := by rfl) :
    PE X (.Call (.Attribute o m apos) [] [] pos) (tMeth C m sp dvs E ta tNil) := by
  intro pins s σ H Q I h
  refine PySem.W.methodCall_KW (pl := pl) (thn (he pins s σ H _ I h) fun u s1 ⟨x, H1, I1, rx, a, dx, fs, ex, ea, l, q⟩ => ?_) ht
  subst ex
  obtain rfl : u = Value.ref a := rx
  refine getmeth_ok I1 ea c hm l ?_
  exact PySem.W.callWith_K0 (first := [.ref a]) I1.kIn hm.kp (run_fn (us := [.ref a]) (vs := [.ref a]) F hr hb hd hx I1 (.cons rfl .nil) q)

/-- what a class must have to be made -/
structure Mk (K : PySem.W.Frag) (C f : Addr) : Prop where
  makes : PySem.W.makesIn K C = true
  init : PySem.W.findIn K (.ref C) "__init__" = some (some (.ref f))
  fn : PySem.W.isFn K (.ref f) = true
  kp : PySem.W.keepIn K (.ref C) = true

theorem run_make {pins : List (Addr × Obj)} {σ : St} {H : Hp} {s : Shared} {Q : VK} {us : List Value} {vs : List V} (M : Mk X.K C f) (F : FnOk X.prog X.w X.K X.mg X.base CX k f fd ps sp) (hr : Room (k + 1) X.A) (hb : Binds X.K fd ps ds) (hd : Vals dvs ds)
    (hx : Passes CX X E) (I : Inv X pins σ H s) (r : Vals vs us)
    (h : ∀ x dx, H x = none → H dx = none → dx ≠ x → sp (.ref x :: (vs ++ dvs)) (upd (upd H dx (.own x)) x (.ins C dx [])) (fun v H2 => v = .non ∧ Q (.ref x) H2) E) :
    wpAny (model X.prog X.w) X.A (call (.ref C) us) (EP X pins σ Q) X.xe s := by
  have hq := h (s.heap.objs.size + 1) s.heap.objs.size (I.hok.fresh (Nat.le_succ _)) (I.hok.fresh (Nat.le_refl _)) (Nat.ne_of_lt (Nat.lt_succ_self _))
  have I2 := Inv.made (C := C) I
  have r2 : Vals (V.ref (s.heap.objs.size + 1) :: (vs ++ dvs)) (Value.ref (s.heap.objs.size + 1) :: (us ++ ds)) := .cons rfl (r.append hd)
  have hl : (Value.ref (s.heap.objs.size + 1) :: us ++ ds).length = ps.length := by
    have e := r2.length
    rw [F.len _ _ _ _ hq] at e
    exact e.symm
  refine wpAny_call (make_map (f := f) I.kIn M.makes M.init (beq_iff_eq.mp M.fn) (codeAny_mono (F.run _ X.stack _ _ ⟨Value.ref (s.heap.objs.size + 1) :: us, []⟩ (Value.ref (s.heap.objs.size + 1) :: (us ++ ds)) _ _ E (hr.make C us [])
    (I2.env0.make C us []) (hb _ (Value.ref (s.heap.objs.size + 1) :: us) I2.kIn hl) r2 hq) fun r s' hq' => ?_))
  cases r with
  | error e => exact hx pins σ _ _ e s' I2 hq'
  | ok fl =>
    cases fl with
    | ret u =>
      obtain ⟨v, H', I3, rv, ev, q3⟩ := I2.after hq'
      subst ev
      exact ⟨rv, ⟨V.ref (s.heap.objs.size + 1), H', I3, rfl, q3⟩⟩
    | next => exact False.elim hq'
    | brk => exact False.elim hq'
    | cont => exact False.elim hq'
theorem pe_make (M : Mk X.K C f) (F : FnOk X.prog X.w X.K X.mg X.base CX k f fd ps sp) (hr : Room (k + 1) X.A) (hg : Gl X x) (hm : X.mg x = some (.ref C)) (hb : Binds X.K fd ps ds) (hd : Vals dvs ds) (hx : Passes CX X E)
    (ha : PA X (e :: es) t) (hdb : (x == ("__debug__" : Str)) = false := by decide) (he : starEach (e :: es) X.env = (false, eval e X.env) :: starEach es X.env := by rfl) (hpl : (backTo pos (starEach es X.env)).any (·.1) = false := by rfl) :
    PE X (.Call (.Name x p) (e :: es) [] pos) (tMake C sp dvs E t) := by
  intro pins s σ H Q I h
  refine wpAny_Call_Name_kw (ld_glob I hg hm ?_ hdb)
  refine PySem.W.callWith_K (h₀ := X.base) I.ok.mod.kin M.kp (thn (ha pos pins s σ H _ I h) fun us s1 ⟨vs, H1, I1, r, q⟩ => ⟨I1.kIn, ?_⟩) he hpl
  exact run_make M F hr hb hd hx I1 r q
theorem pe_make0 (M : Mk X.K C f) (F : FnOk X.prog X.w X.K X.mg X.base CX k f fd ps sp) (hr : Room (k + 1) X.A) (hg : Gl X x) (hm : X.mg x = some (.ref C)) (hb : Binds X.K fd ps ds) (hd : Vals dvs ds) (hx : Passes CX X E)
    (hdb : (x == ("__debug__" : Str)) = false := by decide) : PE X (.Call (.Name x p) [] [] pos) (tMake C sp dvs E tNil) := by
  intro pins s σ H Q I h
  refine wpAny_Call_Name_kw (ld_glob I hg hm ?_ hdb)
  exact PySem.W.callWith_K0 I.kIn M.kp (run_make (us := []) M F hr hb hd hx I .nil h)
end

/-! ### keywords -/

/-! ### a def's body keeps its promise -/
/-- names: the parameters first -/
structure FnScope (N P : List Str) (sc : Scope) : Prop where
  kind : sc.kind = .function
  co : sc.isCoroutine = false
  gen : sc.isGenerator = false
  nd : N.Nodup
  pre : N.take P.length = P
  par : ∀ x ∈ P, sc.names.lookup x = some .local ∨ sc.names.lookup x = some .cell
  nofree : ∀ y ∈ sc.names, y.2 ≠ .free

theorem bindL_out {kindOf : Str → Option NameKind} {x : Str} : ∀ {binds : List (Str × Value)} {m : Str → Option Value}, (∀ v, (x, v) ∉ binds) → bindL kindOf binds m x = m x
  | [], _, _ => rfl
  | (n, v) :: r, m, h => by
    unfold bindL
    rw [bindL_out fun w hw => h w (List.mem_cons_of_mem _ hw)]
    split
    · have : x ≠ n := by rintro rfl; exact h v List.mem_cons_self
      simp [this]
    · rfl
theorem bindC_out {kindOf : Str → Option NameKind} {x : Str} : ∀ {binds : List (Str × Value)} {m : Str → Option Value}, (∀ v, (x, v) ∉ binds) → bindC kindOf binds m x = m x
  | [], _, _ => rfl
  | (n, v) :: r, m, h => by
    unfold bindC
    rw [bindC_out fun w hw => h w (List.mem_cons_of_mem _ hw)]
    split
    · rfl
    · have : x ≠ n := by rintro rfl; exact h v List.mem_cons_self
      simp [this]
theorem bindL_get {kindOf : Str → Option NameKind} {x : Str} {v : Value} : ∀ {P : List Str} {vs : List Value} {i : Nat} {m : Str → Option Value}, P.Nodup → P[i]? = some x → vs[i]? = some v → kindOf x = some .local →
    bindL kindOf (P.zip vs) m x = some v
  | [], _, _, _, _, h, _, _ => by simp at h
  | _ :: _, [], _, _, _, _, h, _ => by simp at h
  | p :: P, w :: vs, 0, m, nd, h1, h2, hk => by
    simp at h1 h2; subst h1; subst h2
    show bindL kindOf ((p, w) :: P.zip vs) m p = _
    unfold bindL
    rw [bindL_out fun v hv => (List.nodup_cons.mp nd).1 (List.of_mem_zip hv).1, if_pos hk]
    simp
  | p :: P, w :: vs, i + 1, m, nd, h1, h2, hk => by
    show bindL kindOf ((p, w) :: P.zip vs) m x = _
    unfold bindL
    exact bindL_get (i := i) (List.nodup_cons.mp nd).2 (by simpa using h1) (by simpa using h2) hk
theorem bindC_get {kindOf : Str → Option NameKind} {x : Str} {v : Value} : ∀ {P : List Str} {vs : List Value} {i : Nat} {m : Str → Option Value}, P.Nodup → P[i]? = some x → vs[i]? = some v → kindOf x ≠ some .local →
    bindC kindOf (P.zip vs) m x = some v
  | [], _, _, _, _, h, _, _ => by simp at h
  | _ :: _, [], _, _, _, _, h, _ => by simp at h
  | p :: P, w :: vs, 0, m, nd, h1, h2, hk => by
    simp at h1 h2; subst h1; subst h2
    show bindC kindOf ((p, w) :: P.zip vs) m p = _
    unfold bindC
    rw [bindC_out fun v hv => (List.nodup_cons.mp nd).1 (List.of_mem_zip hv).1, if_neg hk]
    simp
  | p :: P, w :: vs, i + 1, m, nd, h1, h2, hk => by
    show bindC kindOf ((p, w) :: P.zip vs) m x = _
    unfold bindC
    exact bindC_get (i := i) (List.nodup_cons.mp nd).2 (by simpa using h1) (by simpa using h2) hk

/-- the names' values at the entry -/
def start (N : List Str) (vs : List V) : St := vs.map some ++ List.replicate (N.length - vs.length) none

/-- the context of a def's body, at its entry; an exception leaves the frame, then lies as CX says -/
def cxOf (CX : CXT) (P : Program) (w : World) (K : PySem.W.Frag) (mg : Str → Option Value) (base : Heap) (N : List Str) (qual : Str) (scope : Scope) (f : Addr) (cd : Value) (A : Around) (outer : List Env) (s : Shared) (H : Hp) (E : XK) : Cx where
  prog := P
  w := w
  K := K
  mg := mg
  base := base
  A := A.deeper (envOfC qual scope s.heap.objs.size f cd)
  N := N
  s_0 := s
  H_0 := H
  env := envOfC qual scope s.heap.objs.size f cd
  outer := outer
  stack := envOfC qual scope s.heap.objs.size f cd :: outer
  ex := []
  calm := true
  fn := fun _ => true
  pn := []
  xe := fun e s' => wpAny (model P w) (A.deeper (envOfC qual scope s.heap.objs.size f cd)) (leaving (envOfC qual scope s.heap.objs.size f cd) e) (fun _ s'' => CX outer H s E e s'') (fun e' s'' => CX outer H s E e' s'') s'

theorem cell_has {sc : Scope} {n : Nat} {x : Str} (h : sc.names.lookup x = some .cell) : ∃ c, (cellsFrom n sc.names []).lookup x = some c := by
  have q := PySem.W.cellsFrom_some sc.names n [] (.inl h)
  exact Option.isSome_iff_exists.mp q

theorem inv_start {CX : CXT} {P : Program} {w : World} {K : PySem.W.Frag} {mg : Str → Option Value} {base : Heap} {N ps : List Str} {qual : Str} {scope : Scope} {f : Addr} {cd : Value} {A : Around} {outer : List Env} {s s1 : Shared} {H : Hp} {E : XK} {us : List Value} {vs : List V}
    (S : FnScope N ps scope) (hd : A.handled = none) (e0 : Env0 P w K mg base A outer s H) (hl : vs.length = ps.length) (r : Vals vs us)
    (x : InCallC s s.heap.objs.size (bindL (envOfC qual scope s.heap.objs.size f cd).kindOf (ps.zip us) fun _ => none) (cellsFrom (s.heap.objs.size + 1) scope.names []) (bindC (envOfC qual scope s.heap.objs.size f cd).kindOf (ps.zip us) fun _ => none) s1) :
    Inv (cxOf CX P w K mg base N qual scope f cd A outer s H E) [] (start N vs) H s1 := by
  have hpl : ps.length ≤ N.length := by have := congrArg List.length S.pre; rw [List.length_take] at this; omega
  obtain ⟨h1, tk, rfl, hk⟩ := x.done
  have noA : ∀ b : Addr, b ∉ (cxOf CX P w K mg base N qual scope f cd A outer s H E).ex := fun b z => absurd (show b ∈ ([] : List Addr) from z) (by simp)
  refine ⟨⟨e0.mod, S.kind, rfl, rfl, Nat.le_refl _, fun y z c h1 h2 => ?_, fun y hy => ?_, fun y c _ h => ?_, fun _ => hd, Around.frames_deeper e0.frames, .inr ⟨rfl, rfl⟩, fun b z => absurd z (noA b), e0.bs, e0.bsz, fun b _ _ => noA b, fun b z => absurd z (noA b), e0.funs, e0.frf⟩,
    rfl, e0.bare, Un.kept hk, ⟨_, x.toInCall.ns, fun i y v h1 h2 h3 => ?_⟩, fun y c h => ⟨_, x.cell y c h⟩, e0.hok.fresh (Nat.le_refl _), fun y c h => ?_, fun p hp => absurd (show p ∈ ([] : List (Addr × Obj)) from hp) (by simp), e0.hok.kept hk, ?_⟩
  · exact name_of_addr x.apart (PySem.mem_of_lookup h1) (PySem.mem_of_lookup h2)
  · have hy : scope.names.lookup y = some .cell ∨ scope.names.lookup y = some .free := hy
    rcases hy with hy | hy
    · exact cell_has hy
    · exact absurd rfl (S.nofree _ (PySem.mem_of_lookup hy))
  · exact Nat.le_of_lt (x.above y c (PySem.mem_of_lookup h))
  · have hi : i < vs.length := by
      unfold start at h2
      by_cases hi : i < vs.length
      · exact hi
      · rw [List.getElem?_append_right (by simpa using hi)] at h2
        rw [List.getElem?_replicate] at h2
        split at h2 <;> cases h2
    have ha : vs[i]? = some v := by
      unfold start at h2
      rw [List.getElem?_append_left (by simpa using hi), List.getElem?_map] at h2
      cases e : vs[i]? with
      | none => rw [e] at h2; cases h2
      | some a => rw [e] at h2; cases h2; rfl
    obtain ⟨u, hu, rv⟩ := r.get ha
    have hp : ps[i]? = some y := by
      rw [← S.pre, List.getElem?_take_of_lt (by omega)]; exact h1
    have ndP : ps.Nodup := by rw [← S.pre]; exact S.nd.sublist (List.take_sublist _ _)
    refine ⟨u, rv, ?_⟩
    rcases S.par y (List.mem_of_getElem? hp) with k | k
    · exact .inl ⟨k, bindL_get ndP hp hu k⟩
    · obtain ⟨c, e⟩ := cell_has (n := s.heap.objs.size + 1) k
      refine .inr ⟨.inl k, c, e, ?_⟩
      have q := x.cell y c e
      rw [bindC_get ndP hp hu (by show scope.names.lookup y ≠ _; rw [k]; decide)] at q
      exact q
  · exact e0.hok.fresh (Nat.le_of_lt (x.above y c (PySem.mem_of_lookup h)))
  · unfold start
    show _ = N.length
    rw [List.length_append, List.length_map, List.length_replicate]
    omega

/-- THE RULE: a def (or a method) of the text, by its body. The body's reading t is chosen for each entry; it is run at the parameters' values -/
theorem fn_of {CX : CXT} {P : Program} {w : World} {K : PySem.W.Frag} {mg : Str → Option Value} {base : Heap} {k : Nat} {f : Addr} {name qual : Str} {params : Arguments} {body : List Stmt} {scope : Scope} {dV kV doc pm cdv ct oc : Value} {an od : Option Addr}
    {osl : Array (Option Value)} {N ps : List Str} {sp : Sp} (lk : K.lookup f = some ⟨oc, od, .func (PySem.W.fnOf name qual params body scope dV kV doc pm an cdv ct), osl⟩) (hcd : PySem.W.codeIn K cdv qual = true) (S : FnScope N ps scope)
    (len : ∀ vs H Q E, sp vs H Q E → vs.length = ps.length)
    (hbody : ∀ (A : Around) (outer : List Env) (s : Shared) (H : Hp) (vs : List V) (Q : VK) (E : XK), Room k (A.deeper (envOfC qual scope s.heap.objs.size f cdv)) → sp vs H Q E →
      ∃ t, PSs (cxOf CX P w K mg base N qual scope f cdv A outer s H E) body t ∧ t { nx := fun _ H' => Q .non H', rt := Q } (start N vs) H) :
    FnOk P w K mg base CX (k + 1) f (PySem.W.fnOf name qual params body scope dV kV doc pm an cdv ct) ps sp := by
  refine ⟨len, fun A outer s H args us vs Q E hr e0 hb r hsp => ?_⟩
  have hl := len _ _ _ _ hsp
  have KX : K.In s.heap := e0.mod.kin.keeps fun b o e => (e0.bs b o e).1
  have lim : s.heap.NoLimit := e0.mod.nolimit.keeps fun b o e => (e0.bs b o e).1
  have hkind : ∀ y ∈ ps.zip us, scope.names.lookup y.1 = some .local ∨ (scope.names.lookup y.1 = some .cell ∧ ((cellsFrom (s.heap.objs.size + 1) scope.names []).lookup y.1).isSome = true) := fun ⟨n, v⟩ hy => by
    rcases S.par n (List.of_mem_zip hy).1 with q | q
    · exact .inl q
    · exact .inr ⟨q, PySem.W.cellsFrom_some _ _ _ (.inl q)⟩
  refine codeAny_call_function hr.depth (KX _ _ lk) rfl S.co S.gen rfl (PySem.W.codeRec_of KX hcd) (hb _ _ _ _ ?_)
  refine wpAny_newFunctionEnv_cells S.kind hkind fun env he s1 x => ?_
  subst he
  refine ⟨lim.keeps x.toInCall.keep, codeAny_func ?_⟩
  obtain ⟨t, ht, hq⟩ := hbody A outer s H vs Q E (hr.deeper _) hsp
  have I : Inv (cxOf CX P w K mg base N qual scope f cdv A outer s H E) [] (start N vs) H s1 := inv_start S hr.hd e0 hl r x
  refine wpAny_mono (ht [] s1 (start N vs) H _ I hq) (fun fl s' hs => ?_) fun e s' hs => hs
  have fin : ∀ {σ' : St} {H' : Hp} {v : V} {u : Value}, Inv (cxOf CX P w K mg base N qual scope f cdv A outer s H E) [] σ' H' s' → RelV v u → Q v H' → CE outer P w H s Q u s' :=
    fun {σ' H' v u} J rv q => ⟨v, H', J.os, J.bare, J.base, J.hok, rv, q⟩
  cases fl with
  | ret u =>
    obtain ⟨v, σ', H', J, rv, q⟩ := hs
    exact fin J rv q
  | next =>
    obtain ⟨σ', H', J, q⟩ := hs
    exact fin (v := V.non) (u := Value.none) J rfl q
  | brk =>
    obtain ⟨_, _, _, q⟩ := hs
    exact False.elim q
  | cont =>
    obtain ⟨_, _, _, q⟩ := hs
    exact False.elim q
end L2

namespace L2
open PySem PySem.Spec PyProof.Rows
section
variable {X : Cx} {x : Str} {p pos : Pos} {e : Expr} {es : List Expr} {t : TA} {id T : String} {r : List V → Hp → VK → Prop}

def tCB (r : List V → Hp → VK → Prop) (t : TA) : TE := fun σ H Q => t σ H fun vs H1 => r vs H1 Q
/-- f(e, ..), f a built-in function -/
theorem pe_callB (hc : CallR X (.builtin id) r) (hg : Gl X x) (hm : X.mg x = none) (hv : bootBuiltins x = some (.builtin id)) (ha : PA X (e :: es) t) (hn : x ≠ "__name__" := by decide) (hdb : (x == ("__debug__" : Str)) = false := by decide)
    (he : starEach (e :: es) X.env = (false, eval e X.env) :: starEach es X.env := by rfl) (hpl : (backTo pos (starEach es X.env)).any (·.1) = false := by rfl) : PE X (.Call (.Name x p) (e :: es) [] pos) (tCB r t) := by
  intro pins s σ H Q I h
  refine wpAny_Call_Name_kw (ld_blt I hg hm hv ?_ hn hdb)
  exact PyProof.Rows.callWith_builtin1 (thn (ha pos pins s σ H _ I h) fun us s1 ⟨vs, H1, I1, r1, q1⟩ => hc pins s1 σ H1 vs us Q I1 r1 q1) he hpl
/-- T(e, ..), T a built-in type -/
theorem pe_callTy (hc : CallR X (.type T) r) (hg : Gl X x) (hm : X.mg x = none) (hv : bootBuiltins x = some (.type T)) (ha : PA X (e :: es) t) (hn : x ≠ "__name__" := by decide) (hdb : (x == ("__debug__" : Str)) = false := by decide)
    (he : starEach (e :: es) X.env = (false, eval e X.env) :: starEach es X.env := by rfl) (hpl : (backTo pos (starEach es X.env)).any (·.1) = false := by rfl) : PE X (.Call (.Name x p) (e :: es) [] pos) (tCB r t) := by
  intro pins s σ H Q I h
  refine wpAny_Call_Name_kw (ld_blt I hg hm hv ?_ hn hdb)
  exact PyProof.Rows.callWith_type1 (thn (ha pos pins s σ H _ I h) fun us s1 ⟨vs, H1, I1, r1, q1⟩ => hc pins s1 σ H1 vs us Q I1 r1 q1) he hpl
end
end L2

namespace HT
open PySem PyProof.Rows

section
variable {prog : Program} {w : World} {A : Around} {E : Value → Shared → Prop} {s : Shared}

/-! ### t[a:b], not the whole -/
/-- a slice's bound as a place among n (d where it is left out) -/
def sIx (n d : Nat) : Option Int → Nat
  | none => d
  | some v => if v < 0 then (v + (n : Int)).toNat else min v.toNat n
theorem sIx_none (n d : Nat) : sIx n d none = d := rfl
theorem sIx_nat (n d k : Nat) : sIx n d (some (k : Int)) = min k n := by
  show (if (k : Int) < 0 then ((k : Int) + (n : Int)).toNat else min (k : Int).toNat n) = min k n
  rw [if_neg (by omega), Int.toNat_natCast]

end
end HT

namespace L2
open PySem PySem.Spec PyProof.Rows

/-! ### the parts of a slice -/
abbrev TO := St → Hp → (Option Int → Hp → Prop) → Prop
/-- a slice's part (left out, or an int) -/
def PO (X : Cx) (e : Option Expr) (t : TO) : Prop :=
  ∀ (pins : List (Addr × Obj)) (s : Shared) (σ : St) (H : Hp) (Q : Option Int → Hp → Prop), Inv X pins σ H s → t σ H Q →
    wpAny (model X.prog X.w) X.A (evalPart e X.env) (fun u s' => ∃ o H', Inv X pins σ H' s' ∧ IsPart u o ∧ Q o H') X.xe s
def tNoPart : TO := fun _ H Q => Q none H
def tPart (t : TE) : TO := fun σ H Q => t σ H fun x H1 => ∃ i, x = .int i ∧ Q (some i) H1

section
variable {X : Cx} {e : Expr} {te : TE} {lo hi : Option Expr} {tl th : TO} {pos p2 : Pos}

theorem po_none : PO X none tNoPart := by
  intro pins s σ H Q I h
  rw [evalPart_none]
  exact wpAny_pure ⟨none, H, I, .none, h⟩
theorem po_some (h : PE X e te) : PO X (some e) (tPart te) := by
  intro pins s σ H Q I hw
  rw [evalPart_some]
  refine thn (h pins s σ H _ I hw) fun u s1 ⟨x, H1, I1, r1, q1⟩ => ?_
  obtain ⟨i, rfl, q⟩ := q1
  obtain ⟨t, rfl⟩ := r1
  exact ⟨some i, H1, I1, .int i t, q⟩

/-- what a slice of a value is, by values: the slice object stands at sl -/
def SlR (X : Cx) (r : V → Option Int → Option Int → Hp → VK → Prop) : Prop :=
  ∀ (pins : List (Addr × Obj)) (s : Shared) (σ : St) (H : Hp) (x : V) (v vl vu : Value) (lo hi : Option Int) (sl : Addr) (Q : VK), Inv X pins σ H s → RelV x v → s.heap.IsSliceOf sl vl vu .none → IsPart vl lo → IsPart vu hi → r x lo hi H Q →
    ∃ T id, typeLookup (.type T) "__getitem__" = pure (some (.builtin id)) ∧ s.TypeIs v T ∧ wpAny (model X.prog X.w) X.A (getItem v (.ref sl)) (EP X pins σ Q) X.xe s
def tSl (r : V → Option Int → Option Int → Hp → VK → Prop) (te : TE) (tl th : TO) : TE := fun σ H Q => te σ H fun x H1 => tl σ H1 fun l H2 => th σ H2 fun u H3 => r x l u H3 Q
/-- a[lo:hi], any a -/
theorem pe_slice {r : V → Option Int → Option Int → Hp → VK → Prop} (hr : SlR X r) (he : PE X e te) (hl : PO X lo tl) (hu : PO X hi th) : PE X (.Subscript e (.Slice lo hi none p2) pos) (tSl r te tl th) := by
  intro pins s σ H Q I h
  refine Subscript_ (thn (he pins s σ H _ I h) fun v s1 ⟨x, H1, I1, r1, q1⟩ => ?_)
  refine wpAny_Slice (thn (hl pins s1 σ H1 _ I1 q1) fun vl s2 ⟨l, H2, I2, pl, q2⟩ => thn (hu pins s2 σ H2 _ I2 q2) fun vu s3 ⟨u, H3, I3, pu, q3⟩ => ?_)
  rw [evalPart_none]
  refine wpAny_pure ?_
  have I4 : Inv X pins σ H3 { s3 with heap := s3.heap.push { cls := .type "slice", data := .fields #[vl, vu, .none] } } := I3.kept (t' := s3.toks) fun b ob q => Heap.get?_push_of_some _ q
  obtain ⟨T, id, hT, ht, hg⟩ := hr pins { s3 with heap := s3.heap.push { cls := .type "slice", data := .fields #[vl, vu, .none] } } σ H3 x v vl vu l u s3.heap.objs.size Q I4 r1 (Heap.IsSliceOf.new ..) pl pu q3
  show wpAny (model X.prog X.w) X.A (subscriptTail e (.Slice lo hi none p2) v (.ref s3.heap.objs.size)) (EP X pins σ Q) X.xe { s3 with heap := s3.heap.push { cls := .type "slice", data := .fields #[vl, vu, .none] } }
  exact tail_any (ops := [.ref s3.heap.objs.size, v]) ht hT hg (by with_unfolding_all rfl)

/-- the items of xs[lo:hi] -/
def cutV (xs : List V) (lo hi : Option Int) : List V := (xs.drop (HT.sIx xs.length 0 lo)).take (HT.sIx xs.length xs.length hi - HT.sIx xs.length 0 lo)
theorem cutV_length (xs : List V) (lo hi : Option Int) : (cutV xs lo hi).length ≤ xs.length := by
  unfold cutV
  rw [List.length_take, List.length_drop]
  omega

/-! ### t < u, t + u -/
end
end L2

namespace L2
open PySem PySem.Spec PyProof.Rows

/-! ### places -/
/-- the place that an index of any sign means -/
def ixN (n : Nat) (i : Int) : Option Nat := if 0 ≤ i then (if i < n then some i.toNat else none) else if -(n : Int) ≤ i then some (i + n).toNat else none
def atI {α : Type} (xs : List α) (i : Int) : Option α := (ixN xs.length i).bind fun j => xs[j]?
theorem ixN_seq {n : Nat} {i : Int} {j : Nat} (h : ixN n i = some j) : seqIndex? i n = some j ∧ j < n ∧ -(n : Int) ≤ i ∧ i < n := by
  unfold ixN at h
  by_cases h0 : 0 ≤ i
  · rw [if_pos h0] at h
    by_cases h1 : i < n
    · rw [if_pos h1] at h
      have e : i.toNat = j := Option.some.inj h
      exact ⟨by rw [seqIndex_of h0 h1, e], by omega, by omega, h1⟩
    · rw [if_neg h1] at h; cases h
  · rw [if_neg h0] at h
    by_cases h1 : -(n : Int) ≤ i
    · rw [if_pos h1] at h
      have e : (i + n).toNat = j := Option.some.inj h
      exact ⟨by rw [seqIndex_neg (by omega) h1, e], by omega, h1, by omega⟩
    · rw [if_neg h1] at h; cases h
theorem atI_get {α : Type} {xs : List α} {i : Int} {v : α} (h : atI xs i = some v) : ∃ j, seqIndex? i xs.length = some j ∧ xs[j]? = some v ∧ j < xs.length ∧ -(xs.length : Int) ≤ i ∧ i < xs.length := by
  unfold atI at h
  cases e : ixN xs.length i with
  | none => rw [e] at h; cases h
  | some j =>
    rw [e] at h
    obtain ⟨h1, h2, h3, h4⟩ := ixN_seq e
    exact ⟨j, h1, h, h2, h3, h4⟩
theorem atI_nat {α : Type} {xs : List α} {j : Nat} {v : α} (h : xs[j]? = some v) : atI xs (j : Int) = some v := by
  have hj : j < xs.length := (List.getElem?_eq_some_iff.mp h).1
  have e : ixN xs.length (j : Int) = some j := by
    unfold ixN
    rw [if_pos (by omega), if_pos (by omega)]; simp
  unfold atI; rw [e]; exact h

/-! ### what may be subscripted -/
/-- what stands as an index of a plain subscript -/
def PlainIx (b : Expr) : Prop := ∀ o i, subscripted b false o i = operate [o, i] (getItem o i)
/-- a subscript by values -/
def IxR (X : Cx) (r : R2) : Prop :=
  ∀ (value slice : Expr) (pins : List (Addr × Obj)) (s : Shared) (σ : St) (H : Hp) (x y : V) (v u : Value) (Q : VK), Inv X pins σ H s → RelV x v → RelV y u → r x y H Q →
    subscripted slice false v u = operate [v, u] (getItem v u) → wpAny (model X.prog X.w) X.A (subscriptTail value slice v u) (EP X pins σ Q) X.xe s
/-- a call of a builtin's method by values: the receiver, the arguments -/
def MtR (X : Cx) (id : String) (r : V → List V → Hp → VK → Prop) : Prop :=
  ∀ (pins : List (Addr × Obj)) (s : Shared) (σ : St) (H : Hp) (x : V) (xs : List V) (v : Value) (us : List Value) (Q : VK), Inv X pins σ H s → RelV x v → Vals xs us → r x xs H Q →
    wpAny (model X.prog X.w) X.A (call (.builtin id) (v :: us)) (EP X pins σ Q) X.xe s
section
variable {X : Cx} {a b : Expr} {ta tb : TE} {pos : Pos}
/-- a[b] -/
theorem pe_ix {r : R2} (hr : IxR X r) (ha : PE X a ta) (hb : PE X b tb) (hs : PlainIx b) : PE X (.Subscript a b pos) (tOp r ta tb) := by
  intro pins s σ H Q I h
  exact Subscript_ (binT ha hb I h fun v u s2 x y H2 I2 rx ry q => hr a b pins s2 σ H2 x y v u Q I2 rx ry q (hs _ _))

def rIxL (K : PySem.W.Frag) : R2 := fun x y H Q => ∃ p xs i v, x = .ref p ∧ y = .int i ∧ SqL K H p xs ∧ atI xs i = some v ∧ Q v H
def rIxT (K : PySem.W.Frag) : R2 := fun x y H Q => ∃ p xs i v, x = .ref p ∧ y = .int i ∧ SqT K H p xs ∧ atI xs i = some v ∧ Q v H
theorem ix_list : IxR X (rIxL X.K) := by
  intro value slice pins s σ H x y v u Q I rx ry h hs
  obtain ⟨p, xs, i, z, rfl, rfl, hq, he, q⟩ := h
  cases rx
  obtain ⟨t, rfl⟩ := ry
  obtain ⟨its, r, pl, hz⟩ := I.list hq
  obtain ⟨j, h1, h2, h3, h4, h5⟩ := atI_get he
  obtain ⟨w, ew, rw'⟩ := r.get h2
  have hl := r.length
  have hn := line63
  have fin : EP X pins σ Q w s := ⟨z, H, I, rw', q⟩
  by_cases h0 : 0 ≤ i
  · have hj : i.toNat = j := by
      rw [seqIndex_of h0 h5] at h1
      exact Option.some.inj h1
    exact item_listR pl.isList h0 (by omega) (by rw [hj]; simpa using ew) fin hs
  · have hj : (i + (its.toArray.size : Int)).toNat = j := by
      rw [seqIndex_neg (by omega) h4] at h1
      rw [List.size_toArray, ← hl]
      exact Option.some.inj h1
    exact subscriptTail_builtinR (x := w) pl.isList.typeIs slot_list_getitem.lookup
      (wpAny_getItem_list_neg (Q := fun r s' => r = w ∧ EP X pins σ Q r s') pl.isList (by omega) (by rw [List.size_toArray] <;> omega) (by omega) (by rw [hj]; simpa using ew) ⟨rfl, fin⟩) hs
theorem ix_tup : IxR X (rIxT X.K) := by
  intro value slice pins s σ H x y v u Q I rx ry h hs
  obtain ⟨p, xs, i, z, rfl, rfl, hq, he, q⟩ := h
  cases rx
  obtain ⟨t, rfl⟩ := ry
  obtain ⟨its, r, pl, hz⟩ := I.tuple hq
  obtain ⟨j, h1, h2, h3, h4, h5⟩ := atI_get he
  obtain ⟨w, ew, rw'⟩ := r.get h2
  have hl := r.length
  have hn := line63
  have fin : EP X pins σ Q w s := ⟨z, H, I, rw', q⟩
  exact subscriptTail_builtinR (x := w) pl.typeIs slot_tuple_getitem.lookup
    (getItem_tuple (j := j) (Q := fun r s' => r = w ∧ EP X pins σ Q r s') pl (by omega) (by omega) (by rw [List.size_toArray, ← hl]; exact h1) (by simpa using ew) ⟨rfl, fin⟩) hs

/-! ### xs[i] = v, any sign -/
/-- the list's object behind a store -/
theorem mapSeq_set (its : List Value) (n j : Nat) (u : Value) : Obj.mapSeq (·.setIfInBounds j u) { cls := .type "list", data := .seq its.toArray n } = { cls := .type "list", data := .seq (its.set j u).toArray n } := by
  simp [Obj.mapSeq]
theorem Inv.lst {pins : List (Addr × Obj)} {σ : St} {H : Hp} {s : Shared} {p : Addr} {xs : List V} (I : Inv X pins σ H s) (h : H p = some (.lst xs)) :
    ∃ (its : List Value) (n : Nat), Vals xs its ∧ s.heap.get? p = some { cls := .type "list", data := .seq its.toArray n } ∧ xs.length ≤ sizeLine := by
  obtain ⟨z, its, n, r, e⟩ := I.hok p _ h
  exact ⟨its, n, r, e, z⟩
/-- the list at p is written by an update of its object -/
theorem Inv.lstUpd {pins : List (Addr × Obj)} {σ : St} {H : Hp} {s : Shared} {p : Addr} {xs ys : List V} {its its' : List Value} {n n' : Nat} {f : Obj → Obj} (I : Inv X pins σ H s) (h : H p = some (.lst xs))
    (ho : s.heap.get? p = some { cls := .type "list", data := .seq its.toArray n }) (hf : f { cls := .type "list", data := .seq its.toArray n } = { cls := .type "list", data := .seq its'.toArray n' }) (r : Vals ys its') (hz : ys.length ≤ sizeLine) (t : Nat) :
    Inv X pins σ (upd H p (.lst ys)) { s with heap := s.heap.update p f, toks := t } := by
  have e : (s.heap.update p f).get? p = some { cls := .type "list", data := .seq its'.toArray n' } := by
    rw [Heap.get?_update_self f ho (by rw [hf] <;> rfl), hf]
  refine I.write (x := p) (e := p) (by rw [h]; trivial) (.inl rfl) (fun b u hb q => (Heap.get?_update_other _ _ (Ne.symm hb)).trans q) ⟨_, e⟩ ?_
  exact ⟨hz, its', n', r, e⟩
def rSetL : V → V → V → Hp → (Hp → Prop) → Prop := fun o i v H Q => ∃ p xs k j, o = .ref p ∧ i = .int k ∧ H p = some (.lst xs) ∧ ixN xs.length k = some j ∧ Q (upd H p (.lst (xs.set j v)))
theorem set_list : PSet X rSetL := by
  intro pins s σ H o i v ov iv u Q I ro ri rv h
  obtain ⟨p, xs, k, j, rfl, rfl, hp, hj, q⟩ := h
  cases ro
  obtain ⟨t, rfl⟩ := ri
  obtain ⟨its, n, r, ho, hz⟩ := I.lst hp
  obtain ⟨h1, h2, h3, h4⟩ := ixN_seq hj
  have hl := r.length
  have hn := line63
  have I' : Inv X pins σ (upd H p (.lst (xs.set j v))) { s with heap := s.heap.update p (Obj.mapSeq (·.setIfInBounds j u)) } :=
    I.lstUpd hp ho (mapSeq_set its n j u) (r.set rv j) (by rw [List.length_set]; exact hz) s.toks
  by_cases h0 : 0 ≤ k
  · have hk : k.toNat = j := by
      rw [seqIndex_of h0 h4] at h1
      exact Option.some.inj h1
    exact PySem.W.ki_setAt ho h0 (by omega) (by rw [List.size_toArray, ← hl]; exact h4) (by rw [hk]; exact ⟨_, I', q⟩)
  · have hk : (k + (its.toArray.size : Int)).toNat = j := by
      rw [seqIndex_neg (by omega) h3] at h1
      rw [List.size_toArray, ← hl]
      exact Option.some.inj h1
    exact PySem.W.ki_setBack ho (by omega) (by rw [List.size_toArray, ← hl]; exact h3) (by omega) (by rw [hk]; exact ⟨_, I', q⟩)

/-! ### slices -/
theorem slice_bounds (lo hi : Option Int) (n : Nat) : (sliceBounds lo hi none n).1 = ((HT.sIx n 0 lo : Nat) : Int) ∧ (sliceBounds lo hi none n).2.1 = ((HT.sIx n n hi : Nat) : Int) ∧ (sliceBounds lo hi none n).2.2 = 1 := by
  refine ⟨?_, ?_, rfl⟩
  · cases lo with
    | none => simp [sliceBounds, HT.sIx]
    | some i =>
      simp only [sliceBounds, HT.sIx, Option.getD_none, show (1 : Int) > 0 by decide, if_true]
      by_cases h : i < 0
      · simp only [h, if_true] <;> omega
      · simp only [h, if_false] <;> omega
  · cases hi with
    | none => simp [sliceBounds, HT.sIx]
    | some i =>
      simp only [sliceBounds, HT.sIx, Option.getD_none, show (1 : Int) > 0 by decide, if_true]
      by_cases h : i < 0
      · simp only [h, if_true] <;> omega
      · simp only [h, if_false] <;> omega
theorem slicePick_cut (its : List Value) (lo hi : Option Int) : slicePick its.toArray lo hi none = ((its.drop (HT.sIx its.length 0 lo)).take (HT.sIx its.length its.length hi - HT.sIx its.length 0 lo)).toArray := by
  obtain ⟨h1, h2, h3⟩ := slice_bounds lo hi its.toArray.size
  unfold slicePick
  rw [h1, h2, h3]
  simp only [sliceRange_one, pick_run, List.size_toArray] <;> rfl
/-- xs[lo:hi] of a list: a new list -/
def rSlL (K : PySem.W.Frag) : V → Option Int → Option Int → Hp → VK → Prop := fun x lo hi H Q => ∃ a xs, x = .ref a ∧ SqL K H a xs ∧ ∀ p, H p = none → Q (.ref p) (upd H p (.lst (cutV xs lo hi)))
theorem sl_list : SlR X (rSlL X.K) := by
  intro pins s σ H x v vl vu lo hi sl Q I rx hs pl pu h
  obtain ⟨a, xs, rfl, hx, q⟩ := h
  cases rx
  obtain ⟨its, r, ht, hz⟩ := I.list hx
  have hlen := r.length
  refine ⟨"list", _, slot_list_getitem.lookup, ht.isList.typeIs, ?_⟩
  refine wpAny_getItem_list_slice ht.isList hs pl pu .none (by simp) ?_ (by rw [List.size_toArray] <;> omega)
  rw [slicePick_cut, ← hlen]
  refine ⟨.ref s.heap.objs.size, _, I.laid (t' := s.toks) (o := .lst (cutV xs lo hi)) (fun b ob q => Heap.get?_push_of_some _ q) (Nat.le_refl _) ?_, rfl, q _ (I.hok.fresh (Nat.le_refl _))⟩
  exact ⟨Nat.le_trans (cutV_length xs lo hi) hz, _, 0, (r.drop (HT.sIx xs.length 0 lo)).take (HT.sIx xs.length xs.length hi - HT.sIx xs.length 0 lo), Heap.get?_push_size _ rfl⟩

/-! ### in, not in: flat items -/

/-! ### len, list(x), tuple(x) of any list or tuple that is read -/
theorem call_len_seq : CallR X (.builtin "len") (fun xs H Q => ∃ p ys, xs = [.ref p] ∧ (SqL X.K H p ys ∨ SqT X.K H p ys) ∧ Q (.int ys.length) H) := by
  intro pins s σ H xs us Q I r h
  obtain ⟨p, ys, rfl, hq, q⟩ := h
  obtain ⟨u, rfl, rx⟩ := vals1 r
  cases rx
  have hn := line63
  rcases hq with hq | hq
  · obtain ⟨its, r', pl, hz⟩ := I.list hq
    have hlen := r'.length
    exact Calls.call_len_list pl.isList (by simp only [List.size_toArray] <;> omega) ⟨.int ys.length, H, I.tok _, ⟨s.toks + 1, by rw [List.size_toArray, hlen]⟩, q⟩
  · obtain ⟨its, r', pl, hz⟩ := I.tuple hq
    have hlen := r'.length
    exact len_tuple pl (by simp only [List.size_toArray] <;> omega) ⟨.int ys.length, H, I.tok _, ⟨s.toks + 1, by rw [List.size_toArray, hlen]⟩, q⟩

/-! ### the call of a builtin's method: o.m(..) -/
/-- the value is of that builtin type -/
def tyV (K : PySem.W.Frag) (T : String) (x : V) (H : Hp) : Prop := match x with
  | .str _ => T = "str"
  | .int _ => T = "int"
  | .ref p => (T = "list" ∧ ∃ xs, SqL K H p xs) ∨ (T = "tuple" ∧ ∃ o, K.lookup p = some o ∧ o.cls = .type "tuple" ∧ o.dict = none) ∨
      (T = "dict" ∧ ((∃ kvs, H p = some (.dK kvs)) ∨ ∃ kvs, H p = some (.dT kvs))) ∨ (T = "set" ∧ ∃ S n, H p = some (.set S n))
  | _ => False
theorem tyV_is {pins : List (Addr × Obj)} {σ : St} {H : Hp} {s : Shared} {T : String} {x : V} {v : Value} (I : Inv X pins σ H s) (r : RelV x v) (ty : tyV X.K T x H) :
    s.TypeIs v T ∧ ∀ a, v = .ref a → ∃ ob, s.heap.get? a = some ob ∧ ob.dict = none := by
  cases x with
  | str z =>
    obtain ⟨t, rfl⟩ := r
    cases (show T = "str" from ty)
    exact ⟨typeIs_str s z t, fun _ e => nomatch e⟩
  | int i =>
    obtain ⟨t, rfl⟩ := r
    cases (show T = "int" from ty)
    exact ⟨typeIs_int s i t, fun _ e => nomatch e⟩
  | ref p =>
    cases r
    rcases ty with ⟨rfl, xs, hq⟩ | ⟨rfl, o, hk, hc, hd⟩ | ⟨rfl, hk⟩ | ⟨rfl, S, n, hk⟩
    · obtain ⟨its, _, pl, _⟩ := I.list hq
      refine ⟨pl.isList.typeIs, fun a e => ?_⟩
      cases e
      obtain ⟨o, n, e, c, hd, _⟩ := pl
      exact ⟨o, e, hd⟩
    · refine ⟨⟨o, I.kIn p o hk, hc⟩, fun a e => ?_⟩
      cases e
      exact ⟨o, I.kIn _ o hk, hd⟩
    · have z : ∃ o, s.heap.get? p = some o ∧ o.ExactDict := by
        rcases hk with ⟨kvs, hk⟩ | ⟨kvs, hk⟩
        · obtain ⟨_, _, _, _, o, _, _, e, ex, _⟩ := I.hok p _ hk
          exact ⟨o, e, ex⟩
        · obtain ⟨_, _, _, _, o, _, _, e, ex, _⟩ := I.hok p _ hk
          exact ⟨o, e, ex⟩
      obtain ⟨o, e, ex⟩ := z
      refine ⟨⟨o, e, ex.1⟩, fun a e2 => ?_⟩
      cases e2
      exact ⟨o, e, ex.2.1⟩
    · obtain ⟨o, _, _, _, e, ex, _⟩ := I.hok p _ hk
      refine ⟨⟨o, e, ex.1⟩, fun a e2 => ?_⟩
      cases e2
      exact ⟨o, e, ex.2.1⟩
  | _ => exact False.elim ty
def tBM (K : PySem.W.Frag) (T : String) (r : V → List V → Hp → VK → Prop) (to : TE) (t : TA) : TE := fun σ H Q => to σ H fun x H1 => tyV K T x H1 ∧ t σ H1 fun xs H2 => r x xs H2 Q
variable {o e : Expr} {es : List Expr} {to : TE} {t : TA} {name : Str} {apos cpos : Pos} {T id : String} {r : V → List V → Hp → VK → Prop}
theorem pe_bm (pa : PlainAttrs T) (slot : Slot T name id) (hty : typeOf (.builtin id) = pure (.type "method_descriptor")) (hm : MtR X id r) (ho : PE X o to) (ha : PA X (e :: es) t)
    (hbase : attributeBase o name X.env (eval o X.env) = eval o X.env := by rfl)
    (hfew : ((backTo cpos (starEach (e :: es) X.env)).all (fun x => !x.1) && (backToKw cpos (keywordEach [] X.env)).all (fun x => x.1.isSome)
      && decide ((e :: es).length + ([] : List Keyword).length + (if ([] : List Keyword).isEmpty then 0 else 1) < 30)) = true := by rfl)
    (hline : (apos.endLine == cpos.line) = true := by rfl) (hs : starEach (e :: es) X.env = (false, eval e X.env) :: starEach es X.env := by rfl) (hplain : (backTo cpos (starEach es X.env)).any (·.1) = false := by rfl) :
    PE X (.Call (.Attribute o name apos) (e :: es) [] cpos) (tBM X.K T r to t) := by
  intro pins s σ H Q I h
  refine wpAny_Call_method_late hbase hfew hline rfl (thn (ho pins s σ H _ I h) fun v s1 ⟨x, H1, I1, r1, ty, q1⟩ => ?_)
  obtain ⟨h1, h2⟩ := tyV_is I1 r1 ty
  refine ⟨T, id, pa, slot, hty, h1, h2, ?_⟩
  have hA := ha cpos pins s1 σ H1 _ I1 q1
  rw [hs] at hA ⊢
  refine Calls.callWith_builtin (by show (false || (backTo cpos (starEach es X.env)).any (·.1)) = false; rw [hplain] <;> rfl) (Calls.evalArgs_plain ?_)
  exact thn hA fun us s2 ⟨vs, H2, I2, r2, q2⟩ => hm pins s2 σ H2 x vs v us Q I2 r1 r2 q2
/- xs.append(e), list.index on a module's tuple .. are MtR facts of 06m -/
end
end L2

namespace L2
open PySem PySem.Spec PyProof.Rows

def MtM (X : Cx) (id : String) (r : V → List V → Hp → VK → Prop) : Prop :=
  ∀ (pins : List (Addr × Obj)) (s : Shared) (σ : St) (H : Hp) (x : V) (xs : List V) (v : Value) (us : List Value) (Q : VK), Inv X pins σ H s → RelV x v → Vals xs us → r x xs H Q →
    wpAny (model X.prog X.w) X.A (call (.builtin id) (v :: us)) (EP X pins σ Q) X.xe s

/-! ### lists of values -/
theorem Vals.one : ∀ {x : V} {us : List Value}, Vals [x] us → ∃ u, us = [u] ∧ RelV x u
  | _, _, .cons r .nil => ⟨_, rfl, r⟩

section
variable {X : Cx} {pins : List (Addr × Obj)} {σ : St} {H : Hp} {s : Shared} {l b : Addr} {xs ys zs : List V}

/-! ### the two steps: a tracked list is rewritten, a new list is laid -/
theorem Inv.lset {its its' : List Value} {n : Nat} {f : Array Value → Array Value} {t' : Nat} (I : Inv X pins σ H s) (hH : H l = some (.lst xs))
    (e : s.heap.get? l = some { cls := .type "list", data := .seq its.toArray n }) (hf : f its.toArray = its'.toArray) (hv : Vals ys its') (hz : ys.length ≤ sizeLine) :
    Inv X pins σ (upd H l (.lst ys)) { s with heap := s.heap.update l (Obj.mapSeq f), toks := t' } := by
  have q := PySem.IsL.update e f
  rw [hf] at q
  refine I.write (x := l) (e := l) (by rw [hH]; exact trivial) (.inl rfl) (fun b' u hb hu => (Heap.get?_update_other s.heap (Obj.mapSeq f) (Ne.symm hb)).trans hu) ⟨_, q⟩ ?_
  exact ⟨hz, its', _, hv, q⟩
theorem Inv.lnew {its : List Value} {t' : Nat} (I : Inv X pins σ H s) (hv : Vals ys its) (hz : ys.length ≤ sizeLine) :
    Inv X pins σ (upd H s.heap.objs.size (.lst ys)) { s with heap := s.heap.push { cls := .type "list", data := .seq its.toArray }, toks := t' } :=
  I.laid (fun _ _ q => Heap.get?_push_of_some _ q) (Nat.le_refl _) ⟨hz, its, 0, hv, Heap.get?_push_size _ rfl⟩
theorem Inv.fresh (I : Inv X pins σ H s) : H s.heap.objs.size = none := I.hok.fresh (Nat.le_refl _)
theorem Inv.lstM (I : Inv X pins σ H s) (hH : H l = some (.lst xs)) : xs.length ≤ sizeLine ∧ ∃ (its : List Value) (n : Nat), Vals xs its ∧ xs.length = its.length ∧ s.heap.get? l = some { cls := .type "list", data := .seq its.toArray n } := by
  obtain ⟨z, its, n, r, e⟩ := I.hok l _ hH
  exact ⟨z, its, n, r, r.length, e⟩

theorem notLongL {n : Nat} (h : n ≤ sizeLine) : Builtin.List.listTooLong n = false := by
  unfold Builtin.List.listTooLong
  exact decide_eq_false (by omega)
end

section
variable {X : Cx}

/-! ### methods -/
def rAppend : V → List V → Hp → VK → Prop := fun x vs H Q => ∃ l xs y, x = .ref l ∧ vs = [y] ∧ H l = some (.lst xs) ∧ xs.length < sizeLine ∧ Q .non (upd H l (.lst (xs ++ [y])))
theorem mt_append : MtM X "list.append" rAppend := by
  intro pins s σ H x vs v us Q I rx rv h
  obtain ⟨l, xs, y, rfl, rfl, hH, hz, q⟩ := h
  cases rx
  obtain ⟨u, rfl, ru⟩ := rv.one
  obtain ⟨z, its, n, r, hl, e⟩ := I.lstM hH
  refine call_meets F.slot_list_append ⟨_, e, rfl⟩ F.entry_list_append (F.args_list_append_2 _ _) (PySem.list_append l its.toArray n u (by rw [List.size_toArray]; omega)) ⟨e, ?_⟩
  refine ⟨.non, _, I.lset (its' := its ++ [u]) hH e (by simp) (r.append (.cons ru .nil)) ?_, rfl, q⟩
  rw [List.length_append, List.length_singleton]
  omega

def rExtend : V → List V → Hp → VK → Prop := fun x vs H Q => ∃ l b xs zs, x = .ref l ∧ vs = [.ref b] ∧ H l = some (.lst xs) ∧ H b = some (.lst zs) ∧ xs.length + zs.length ≤ sizeLine ∧ Q .non (upd H l (.lst (xs ++ zs)))
theorem mt_extend : MtM X "list.extend" rExtend := by
  intro pins s σ H x vs v us Q I rx rv h
  obtain ⟨l, b, xs, zs, rfl, rfl, hH, hB, hz, q⟩ := h
  cases rx
  obtain ⟨u, rfl, ru⟩ := rv.one
  cases ru
  obtain ⟨z, its, n, r, hl, e⟩ := I.lstM hH
  obtain ⟨z2, its2, n2, r2, hl2, e2⟩ := I.lstM hB
  have hsz : its.toArray.size + its2.toArray.size ≤ sizeLine := by rw [List.size_toArray, List.size_toArray]; omega
  have hlong : ¬ (!its.toArray.isEmpty && Builtin.List.listTooLong (its.toArray.size + its2.toArray.size)) = true := by
    rw [notLongL hsz, Bool.and_false]
    exact Bool.false_ne_true
  refine call_meets F.slot_list_extend ⟨_, e, rfl⟩ F.entry_list_extend (F.args_list_extend_2 _ _)
    (AutoSeq1.list_extend_list_list_0 l its.toArray n b its2.toArray n2 hlong (by rw [List.size_toArray]; omega) (by omega)) ⟨e, e2, ?_⟩
  refine ⟨.non, _, I.lset (its' := its ++ its2) hH e (by simp) (r.append r2) ?_, rfl, q⟩
  rw [List.length_append]
  omega

/-! ### list + list, list += list, list * int -/
def rCat : R2 := fun x y H Q => ∃ l b xs zs, x = .ref l ∧ y = .ref b ∧ H l = some (.lst xs) ∧ H b = some (.lst zs) ∧ xs.length + zs.length ≤ sizeLine ∧ ∀ p, H p = none → Q (.ref p) (upd H p (.lst (xs ++ zs)))
theorem op_cat : OpR X (binaryOp .Add) rCat := by
  intro pins s σ H x y v u Q I rx ry h
  obtain ⟨l, b, xs, zs, rfl, rfl, hH, hB, hz, q⟩ := h
  cases rx
  cases ry
  obtain ⟨z, its, n, r, hl, e⟩ := I.lstM hH
  obtain ⟨z2, its2, n2, r2, hl2, e2⟩ := I.lstM hB
  refine PySem.P.add_list e e2 ?_ (by rw [List.size_toArray, List.size_toArray]; omega)
  have ea : its.toArray ++ its2.toArray = (its ++ its2).toArray := by simp
  rw [ea]
  exact ⟨.ref _, _, I.lnew (t' := s.toks) (r.append r2) (by rw [List.length_append]; omega), rfl, q _ I.fresh⟩

/-! ### del xs[i] -/
end

/-! ### xs[a:b] = ys -/

end L2

namespace L2
open PySem PySem.Spec PyProof.Rows

/-! ### the library's walks over a list of ints, kept objects alone -/

/-! ### the calls, by values (CallR of 03t; MtR of 06l) -/

/-! ### list.index, flat items -/

/-! ### type(x) of an own instance; is, is not of a module's class -/

/-! ### any(xs), all(xs) of a list of bools -/

/-! ### == and != of data at any depth: none, bools, ints, texts, lists, tuples -/
mutual
inductive Dp (K : PySem.W.Frag) (H : Hp) : V → PyData → Prop
  | non : Dp K H .non .none
  | bl (b : Bool) : Dp K H (.bl b) (.bool b)
  | int (i : Int) : Dp K H (.int i) (.int i)
  | str (x : Str) : Dp K H (.str x) (.str x)
  | lst {a : Addr} {xs : List V} {ds : List PyData} : SqL K H a xs → DpAll K H xs ds → Dp K H (.ref a) (.list ds)
  | tup {a : Addr} {xs : List V} {ds : List PyData} : SqT K H a xs → DpAll K H xs ds → Dp K H (.ref a) (.tuple ds)
inductive DpAll (K : PySem.W.Frag) (H : Hp) : List V → List PyData → Prop
  | nil : DpAll K H [] []
  | cons {v : V} {vs : List V} {d : PyData} {ds : List PyData} : Dp K H v d → DpAll K H vs ds → DpAll K H (v :: vs) (d :: ds)
end
section
variable {X : Cx} {pins : List (Addr × Obj)} {σ : St} {H : Hp} {s : Shared}
mutual
theorem Dp.reads (I : Inv X pins σ H s) : ∀ (d : PyData) (v : V) (u : Value), Dp X.K H v d → RelV v u → ∃ as, Reads s.heap u d as
  | .none, _, _, h, r => by
    cases h
    cases r
    exact ⟨_, Reads.none⟩
  | .bool b, _, _, h, r => by
    cases h
    cases r
    exact ⟨_, Reads.bool b⟩
  | .int i, _, _, h, r => by
    cases h
    obtain ⟨t, rfl⟩ := r
    exact ⟨_, Reads.int i t⟩
  | .str x, _, _, h, r => by
    cases h
    obtain ⟨t, rfl⟩ := r
    exact ⟨_, Reads.str x t⟩
  | .list ds, _, _, h, r => by
    cases h with
    | lst hs ha =>
      cases r
      obtain ⟨its, rv, ⟨o, n, ho, hc, _, hd⟩, _⟩ := I.list hs
      obtain ⟨as, hr⟩ := Dp.readsAll I ds _ its ha rv
      exact ⟨_, Reads.list ho hc hd hr⟩
  | .tuple ds, _, _, h, r => by
    cases h with
    | tup hs ha =>
      cases r
      obtain ⟨its, rv, ⟨o, ho, hc, n, hd⟩, _⟩ := I.tuple hs
      obtain ⟨as, hr⟩ := Dp.readsAll I ds _ its ha rv
      exact ⟨_, Reads.tuple ho hc hd hr⟩
  | .dict _, _, _, h, _ => by cases h
theorem Dp.readsAll (I : Inv X pins σ H s) : ∀ (ds : List PyData) (vs : List V) (us : List Value), DpAll X.K H vs ds → Vals vs us → ∃ as, ReadsAll s.heap us ds as
  | [], _, _, h, r => by
    cases h
    cases r
    exact ⟨_, ReadsAll.nil⟩
  | d :: ds, _, _, h, r => by
    cases h with
    | cons h1 h2 =>
      cases r with
      | cons r1 r2 =>
        obtain ⟨as, q1⟩ := Dp.reads I d _ _ h1 r1
        obtain ⟨bs, q2⟩ := Dp.readsAll I ds _ _ h2 r2
        exact ⟨_, ReadsAll.cons q1 q2⟩
end
end
section
variable {X : Cx}
def rEqD (K : PySem.W.Frag) : R2 := fun x y H Q => ∃ d e, Dp K H x d ∧ Dp K H y e ∧ SeqAt.shaped d = true ∧ SeqAt.shaped e = true ∧ Q (.bl (PyData.eqv d e)) H
def rNeD (K : PySem.W.Frag) : R2 := fun x y H Q => ∃ d e, Dp K H x d ∧ Dp K H y e ∧ SeqAt.shaped d = true ∧ SeqAt.shaped e = true ∧ Q (.bl (!PyData.eqv d e)) H
theorem op_eqD (hu : X.A.units + 64 < cLine) : OpR X (compareOp .Eq) (rEqD X.K) := by
  intro pins s σ H x y v u Q I rx ry h
  obtain ⟨d, e, hd, he, sd, se, q⟩ := h
  obtain ⟨as, r1⟩ := Dp.reads I d x v hd rx
  obtain ⟨bs, r2⟩ := Dp.reads I e y u he ry
  exact SeqAt.compareEq_shaped r1 r2 sd se hu ⟨.bl _, H, I, rfl, q⟩
theorem op_neD (hu : X.A.units + 64 < cLine) : OpR X (compareOp .NotEq) (rNeD X.K) := by
  intro pins s σ H x y v u Q I rx ry h
  obtain ⟨d, e, hd, he, sd, se, q⟩ := h
  obtain ⟨as, r1⟩ := Dp.reads I d x v hd rx
  obtain ⟨bs, r2⟩ := Dp.reads I e y u he ry
  exact SeqAt.compareNe_shaped r1 r2 sd se hu ⟨.bl _, H, I, rfl, q⟩
end
end L2

namespace L2
open PySem PySem.Spec PyProof.Rows

/-! ### the forms one uses -/
end L2

namespace L2
open PySem PySem.Spec PyProof.Rows

end L2

namespace L2
open PySem PySem.Spec PyProof.Rows

/-! ### lists of pairs as tables -/
section
variable {κ : Type} [DecidableEq κ]
def valV (kvs : List (κ × V)) (k : κ) : Option V := (kvs.find? fun kv => decide (kv.1 = k)).map (·.2)
/-- in its place, or at the end -/
def putK (kvs : List (κ × V)) (k : κ) (v : V) : List (κ × V) :=
  if (kvs.any fun kv => decide (kv.1 = k)) = true then kvs.map (fun kv => if kv.1 = k then (kv.1, v) else kv) else kvs ++ [(k, v)]
def dropK (kvs : List (κ × V)) (k : κ) : List (κ × V) := kvs.filter fun kv => decide (kv.1 ≠ k)

theorem valV_pos {p : κ × V} {r : List (κ × V)} {k : κ} (e : p.1 = k) : valV (p :: r) k = some p.2 := by simp [valV, List.find?_cons, e]
theorem valV_neg {p : κ × V} {r : List (κ × V)} {k : κ} (e : ¬ p.1 = k) : valV (p :: r) k = valV r k := by simp [valV, List.find?_cons, e]
theorem valV_any (k : κ) : ∀ kvs : List (κ × V), (kvs.any fun kv => decide (kv.1 = k)) = (valV kvs k).isSome
  | [] => rfl
  | p :: r => by
    rw [List.any_cons]
    by_cases e : p.1 = k
    · simp only [valV_pos e, decide_eq_true e, Bool.true_or, Option.isSome_some]
    · rw [valV_neg e, decide_eq_false e, Bool.false_or]; exact valV_any k r
theorem length_putK (kvs : List (κ × V)) (k : κ) (v : V) : (putK kvs k v).length ≤ kvs.length + 1 := by
  unfold putK
  split
  · rw [List.length_map]; omega
  · rw [List.length_append, List.length_cons, List.length_nil]; omega
theorem putK_new {kvs : List (κ × V)} {k : κ} (v : V) (h : valV kvs k = none) : putK kvs k v = kvs ++ [(k, v)] := by
  unfold putK
  rw [valV_any, h]
  exact if_neg (by decide)

theorem RelO.isSome_eq {o : Option V} {u : Option Value} (r : RelO o u) : o.isSome = u.isSome := by
  cases o with
  | none => cases u with
    | none => rfl
    | some _ => exact (show False from r).elim
  | some _ => cases u with
    | none => exact (show False from r).elim
    | some _ => rfl

/-- raw tables of the same keys -/
theorem KV.val {kvs : List (κ × V)} {vs : List (κ × Value)} (r : KV kvs vs) (k : κ) : RelO (valV kvs k) (valueAt vs k) := by
  unfold KV at r
  induction r with
  | nil => exact True.intro
  | @cons p q ps qs h t ih =>
    obtain ⟨h1, h2⟩ := h
    by_cases e : p.1 = k
    · have e' : q.1 = k := h1.symm.trans e
      have b : valueAt (q :: qs) k = some q.2 := by simp [valueAt, List.find?_cons, e']
      rw [valV_pos e, b]; exact h2
    · have e' : ¬ q.1 = k := fun z => e (h1.trans z)
      have b : valueAt (q :: qs) k = valueAt qs k := by simp [valueAt, List.find?_cons, e']
      rw [valV_neg e, b]; exact ih
theorem KV.any {kvs : List (κ × V)} {vs : List (κ × Value)} (r : KV kvs vs) (k : κ) : (kvs.any fun kv => decide (kv.1 = k)) = vs.any fun kv => decide (kv.1 = k) := by
  unfold KV at r
  induction r with
  | nil => rfl
  | cons h t ih => rw [List.any_cons, List.any_cons, ih, h.1]
theorem KV.repl {kvs : List (κ × V)} {vs : List (κ × Value)} (r : KV kvs vs) (k : κ) {y : V} {u : Value} (ry : RelV y u) :
    KV (kvs.map fun kv => if kv.1 = k then (kv.1, y) else kv) (vs.map fun kv => if kv.1 = k then (kv.1, u) else kv) := by
  unfold KV at r ⊢
  induction r with
  | nil => exact .nil
  | @cons p q ps qs h t ih =>
    rw [List.map_cons, List.map_cons]
    refine .cons ?_ ih
    obtain ⟨h1, h2⟩ := h
    by_cases e : p.1 = k
    · rw [if_pos e, if_pos (h1.symm.trans e)]; exact ⟨h1, ry⟩
    · rw [if_neg e, if_neg (fun z => e (h1.trans z))]; exact ⟨h1, h2⟩
theorem KV.put {kvs : List (κ × V)} {vs : List (κ × Value)} (r : KV kvs vs) (k : κ) {y : V} {u : Value} (ry : RelV y u) : KV (putK kvs k y) (stored vs k u) := by
  unfold putK stored
  rw [r.any k]
  by_cases e : (vs.any fun kv => decide (kv.1 = k)) = true
  · rw [if_pos e, if_pos e]; exact r.repl k ry
  · rw [if_neg e, if_neg e]; exact Paired.snoc r ⟨rfl, ry⟩
theorem KV.drop {kvs : List (κ × V)} {vs : List (κ × Value)} (r : KV kvs vs) (k : κ) : KV (dropK kvs k) (without vs k) := by
  unfold KV at r ⊢
  unfold dropK without
  induction r with
  | nil => exact .nil
  | @cons p q ps qs h t ih =>
    obtain ⟨h1, h2⟩ := h
    rw [List.filter_cons, List.filter_cons]
    by_cases e : p.1 = k
    · have a : ¬ decide (p.1 ≠ k) = true := by simp [e]
      have b : ¬ decide (q.1 ≠ k) = true := by simp [h1.symm.trans e]
      rw [if_neg a, if_neg b]; exact ih
    · have e' : ¬ q.1 = k := fun z => e (h1.trans z)
      have a : decide (p.1 ≠ k) = true := by simp [e]
      have b : decide (q.1 ≠ k) = true := by simp [e']
      rw [if_pos a, if_pos b]; exact .cons ⟨h1, h2⟩ ih
theorem KV.length {kvs : List (κ × V)} {vs : List (κ × Value)} (r : KV kvs vs) : kvs.length = vs.length := Paired.length r
theorem dropK_le (kvs : List (κ × V)) (k : κ) : (dropK kvs k).length ≤ kvs.length := List.length_filter_le _ _
end

/-! ### a tracked dict, its keys ints and texts or tuples of these -/
theorem kV_is {P : Program} {w : World} {k : Key} {u : Value} (r : RelV (kV k) u) : (mixKind P w).is k u = true := by
  cases k with
  | inl i => obtain ⟨t, e⟩ := (show ∃ t, u = Value.int i t from r); subst e; exact mixKind_int P w i t
  | inr x => obtain ⟨t, e⟩ := (show ∃ t, u = Value.str x t from r); subst e; exact mixKind_str P w x t
theorem items_are {P : Program} {w : World} : ∀ {ks : List Key} {us : List Value}, Vals (ks.map kV) us → ItemsAre (mixKind P w) ks us
  | [], _, r => by rw [List.map_nil] at r; cases r; exact .nil
  | k :: ks, _, r => by
    rw [List.map_cons] at r
    cases r with
    | cons h t => exact .cons (kV_is h) (items_are t)

/-- raw entries of a dict with tuple keys -/
abbrev KT (H : Hp) : List (List Key × V) → List (List Key × Addr × Value) → Prop := Paired fun p q => p.1 = q.1 ∧ H q.2.1 = some (.tup (p.1.map kV)) ∧ RelV p.2 q.2.2
theorem KT.val {H : Hp} {kvs : List (List Key × V)} {xs : List (List Key × Addr × Value)} (r : KT H kvs xs) (k : List Key) : RelO (valV kvs k) ((atKey xs k).map (·.2)) := by
  induction r with
  | nil => exact True.intro
  | @cons p q ps qs h t ih =>
    obtain ⟨h1, _, h2⟩ := h
    by_cases e : p.1 = k
    · have e' : q.1 = k := h1.symm.trans e
      have b : atKey (q :: qs) k = some q.2 := by simp [atKey, List.find?_cons, e']
      rw [valV_pos e, b]; exact h2
    · have e' : ¬ q.1 = k := fun z => e (h1.trans z)
      have b : atKey (q :: qs) k = atKey qs k := by simp [atKey, List.find?_cons, e']
      rw [valV_neg e, b]; exact ih
theorem KT.repl {H : Hp} {kvs : List (List Key × V)} {xs : List (List Key × Addr × Value)} (r : KT H kvs xs) (k : List Key) {y : V} {u : Value} (ry : RelV y u) :
    KT H (kvs.map fun kv => if kv.1 = k then (kv.1, y) else kv) (xs.map (putAt k u)) := by
  induction r with
  | nil => exact .nil
  | @cons p q ps qs h t ih =>
    rw [List.map_cons, List.map_cons]
    refine .cons ?_ ih
    obtain ⟨h1, h2, h3⟩ := h
    unfold putAt
    by_cases e : p.1 = k
    · rw [if_pos e, if_pos (h1.symm.trans e)]; exact ⟨h1, h2, ry⟩
    · rw [if_neg e, if_neg (fun z => e (h1.trans z))]; exact ⟨h1, h2, h3⟩
theorem KT.put {H : Hp} {kvs : List (List Key × V)} {xs : List (List Key × Addr × Value)} (r : KT H kvs xs) (k : List Key) {b : Addr} {y : V} {u : Value} (hb : H b = some (.tup (k.map kV))) (ry : RelV y u) :
    KT H (putK kvs k y) (storedH xs k b u) := by
  have e : (kvs.any fun kv => decide (kv.1 = k)) = (atKey xs k).isSome := by
    rw [valV_any, (r.val k).isSome_eq, Option.isSome_map]
  unfold putK storedH
  rw [e]
  by_cases q : (atKey xs k).isSome = true
  · rw [if_pos q, if_pos q]; exact r.repl k ry
  · rw [if_neg q, if_neg q]; exact Paired.snoc r ⟨rfl, hb, ry⟩
theorem KT.keeps {H H' : Hp} {kvs : List (List Key × V)} {xs : List (List Key × Addr × Value)} (r : KT H kvs xs) (ht : ∀ b ys, H b = some (.tup ys) → H' b = some (.tup ys)) : KT H' kvs xs :=
  Paired.mapP r fun _ _ z => ⟨z.1, ht _ _ z.2.1, z.2.2⟩

section
variable {P : Program} {w : World} {H : Hp} {h : Heap} {a : Addr}
theorem rd_of {u : HO} (ok : HOk P w H h) (e : Rd H a u) : ObjOk P w H h a u := e.ok ok
theorem dk_rd {kvs : List (Key × V)} (ok : HOk P w H h) (e : Rd H a (.dK kvs)) : kvs.length ≤ sizeLine ∧ (a == sysModules) = false ∧ ∃ vs, KV kvs vs ∧ h.DictOf (mixKind P w) a vs :=
  show ObjOk P w H h a (.dK kvs) from rd_of ok e
theorem dk_of {kvs : List (Key × V)} (ok : HOk P w H h) (e : H a = some (.dK kvs)) : kvs.length ≤ sizeLine ∧ (a == sysModules) = false ∧ ∃ vs, KV kvs vs ∧ h.DictOf (mixKind P w) a vs := dk_rd ok (.inl e)
/-- a tracked tuple of ints and texts is a key -/
theorem key_of {ks : List Key} (ok : HOk P w H h) (e : H a = some (.tup (ks.map kV))) : (tupleKind (mixKind P w)).is h ks a := by
  obtain ⟨_, its, r, o, h1, h2, n, h3⟩ := (show ObjOk P w H h a (.tup (ks.map kV)) from ok a _ e)
  exact ⟨o, its.toArray, n, h1, h2, h3, by simpa using items_are r⟩
theorem dt_rd {kvs : List (List Key × V)} (ok : HOk P w H h) (e : Rd H a (.dT kvs)) : kvs.length ≤ sizeLine ∧ (a == sysModules) = false ∧
    ∃ xs, KT H kvs xs ∧ h.DictOfH (tupleKind (mixKind P w)) a xs := by
  obtain ⟨z, y, xs, r, o, es, ep, h1, h2, h3, h4, h5⟩ := (show ObjOk P w H h a (.dT kvs) from rd_of ok e)
  refine ⟨z, y, xs, r, o, es, ep, h1, h2, h3, h4, fun x hx => ?_, h5⟩
  have all : ∀ {l : List (List Key × V)} {m : List (List Key × Addr × Value)}, KT H l m → ∀ x ∈ m, (tupleKind (mixKind P w)).is h x.1 x.2.1 := by
    intro l m q
    induction q with
    | nil => intro x hx; exact nomatch hx
    | @cons p q ps qs hq t ih =>
      intro x hx
      rcases List.mem_cons.mp hx with e | hx
      · subst e
        exact key_of ok (by rw [← hq.1]; exact hq.2.1)
      · exact ih x hx
  exact all r x hx
theorem dt_of {kvs : List (List Key × V)} (ok : HOk P w H h) (e : H a = some (.dT kvs)) : kvs.length ≤ sizeLine ∧ (a == sysModules) = false ∧
    ∃ xs, KT H kvs xs ∧ h.DictOfH (tupleKind (mixKind P w)) a xs := dt_rd ok (.inl e)
end

/-- what the dict at a holds at the key y -/
def DGet (H : Hp) (a : Addr) (y : V) (r : Option V) : Prop :=
  (∃ kvs k, Rd H a (.dK kvs) ∧ y = kV k ∧ r = valV kvs k) ∨ ∃ kvs k b, Rd H a (.dT kvs) ∧ y = .ref b ∧ H b = some (.tup (k.map kV)) ∧ r = valV kvs k
/-- the heap behind a[y] = v -/
def DPut (H : Hp) (a : Addr) (y v : V) (H' : Hp) : Prop :=
  (∃ kvs k, H a = some (.dK kvs) ∧ y = kV k ∧ kvs.length < sizeLine ∧ H' = upd H a (.dK (putK kvs k v))) ∨
  ∃ kvs k b, H a = some (.dT kvs) ∧ y = .ref b ∧ H b = some (.tup (k.map kV)) ∧ kvs.length < sizeLine ∧ H' = upd H a (.dT (putK kvs k v))
theorem DGet.k {H : Hp} {a : Addr} {kvs : List (Key × V)} {k : Key} (e : H a = some (.dK kvs)) : DGet H a (kV k) (valV kvs k) := .inl ⟨kvs, k, .inl e, rfl, rfl⟩
theorem DPut.k {H : Hp} {a : Addr} {kvs : List (Key × V)} {k : Key} {v : V} (e : H a = some (.dK kvs)) (hl : kvs.length < sizeLine) : DPut H a (kV k) v (upd H a (.dK (putK kvs k v))) := .inl ⟨kvs, k, e, rfl, hl, rfl⟩

section
variable {X : Cx} {pins : List (Addr × Obj)} {σ : St} {H : Hp} {s : Shared} {a : Addr} {y v : V} {u r : Value} {o : Option V} {A : Around} {E : Value → Shared → Prop}

theorem Inv.big (I : Inv X pins σ H s) : sysModules < s.heap.objs.size := by
  have h : mainGlobals < s.heap.objs.size := (I.mod.glob.keeps I.bk).lt
  exact Nat.lt_trans (by decide) h

/-- d[y], there -/
theorem d_getItem {Q : Value → Shared → Prop} (hu : A.units + 1 < cLine) (I : Inv X pins σ H s) (g : DGet H a y (some v)) (ry : RelV y u) (h : ∀ w' s', Inv X pins σ H s' → RelV v w' → Q w' s') :
    wpAny (model X.prog X.w) A (getItem (.ref a) u) Q E s := by
  rcases g with ⟨kvs, k, e, ey, l⟩ | ⟨kvs, k, b, e, ey, eb, l⟩
  · subst ey
    obtain ⟨z, hd, vs, rel, dd⟩ := dk_rd I.hok e
    obtain ⟨w', hw, rw'⟩ := RelO.some_of (v := v) (o := valueAt vs k) (by rw [l]; exact rel.val k)
    exact wpAny_getItem_of (kV_is ry) dd.mapOf hw (h w' _ (I.tok _) rw')
  · subst ey
    cases (show u = Value.ref b from ry)
    obtain ⟨z, hd, xs, rel, dd⟩ := dt_rd I.hok e
    obtain ⟨w', hw, rw'⟩ := RelO.some_of (v := v) (o := (atKey xs k).map (·.2)) (by rw [l]; exact rel.val k)
    obtain ⟨p, hp, hp2⟩ := Option.map_eq_some_iff.mp hw
    refine wpAny_getItem_heap (tupleKind_room_in1 hu) (key_of I.hok eb) dd hp ?_
    rw [hp2]
    exact h w' _ (I.tok _) rw'
/-- y in d -/
theorem d_in {Q : Value → Shared → Prop} (hu : A.units + 1 < cLine) (I : Inv X pins σ H s) (g : DGet H a y o) (ry : RelV y u) (h : ∀ s', Inv X pins σ H s' → Q (.bool o.isSome) s') :
    wpAny (model X.prog X.w) A (compareOp .In u (.ref a)) Q E s := by
  rcases g with ⟨kvs, k, e, ey, l⟩ | ⟨kvs, k, b, e, ey, eb, l⟩
  · subst ey
    obtain ⟨z, hd, vs, rel, dd⟩ := dk_rd I.hok e
    refine wpAny_in_of (kV_is ry) hd dd.mapOf ?_
    rw [← (rel.val k).isSome_eq, ← l]
    exact h _ (I.tok _)
  · subst ey
    cases (show u = Value.ref b from ry)
    obtain ⟨z, hd, xs, rel, dd⟩ := dt_rd I.hok e
    refine wpAny_in_heap (tupleKind_room_in1 hu) (key_of I.hok eb) hd dd ?_
    have q := (rel.val k).isSome_eq
    rw [Option.isSome_map] at q
    rw [← q, ← l]
    exact h _ (I.tok _)
/-- a dict's object is replaced -/
theorem d_write {h' : Heap} {t' : Nat} {ob : HO} (I : Inv X pins σ H s) (mu : Mut (H a)) (hs : Heap.SameBut a s.heap h') (he : ∃ q, h'.get? a = some q) (new : ObjOk X.prog X.w (upd H a ob) h' a ob) :
    Inv X pins σ (upd H a ob) { s with heap := h', toks := t' } :=
  I.write (x := a) (e := a) mu (.inl rfl) (fun b q hb z => (hs.2 b hb).trans z) he new
theorem dk_new {P : Program} {w : World} {H' : Hp} {h' : Heap} {kvs : List (Key × V)} {vs : List (Key × Value)} (z : kvs.length ≤ sizeLine) (hd : (a == sysModules) = false) (rel : KV kvs vs) (dd : h'.DictOf (mixKind P w) a vs) :
    ObjOk P w H' h' a (.dK kvs) := ⟨z, hd, vs, rel, dd⟩
/-- d[y] = v -/
theorem d_setItem {H' : Hp} {Q : Unit → Shared → Prop} (hu : A.units + 1 < cLine) (I : Inv X pins σ H s) (g : DPut H a y v H') (ry : RelV y u) (rv : RelV v r) (h : ∀ s', Inv X pins σ H' s' → Q () s') :
    wpAny (model X.prog X.w) A (setItem (.ref a) u r) Q E s := by
  rcases g with ⟨kvs, k, e, ey, l, eH⟩ | ⟨kvs, k, b, e, ey, eb, l, eH⟩
  · subst ey eH
    obtain ⟨z, hd, vs, rel, dd⟩ := dk_of I.hok e
    have hz : vs.length ≤ sizeLine := by rw [← rel.length]; exact z
    have hl : (putK kvs k v).length ≤ sizeLine := by have := length_putK kvs k v; omega
    refine wpAny_setItem_pairs (hsz := hz) (kV_is ry) dd fun h' dd' hs => h _ ?_
    have he : ∃ q, h'.get? a = some q := let ⟨q, _, _, hq, _⟩ := dd'; ⟨q, hq⟩
    exact d_write I (by rw [e]; exact True.intro) hs he (dk_new hl hd (rel.put k rv) dd')
  · subst ey eH
    cases (show u = Value.ref b from ry)
    obtain ⟨z, hd, xs, rel, dd⟩ := dt_of I.hok e
    have hz : xs.length ≤ sizeLine := by rw [← Paired.length rel]; exact z
    have hl : (putK kvs k v).length ≤ sizeLine := by have := length_putK kvs k v; omega
    refine wpAny_setItem_heap (hsz := hz) (tupleKind_room_in1 hu) (key_of I.hok eb) dd fun h' dd' hs => h _ ?_
    obtain ⟨q, es, ep, hq, h2, h3, h4, _, h5⟩ := dd'
    refine d_write I (by rw [e]; exact True.intro) hs ⟨q, hq⟩ ⟨hl, hd, _, (rel.put k eb rv).keeps fun c ys ec => ?_, q, es, ep, hq, h2, h3, h4, h5⟩
    rw [upd_ne (ne_of ec e (fun z => nomatch z))]
    exact ec
end

section
variable {X : Cx} {pins : List (Addr × Obj)} {σ : St} {H : Hp} {s : Shared} {a : Addr} {kvs : List (Key × V)} {k : Key} {u : Value} {A : Around} {E : Value → Shared → Prop}
/-- del d[k] -/
theorem d_delItem {Q : Unit → Shared → Prop} (I : Inv X pins σ H s) (e : H a = some (.dK kvs)) (ry : RelV (kV k) u) (l : (valV kvs k).isSome = true) (h : ∀ s', Inv X pins σ (upd H a (.dK (dropK kvs k))) s' → Q () s') :
    wpAny (model X.prog X.w) A (delItem (.ref a) u) Q E s := by
  obtain ⟨z, hd, vs, rel, dd⟩ := dk_of I.hok e
  refine wpAny_delItem_slot dd.typeIs (by decide) PySem.F.slot_dict_delitem
    (call_meetsIn PySem.F.slot_dict_delitem dd.typeIs PySem.F.entry_dict_delitem (PySem.F.args_dict_delitem_2 _ _) (meets_dict_delitem_pairs (mixKind X.prog X.w) a (kV_is ry)) ⟨vs, dd, by rw [← rel.length]; exact z, by rw [← (rel.val k).isSome_eq]; exact l, fun h' dd' hs => h _ ?_⟩)
  have he : ∃ q, h'.get? a = some q := let ⟨q, _, _, hq, _⟩ := dd'; ⟨q, hq⟩
  exact d_write I (by rw [e]; exact True.intro) hs he (dk_new (Nat.le_trans (dropK_le kvs k) z) hd (rel.drop k) dd')
/-- d.pop(k[, x]), there -/
theorem d_pop {v : V} {more : List Value} {Q : Value → Shared → Prop} (I : Inv X pins σ H s) (e : H a = some (.dK kvs)) (ry : RelV (kV k) u) (l : valV kvs k = some v) (hm : more = [] ∨ ∃ x, more = [x])
    (h : ∀ w' s', Inv X pins σ (upd H a (.dK (dropK kvs k))) s' → RelV v w' → Q w' s') : wpAny (model X.prog X.w) A (call (.builtin "dict.pop") (.ref a :: u :: more)) Q E s := by
  obtain ⟨z, hd, vs, rel, dd⟩ := dk_of I.hok e
  obtain ⟨w', hw, rw'⟩ := RelO.some_of (v := v) (o := valueAt vs k) (by rw [← l]; exact rel.val k)
  have hp : (keyPart u).isSome = true := by
    cases k with
    | inl i => obtain ⟨t, q⟩ := (show ∃ t, u = Value.int i t from ry); subst q; rfl
    | inr x => obtain ⟨t, q⟩ := (show ∃ t, u = Value.str x t from ry); subst q; rfl
  have ha : argsOk "dict.pop" ⟨.ref a :: u :: more, []⟩ := by
    rcases hm with q | ⟨x, q⟩
    · subst q; exact PySem.F.args_dict_pop_2 _ _
    · subst q; exact PySem.F.args_dict_pop_3 _ _ _
  refine call_meetsIn PySem.F.slot_dict_pop dd.typeIs PySem.F.entry_dict_pop ha (meets_dict_pop_there (mixKind X.prog X.w) a (kV_is ry) more hm hp)
    ⟨vs, w', dd, by rw [← rel.length]; exact z, hw, fun h' dd' hs => h w' _ ?_ rw'⟩
  have he : ∃ q, h'.get? a = some q := let ⟨q, _, _, hq, _⟩ := dd'; ⟨q, hq⟩
  exact d_write I (by rw [e]; exact True.intro) hs he (dk_new (Nat.le_trans (dropK_le kvs k) z) hd (rel.drop k) dd')
/-- len(d) -/
theorem d_len {Q : Value → Shared → Prop} (I : Inv X pins σ H s) (e : Rd H a (.dK kvs)) (h : ∀ t s', Inv X pins σ H s' → Q (.int kvs.length t) s') : wpAny (model X.prog X.w) A (call (.builtin "len") [.ref a]) Q E s := by
  obtain ⟨z, hd, vs, rel, dd⟩ := dk_rd I.hok e
  refine call_len_dict hd dd (by rw [← rel.length]; rw [sizeLine_eq] at z; omega) ?_
  rw [← rel.length]
  exact h _ _ (I.tok _)
end

/-! ### readings and rules -/
/-- the element of a subscription, not a slice -/
def NoSl (i : Expr) : Prop := ∀ ov iv, subscripted i false ov iv = operate [ov, iv] (getItem ov iv)
theorem subD_of {prog : Program} {w : World} {A : Around} {E : Value → Shared → Prop} {s : Shared} {env : Env} {value slice : Expr} {pos : Pos} {T id : String} {Q : Value → Shared → Prop}
    (hl : typeLookup (.type T) "__getitem__" = pure (some (.builtin id))) (hs : NoSl slice)
    (h : wpAny (model prog w) A (eval value env) (fun o s₁ => wpAny (model prog w) A (eval slice env) (fun i s₂ => s₂.TypeIs o T ∧ wpAny (model prog w) A (getItem o i) Q E s₂) E s₁) E s) :
    wpAny (model prog w) A (eval (.Subscript value slice pos) env) Q E s := by
  refine Subscript_ (wpAny_mono h (fun o s₁ h₁ => wpAny_mono h₁ (fun i s₂ h₂ => ?_) fun _ _ x => x) fun _ _ x => x)
  obtain ⟨hT, h₂⟩ := h₂
  unfold subscriptTail
  refine wpAny_bind ?_
  rw [getitemInPython_of_ne hT.not_modules]
  refine wpAny_bind (wpAny_specialOf hT hl ?_)
  have fin : wpAny (model prog w) A (subscripted slice false o i) (fun r s₃ => wpAny (model prog w) A (letTemporaryGo value o r >>= fun _ => pure r) Q E s₃) E s₂ := by
    rw [hs o i]
    exact wpAny_operating (wpAny_mono h₂ (fun r s₃ h₃ => wpAny_bind (wpAny_letTemporaryGo (wpAny_pure h₃))) fun _ _ x => x)
  first
    | exact wpAny_pure (wpAny_bind fin)
    | exact wpAny_bind (wpAny_pure (wpAny_bind fin))
    | exact wpAny_bind fin

theorem dict_typeIs {X : Cx} {pins : List (Addr × Obj)} {σ : St} {H : Hp} {s : Shared} {a : Addr} {y : V} {o : Option V} (I : Inv X pins σ H s) (g : DGet H a y o) : s.TypeIs (.ref a) "dict" := by
  rcases g with ⟨kvs, k, e, _, _⟩ | ⟨kvs, k, b, e, _, _, _⟩
  · obtain ⟨_, _, vs, _, dd⟩ := dk_rd I.hok e
    exact dd.typeIs
  · obtain ⟨_, _, xs, _, dd⟩ := dt_rd I.hok e
    exact dd.typeIs

/-- d[y] -/
def tDGet (td ty : TE) : TE := fun σ H Q => td σ H fun x H1 => ty σ H1 fun y H2 => ∃ a v, x = .ref a ∧ DGet H2 a y (some v) ∧ Q v H2
/-- y in d, y not in d -/
def tDIn (ty td : TE) : TE := fun σ H Q => ty σ H fun y H1 => td σ H1 fun x H2 => ∃ a o, x = .ref a ∧ DGet H2 a y o ∧ Q (.bl o.isSome) H2
/-- d[y] = v -/
def sDPut (td ty tv : TE) : TS := fun D σ H => tv σ H fun v H1 => td σ H1 fun x H2 => ty σ H2 fun y H3 => ∃ a H4, x = .ref a ∧ DPut H3 a y v H4 ∧ D.nx σ H4

section
variable {X : Cx} {o i e value : Expr} {pos pos' tpos : Pos} {td ty tv : TE}
theorem pe_dget (hu : X.A.units + 1 < cLine) (ho : PE X o td) (hi : PE X i ty) (hs : NoSl i) : PE X (.Subscript o i pos) (tDGet td ty) := by
  intro pins s σ H Q I h
  refine subD_of PySem.F.slot_dict_getitem.lookup hs (thn (ho pins s σ H _ I h) fun u s1 ⟨x, H1, I1, rx, q1⟩ => thn (hi pins s1 σ H1 _ I1 q1) fun iv s2 ⟨y, H2, I2, ry, a, v, ex, g, q2⟩ => ?_)
  subst ex
  obtain rfl : u = Value.ref a := rx
  exact ⟨dict_typeIs I2 g, d_getItem hu I2 g ry fun w' s3 I3 rw' => ⟨v, H2, I3, rw', q2⟩⟩
theorem pc_din (hu : X.A.units + 1 < cLine) (hi : PE X i ty) (ho : PE X o td) : PC X .In i o (tDIn ty td) := by
  intro pins s σ H Q I h
  refine thn (hi pins s σ H _ I h) fun iv s1 ⟨y, H1, I1, ry, q1⟩ => thn (ho pins s1 σ H1 _ I1 q1) fun u s2 ⟨x, H2, I2, rx, a, ov, ex, g, q2⟩ => ?_
  subst ex
  obtain rfl : u = Value.ref a := rx
  exact d_in hu I2 g ry fun s3 I3 => ⟨.bl ov.isSome, H2, I3, rfl, q2⟩
theorem ps_dput (hu : X.A.units + 1 < cLine) (ho : PE X o td) (hi : PE X i ty) (hv : PE X value tv) (hs : swapsWith value (some (.Subscript o i pos')) pos.line X.env = pure false) :
    PS X (.Assign [.Subscript o i pos'] value pos) (sDPut td ty tv) := by
  intro pins s σ H D I h
  refine wpAny_Assign_Subscript (thn (hv pins s σ H _ I h) fun r s1 ⟨v, H1, I1, rv, q1⟩ => thn (ho pins s1 σ H1 _ I1 q1) fun u s2 ⟨x, H2, I2, rx, q2⟩ => thn (hi pins s2 σ H2 _ I2 q2) fun iv s3 ⟨y, H3, I3, ry, a, H4, ex, g, q3⟩ => ?_) hs
  subst ex
  obtain rfl : u = Value.ref a := rx
  exact d_setItem hu I3 g ry rv fun s4 I4 => ⟨σ, H4, I4, q3⟩
end

/-! ### displays -/
theorem dk_empty {P : Program} {w : World} {H : Hp} (h : Heap) (hb : sysModules < h.objs.size) : ObjOk P w H (h.push { cls := .type "dict", data := .dict #[] }) h.objs.size (.dK []) :=
  ⟨Nat.zero_le _, beq_eq_false_iff_ne.mpr (Ne.symm (Nat.ne_of_lt hb)), [], .nil, Heap.DictOf.new h⟩
/-- {}, to be a dict of the kind that is wanted -/
def tDNewK : TE := fun _ H Q => ∀ p, H p = none → Q (.ref p) (upd H p (.dK []))
section
variable {X : Cx} {pos : Pos}
theorem pe_dnewK : PE X (.Dict [] [] pos) tDNewK := fun pins s σ H Q I h =>
  wpAny_Dict_empty ⟨.ref s.heap.objs.size, _, I.laid (a := s.heap.objs.size) (o := .dK []) (t' := s.toks) (fun _ _ q => Heap.get?_push_of_some _ q) (Nat.le_refl _) (dk_empty s.heap I.big), rfl, h _ (I.hok.fresh (Nat.le_refl _))⟩
end

/-! ### methods -/
/-- a method call o.m(e) of a built-in, with one argument: what must be seen of the text -/
structure M1 (X : Cx) (o : Expr) (m : Str) (apos : Pos) (e : Expr) (cpos : Pos) : Prop where
  base : attributeBase o m X.env (eval o X.env) = eval o X.env
  few : ((backTo cpos (starEach [e] X.env)).all (fun x => !x.1) && (backToKw cpos (keywordEach [] X.env)).all (fun x => x.1.isSome)
    && decide (([e] : List Expr).length + ([] : List Keyword).length + (if ([] : List Keyword).isEmpty then 0 else 1) < 30)) = true
  line : (apos.endLine == cpos.line) = true
  trees : backTo cpos (starEach [e] X.env) = [(false, eval e X.env)]

/-- a is a dict, whatever its keys -/
def IsD (H : Hp) (a : Addr) : Prop := (∃ kvs, Rd H a (.dK kvs)) ∨ ∃ kvs, Rd H a (.dT kvs)
theorem isD_at {X : Cx} {pins : List (Addr × Obj)} {σ : St} {H : Hp} {s : Shared} {a : Addr} (I : Inv X pins σ H s) (d : IsD H a) :
    s.TypeIs (.ref a) "dict" ∧ (∀ b, Value.ref a = .ref b → ∃ ob, s.heap.get? b = some ob ∧ ob.dict = none) ∧ (a == sysModules) = false := by
  rcases d with ⟨kvs, e⟩ | ⟨kvs, e⟩
  · obtain ⟨_, hd, vs, _, dd⟩ := dk_rd I.hok e
    refine ⟨dd.typeIs, fun b q => ?_, hd⟩
    cases q
    obtain ⟨ob, _, _, h1, h2, _⟩ := dd
    exact ⟨ob, h1, h2.2.1⟩
  · obtain ⟨_, hd, xs, _, dd⟩ := dt_rd I.hok e
    refine ⟨dd.typeIs, fun b q => ?_, hd⟩
    cases q
    obtain ⟨ob, _, _, h1, h2, _⟩ := dd
    exact ⟨ob, h1, h2.2.1⟩

/-- d.pop(k): there; d.pop(k, x): there or not -/
def tDPop1 (td ty : TE) : TE := fun σ H Q => td σ H fun x H1 => ∃ a, x = .ref a ∧ IsD H1 a ∧ ty σ H1 fun y H2 => ∃ kvs k v, H2 a = some (.dK kvs) ∧ y = kV k ∧ valV kvs k = some v ∧ Q v (upd H2 a (.dK (dropK kvs k)))
section
variable {X : Cx} {o e f : Expr} {apos cpos : Pos} {td ty tx : TE}
theorem pe_dpop1 (ho : PE X o td) (he : PE X e ty) (m : M1 X o "pop" apos e cpos) : PE X (.Call (.Attribute o "pop" apos) [e] [] cpos) (tDPop1 td ty) := by
  intro pins s σ H Q I h
  refine wpAny_Call_method m.base m.few m.line PySem.F.plainAttrs_dict PySem.F.slot_dict_pop PySem.F.type_dict_pop (thn (ho pins s σ H _ I h) fun u s1 ⟨x, H1, I1, rx, a, ex, d, q1⟩ => ?_)
  subst ex
  obtain rfl : u = Value.ref a := rx
  obtain ⟨t1, t2, _⟩ := isD_at I1 d
  refine ⟨t1, t2, ?_⟩
  rw [m.trees]
  refine Calls.callWith_builtin rfl (Calls.evalArgs_plain (Calls.spliced_cons (thn (he pins s1 σ H1 _ I1 q1) fun iv s2 ⟨y, H2, I2, ry, kvs, k, v, ea, ey, l, q2⟩ => Calls.spliced_nil ?_)))
  subst ey
  exact d_pop I2 ea ry l (.inl rfl) fun w' s3 I3 rw' => ⟨v, _, I3, rw', q2⟩
end

/-! ### dict(d): a copy -/

end L2

namespace L2
open PySem PySem.Spec PyProof.Rows

end L2

namespace L2
open PySem PySem.Spec PyProof.Rows

section
variable {X : Cx} {pins : List (Addr × Obj)} {σ : St} {H : Hp} {s : Shared} {h' : Heap}
/-- .. and one new object is laid -/
theorem Inv.turnedNew {t' : Nat} {ch : List Addr} {T : Addr} {ob : HO} (I : Inv X pins σ H s) (k : ∀ b o, b ∉ ch → s.heap.get? b = some o → h'.get? b = some o) (hf : ∀ b ∈ ch, FpOk X pins H b) (hT : s.heap.objs.size ≤ T)
    (new : ObjOk X.prog X.w (upd H T ob) h' T ob) : Inv X pins σ (upd H T ob) { s with heap := h', toks := t' } := by
  have hn : H T = none := I.hok.fresh hT
  have nit : ∀ b u, H b = some u → b ∉ ch := fun b u e z => by
    have q := (hf b z).1
    rw [q] at e; cases e
  refine I.step (g' := s.gens) (d' := s.drawn) (ch := ch) (fun b hb => ⟨(hf b hb).2.2.2.1, (hf b hb).2.1, (hf b hb).2.2.2.2.1, (hf b hb).2.2.2.2.2⟩) (fun b o _ _ hc e _ => k b o hc e) (fun b o _ _ hc e _ => ⟨o.slots, k b o hc e⟩)
    (fun b o _ e n => ?_) (fun b o hc e => ⟨o, k b o hc e⟩) (fun b xs e => ?_) (fun b o u e => ?_) (fun b ps e => ⟨#[], ?_⟩) (fun m hm => ?_) (fun b u e => ?_) I.bare
  · rw [upd_ne (Nat.ne_of_lt (Nat.lt_of_lt_of_le (Heap.lt_size e) hT))]; exact n
  · rw [upd_ne (ne_of_none e hn)]; exact e
  · rw [upd_ne (ne_of_none e hn)]; exact e
  · rw [upd_ne (ne_of_none e hn), e]; simp
  · obtain ⟨o, es, ep, ho, r⟩ := hm
    exact ⟨o, es, ep, k _ o (fun z => (hf _ z).2.1 rfl) ho, r⟩
  · by_cases hb : b = T
    · subst hb
      rw [upd_same] at e
      cases e
      exact new
    · rw [upd_ne hb] at e
      refine (I.hok b u e).stay (fun c v hc q => k c v ?_ q) (fun c q => by rw [upd_ne (ne_of_none q hn)]; exact q) fun c xs q => by rw [upd_ne (ne_of_none q hn)]; exact q
      rcases hc with z | z
      · rw [z]; exact nit b u e
      · exact nit c _ z

/-! ### locking a thing while a statement runs -/
theorem Inv.lock {d : Addr} {u : HO} (I : Inv X pins σ H s) (h : H d = some u) (mu : Mut (some u)) : ∃ od, Inv X pins σ (upd H d (.frz od u)) s := by
  have x := I.hok d u h
  have ex : ∃ od, s.heap.get? d = some od := by
    cases u with
    | lst xs => obtain ⟨_, _, _, _, e⟩ := x; exact ⟨_, e⟩
    | dK kvs => obtain ⟨_, _, _, _, o, _, _, e, _⟩ := x; exact ⟨o, e⟩
    | dT kvs => obtain ⟨_, _, _, _, o, _, _, e, _⟩ := x; exact ⟨o, e⟩
    | set S n => obtain ⟨o, _, _, _, e, _⟩ := x; exact ⟨o, e⟩
    | ins C dx fs => obtain ⟨_, _, _, e, _⟩ := x; exact ⟨_, e⟩
    | ext φ => obtain ⟨_, ⟨_, e⟩, _⟩ := x; exact ⟨_, e⟩
    | _ => exact False.elim mu
  obtain ⟨od, e⟩ := ex
  have new : ObjOk X.prog X.w (upd H d (.frz od u)) s.heap d (.frz od u) := by
    refine ⟨e, x.stay (fun b v _ q => q) (fun b q => ?_) fun b xs q => ?_⟩
    · rw [upd_ne (fun z => by rw [z, h] at q; cases q; exact mu)]; exact q
    · rw [upd_ne (fun z => by rw [z, h] at q; cases q; exact mu)]; exact q
  exact ⟨od, I.write (x := d) (e := d) (t' := s.toks) (h' := s.heap) (by rw [h]; exact mu) (.inl rfl) (fun b v _ q => q) ⟨od, e⟩ new⟩
theorem Inv.nofrz {d : Addr} {u : HO} (I : Inv X pins σ H s) (h : H d = some u) (mu : Mut (some u)) : ∀ o' u', X.H_0 d ≠ some (.frz o' u') := fun o' u' e => by
  have q := I.base.frzs d o' u' e
  rw [h] at q
  cases q
  exact mu
theorem Inv.unlock {d : Addr} {od : Obj} {u : HO} (I : Inv X pins σ H s) (h : H d = some (.frz od u)) (hn : ∀ o' u', X.H_0 d ≠ some (.frz o' u')) : Inv X pins σ (upd H d u) s := by
  have neH : ∀ b o, H b = some o → (∀ o' u', o ≠ .frz o' u') → b ≠ d := fun b o e hne z => by
    rw [z, h] at e
    cases e
    exact hne _ _ rfl
  have neN : ∀ b, H b = none → b ≠ d := fun b e z => by rw [z, h] at e; cases e
  refine ⟨I.ok, I.os, I.bare, ⟨I.base.keep, I.base.slot, fun b o e n hx => ?_, I.base.there, fun b xs e => ?_, fun b o x e => ?_, fun b ps e => ?_⟩, I.loc, I.cell, ?_, fun x c e => ?_, fun p hp => ?_, fun b o e => ?_, I.len⟩
  · rw [upd_ne (neN b (I.base.free b o e n hx))]; exact I.base.free b o e n hx
  · have q := I.base.tups b xs e
    rw [upd_ne (neH b _ q (fun _ _ z => nomatch z))]; exact q
  · have q := I.base.frzs b o x e
    rw [upd_ne (fun z => by rw [z] at e; exact hn _ _ e)]; exact q
  · obtain ⟨m, q⟩ := I.base.tbls b ps e
    exact ⟨m, by rw [upd_ne (neH b _ q (fun _ _ z => nomatch z))]; exact q⟩
  · rw [upd_ne (neN _ I.free)]; exact I.free
  · rw [upd_ne (neN c (I.freeC x c e))]; exact I.freeC x c e
  · obtain ⟨e, n, r⟩ := I.pin p hp
    exact ⟨e, by rw [upd_ne (neN _ n)]; exact n, r⟩
  · by_cases hb : b = d
    · rw [hb, upd_same] at e
      cases e
      rw [hb]
      obtain ⟨_, x⟩ := I.hok d _ h
      exact x.stay (fun c v _ q => q) (fun c q => by rw [upd_ne (neH c _ q (fun _ _ z => nomatch z))]; exact q) fun c xs q => by rw [upd_ne (neH c _ q (fun _ _ z => nomatch z))]; exact q
    · rw [upd_ne hb] at e
      exact (I.hok b o e).stay (fun c v _ q => q) (fun c q => by rw [upd_ne (neH c _ q (fun _ _ z => nomatch z))]; exact q) fun c xs q => by rw [upd_ne (neH c _ q (fun _ _ z => nomatch z))]; exact q
end
/-- the statement runs while the thing at d is locked (read, not written); d and what stands there are the reading's choice -/
def tLock (t : TS) : TS := fun D σ H => ∃ d u, H d = some u ∧ Mut (some u) ∧ ∀ od, t ⟨fun σ' H' => H' d = some (.frz od u) ∧ D.nx σ' (upd H' d u), fun v H' => H' d = some (.frz od u) ∧ D.rt v (upd H' d u), fun σ' H' => H' d = some (.frz od u) ∧ D.bk σ' (upd H' d u), fun σ' H' => H' d = some (.frz od u) ∧ D.ct σ' (upd H' d u)⟩ σ (upd H d (.frz od u))
section
variable {X : Cx}
theorem ps_lock {st : Stmt} {t : TS} (h : PS X st t) : PS X st (tLock t) := by
  intro pins s σ H D I hw
  obtain ⟨d, u, hd, mu, hw⟩ := hw
  obtain ⟨od, I1⟩ := I.lock hd mu
  refine thn (h pins s σ _ _ I1 (hw od)) fun f s1 q => ?_
  cases f with
  | next => obtain ⟨σ', H', I2, e, q⟩ := q; exact ⟨σ', _, I2.unlock e (I.nofrz hd mu), q⟩
  | brk => obtain ⟨σ', H', I2, e, q⟩ := q; exact ⟨σ', _, I2.unlock e (I.nofrz hd mu), q⟩
  | cont => obtain ⟨σ', H', I2, e, q⟩ := q; exact ⟨σ', _, I2.unlock e (I.nofrz hd mu), q⟩
  | ret v => obtain ⟨x, σ', H', I2, r, e, q⟩ := q; exact ⟨x, σ', _, I2.unlock e (I.nofrz hd mu), r, q⟩

/-! ### one iterator just laid -/
theorem pi_one {tg : Expr} {pins : List (Addr × Obj)} {σ : St} {H : Hp} {s : Shared} {R : It → Hp → Prop} {J : It} {tn : Nat → Heap → Prop} {tk : Nat} (I : Inv X pins σ H s) (o : Obj)
    (T : Turn X.prog X.w X.K tg J [s.heap.objs.size] s.heap.objs.size tn) (st : tn 0 (s.heap.push o)) (q : R J H) : PIE X pins σ tg R (.ref s.heap.objs.size) { s with heap := s.heap.push o, toks := tk } := by
  refine ⟨s.heap.objs.size, [s.heap.objs.size], tn, J, H, rfl, I.kept fun b ob e => Heap.get?_push_of_some _ e, T, st, fun b hb => ?_, q⟩
  have e : b = s.heap.objs.size := by simpa using hb
  subst e
  exact I.fpOk (Nat.le_refl _) (I.hok.fresh (Nat.le_refl _))
end

/-! ### range with a step -/

/-! ### reversed(list) -/

/-! ### a str -/

/-! ### a dict's keys: any dict's entries -/

/-! ### a locked dict -/
theorem kv_get {κ : Type} {kvs : List (κ × V)} {vs : List (κ × Value)} (h : KV kvs vs) : ∀ {i : Nat} {k : κ} {v : V}, kvs[i]? = some (k, v) → ∃ u, vs[i]? = some (k, u) ∧ RelV v u := by
  unfold KV at h
  induction h with
  | nil => intro i k v e; simp at e
  | @cons a b l₁ l₂ r t ih =>
    intro i k v e
    cases i with
    | zero =>
      simp only [List.getElem?_cons_zero, Option.some.injEq] at e
      subst e
      refine ⟨b.2, ?_, r.2⟩
      simp only [List.getElem?_cons_zero]
      exact congrArg some (Prod.ext r.1.symm rfl)
    | succ j =>
      simp only [List.getElem?_cons_succ] at e ⊢
      exact ih e
theorem relV_key {k : Key} {u : Value} (h : keyIs k u = true) : RelV (kV k) u := by
  rcases keyIs_shape h with ⟨i, t, rfl, rfl⟩ | ⟨x, t, rfl, rfl⟩
  · exact ⟨t, rfl⟩
  · exact ⟨t, rfl⟩
section
variable {X : Cx} {pins : List (Addr × Obj)} {σ : St} {H : Hp} {s : Shared} {d : Addr} {o : Obj}
theorem Inv.frzK {kvs : List (Key × V)} (I : Inv X pins σ H s) (h : H d = some (.frz o (.dK kvs))) :
    (d == sysModules) = false ∧ s.heap.get? d = some o ∧ o.ExactDict ∧ ∃ (es : Array DictEntry) (ep : Nat) (vs : List (Key × Value)), o.data = .dict es ep ∧ es.size = kvs.length ∧ KV kvs vs ∧ s.heap.DictAt (mixKind X.prog X.w) d vs ep := by
  obtain ⟨hd, z, hs, vs, kv, o', es, ep, ho, hx, hdt, r⟩ := I.hok d _ h
  rw [hd] at ho
  cases ho
  refine ⟨hs, hd, hx, es, ep, vs, hdt, ?_, kv, o, es, hd, hx, hdt, r⟩
  have l1 := r.2.1.length
  have l2 : kvs.length = vs.length := Paired.length kv
  rw [Array.length_toList] at l1
  omega
end

/-- the values -/
def Itd (d : Addr) (o : Obj) (kvs : List (Key × V)) : It :=
  ⟨fun i H => H d = some (.frz o (.dK kvs)) ∧ i < kvs.length, fun i H x H' => H' = H ∧ ∃ k, kvs[i]? = some (k, x), fun i H => H d = some (.frz o (.dK kvs)) ∧ kvs.length ≤ i⟩
/-- the pairs, each a new tuple -/
def Iti (d : Addr) (o : Obj) (kvs : List (Key × V)) : It :=
  ⟨fun i H => H d = some (.frz o (.dK kvs)) ∧ i < kvs.length, fun i H x H' => ∃ T k v, kvs[i]? = some (k, v) ∧ x = .ref T ∧ H T = none ∧ H' = upd H T (.tup [kV k, v]), fun i H => H d = some (.frz o (.dK kvs)) ∧ kvs.length ≤ i⟩
theorem dict_ep {o : Obj} {es es' : Array DictEntry} {ep ep' : Nat} (h : o.data = .dict es ep) (h' : o.data = .dict es' ep') : es' = es ∧ ep' = ep := by
  rw [h] at h'
  cases h'
  exact ⟨rfl, rfl⟩
section
variable {P : Program} {w : World} {K : PySem.W.Frag} {tg : Expr} {d : Addr} {o : Obj} {es : Array DictEntry} {ep : Nat}
theorem turn_vals {kvs : List (Key × V)} (it : Addr) (hod : o.data = .dict es ep) : Turn P w K tg (Itd d o kvs) [it] it (fun i h => h.IsValIter it d i kvs.length ep) where
  mem := by simp
  obj := fun i h st b hb => by
    have e : b = it := by simpa using hb
    subst e
    obtain ⟨oi, e, c, dd⟩ := st
    exact ⟨oi, e, fun v z => by rw [dd] at z; cases z⟩
  keep := fun i h h' st k => st.at fun oi e => k it (by simp) oi e
  item := by
    intro X hP hw hK hc i pins s σ H E I hf st hg
    subst hP hw hK
    obtain ⟨hd, hi⟩ := hg
    obtain ⟨f0, f1, f2, f3, f4, f5⟩ := hf it (by simp)
    obtain ⟨hs, hgd, hx, es', ep', vs, hdt, hsz, kv, hm⟩ := I.frzK hd
    obtain ⟨rfl, rfl⟩ := dict_ep hod hdt
    obtain ⟨⟨k, v⟩, hkv⟩ : ∃ p, kvs[i]? = some p := ⟨kvs[i], List.getElem?_eq_getElem hi⟩
    obtain ⟨u, hu, ru⟩ := kv_get kv hkv
    have hl : kvs.length = vs.length := Paired.length kv
    rw [hl] at st
    refine wpAny_pyNext_values_item st hm hu fun h' st' sb => ?_
    have I1 : Inv X pins σ H { s with heap := h' } := I.turned (t' := s.toks) (fun b ob hb e => (sb.2 b hb).trans e) f0 f1 f3 f4 f5
    obtain ⟨oi, e, c, dd⟩ := id st'
    refine ⟨u, rfl, go_of (s := { s with heap := h' }) e c dd (by decide) ⟨v, H, I1, ru, ⟨rfl, k, hkv⟩, ?_, fun b hb => (hf b hb).1⟩⟩
    show h'.IsValIter it d (i + 1) kvs.length _
    rw [hl]
    exact st'
  done := by
    intro X hP hw hK hc i pins s σ H E I hf st hg
    subst hP hw hK
    obtain ⟨hd, hi⟩ := hg
    obtain ⟨f0, f1, f2, f3, f4, f5⟩ := hf it (by simp)
    obtain ⟨hs, hgd, hx, es', ep', vs, hdt, hsz, kv, hm⟩ := I.frzK hd
    obtain ⟨rfl, rfl⟩ := dict_ep hod hdt
    have hl : kvs.length = vs.length := Paired.length kv
    rw [hl] at st
    exact wpAny_pyNext_values_end (I.ok.hd hc) st hm (List.getElem?_eq_none (by omega)) fun h' eb => ⟨rfl, I.turned (t' := s.toks) (fun b ob hb e => eb b ob hb e) f0 f1 f3 f4 f5⟩
  self := fun A i s Q E st h => wpAny_pyIter_valiter st h
theorem turn_items {kvs : List (Key × V)} {elts : List Expr} {kk : Nat} {tpos : Pos} (it : Addr) (hod : o.data = .dict es ep) :
    Turn P w K (.Tuple elts kk tpos) (Iti d o kvs) [it] it (fun i h => ∃ ok ov, IsItemIter h it d i kvs.length ep ok ov) where
  mem := by simp
  obj := fun i h st b hb => by
    have e : b = it := by simpa using hb
    subst e
    obtain ⟨ok, ov, e⟩ := st
    exact ⟨_, e, fun v z => nomatch z⟩
  keep := fun i h h' st k => let ⟨ok, ov, e⟩ := st; ⟨ok, ov, k it (by simp) _ e⟩
  item := by
    intro X hP hw hK hc i pins s σ H E I hf st hg
    subst hP hw hK
    obtain ⟨hd, hi⟩ := hg
    obtain ⟨hs, hgd, hx, es', ep', vs, hdt, hsz, kv, hm⟩ := I.frzK hd
    obtain ⟨rfl, rfl⟩ := dict_ep hod hdt
    obtain ⟨⟨k, v⟩, hkv⟩ : ∃ p, kvs[i]? = some p := ⟨kvs[i], List.getElem?_eq_getElem hi⟩
    obtain ⟨u, hu, ru⟩ := kv_get kv hkv
    have hl : kvs.length = vs.length := Paired.length kv
    obtain ⟨ok, ov, he⟩ := st
    rw [hl] at he
    have hlt : it < s.heap.objs.size := Heap.lt_size he
    refine wpAny_pyNext_items_item he hm hu fun key h' hkey ho hT hz hk => ?_
    refine ⟨_, rfl, wpAny_letOwnedTupleGo_items (s := { s with heap := h' }) ho fun h'' he' sb => ?_⟩
    have hT2 : h''.get? s.heap.objs.size = some { cls := .type "tuple", data := .seq #[key, u] } := (sb.2 _ (Nat.ne_of_gt hlt)).trans hT
    have new : ObjOk X.prog X.w (upd H s.heap.objs.size (.tup [kV k, v])) h'' s.heap.objs.size (.tup [kV k, v]) :=
      ⟨by show 2 ≤ sizeLine; decide, [key, u], .cons (relV_key (show keyIs k key = true from hkey)) (.cons ru .nil), ⟨_, hT2, rfl, _, rfl⟩⟩
    have I1 : Inv X pins σ (upd H s.heap.objs.size (.tup [kV k, v])) { s with heap := h'' } :=
      I.turnedNew (t' := s.toks) (ch := [it]) (fun b ob hb e => (sb.2 b (by simpa using hb)).trans (hk b ob (by simpa using hb) e)) hf (Nat.le_refl _) new
    refine ⟨.ref s.heap.objs.size, _, I1, rfl, ⟨_, k, v, hkv, rfl, I.hok.fresh (Nat.le_refl _), rfl⟩, ⟨key, u, ?_⟩, fun b hb => ?_⟩
    · rw [hl]; exact he'
    · have e : b = it := by simpa using hb
      rw [e, upd_ne (Nat.ne_of_lt hlt)]
      exact (hf it (by simp)).1
  done := by
    intro X hP hw hK hc i pins s σ H E I hf st hg
    subst hP hw hK
    obtain ⟨hd, hi⟩ := hg
    obtain ⟨f0, f1, f2, f3, f4, f5⟩ := hf it (by simp)
    obtain ⟨hs, hgd, hx, es', ep', vs, hdt, hsz, kv, hm⟩ := I.frzK hd
    obtain ⟨rfl, rfl⟩ := dict_ep hod hdt
    have hl : kvs.length = vs.length := Paired.length kv
    obtain ⟨ok, ov, he⟩ := st
    rw [hl] at he
    exact wpAny_pyNext_items_end (I.ok.hd hc) he hm (List.getElem?_eq_none (by omega)) fun h' eb => ⟨rfl, I.turned (t' := s.toks) (fun b ob hb e => eb b ob hb e) f0 f1 f3 f4 f5⟩
  self := fun A i s Q E st h => let ⟨_, _, e⟩ := st; PySem.W.kcp_self e h
end

/-! ### for k in d, d.keys(), d.values(), d.items() -/
def iItems (td : TE) : TI := fun σ H R => td σ H fun x H1 => ∃ d o kvs, x = .ref d ∧ H1 d = some (.frz o (.dK kvs)) ∧ R (Iti d o kvs) H1
section
variable {X : Cx} {tg e : Expr} {td : TE} {apos cpos : Pos}
theorem pi_items {elts : List Expr} {kk : Nat} {tpos : Pos} (he : PE X e td) (hbase : attributeBase e "items" X.env (eval e X.env) = eval e X.env := by rfl) (hline : (apos.endLine == cpos.line) = true := by rfl) :
    PI X (.Tuple elts kk tpos) (.Call (.Attribute e "items" apos) [] [] cpos) (iItems td) := by
  intro pins s σ H R I h
  refine wpAny_Call_method (T := "dict") (id := "dict.items") hbase rfl hline F.plainAttrs_dict F.slot_dict_items F.type_dict_items (thn (he pins s σ H _ I h) fun u s1 ⟨x, H1, I1, rx, d, o, kvs, ex, hd, q⟩ => ?_)
  subst ex
  obtain rfl : u = Value.ref d := rx
  obtain ⟨hs, hgd, hx, es, ep, vs, hdt, hsz, kv, hm⟩ := I1.frzK hd
  have hl : kvs.length = vs.length := Paired.length kv
  refine ⟨hm.dictOf.typeIs, hm.dictOf.mapOf.noDict, ?_⟩
  have I2 : Inv X pins σ H1 { s1 with heap := s1.heap.push { cls := .type "dict_items", data := .fields #[.ref d] } } := I1.kept (t' := s1.toks) fun b ob q => Heap.get?_push_of_some _ q
  have fin : wpAny (model X.prog X.w) X.A (pyIter (.ref s1.heap.objs.size)) (PIE X pins σ (.Tuple elts kk tpos) R) X.xe { s1 with heap := s1.heap.push { cls := .type "dict_items", data := .fields #[.ref d] } } := by
    refine wpAny_pyIter_items (d := d) (knd := mixKind X.prog X.w) ⟨_, Heap.get?_push_size _ rfl, rfl, rfl⟩ (hm.push _) (pi_one (tk := s1.toks) I2 _ (turn_items _ hdt) ⟨.none, .none, ?_⟩ q)
    rw [hl]
    exact Heap.get?_push_size _ rfl
  show wpAny _ _ (callWith cpos (.builtin "dict.items") [.ref d] [] []) _ X.xe s1
  exact method_meetsIn F.slot_dict_items F.entry_dict_items rfl (PySem.evalArgs_none ⟨rfl, hm.dictOf.typeIs, F.args_dict_items_1 _, _, meets_dict_items (mixKind X.prog X.w) d hs, ⟨vs, hm.dictOf⟩, fin⟩)
end

/-! ### enumerate(list) -/
/-! ### zip(list, list) -/
end L2

section 
namespace Bits
open PySem PyProof.Rows

end Bits
end 

section 
namespace TL
open PySem PySem.Builtin PySem.Builtin.Str PySem.StrLaws

/-! ### the list functions -/

/-! ### the model's split and partition are these -/

/-! ### computing spl and par -/

/-! ### digits -/

/-! ### words: x.split() -/
end TL
end 

namespace L2
open PySem PySem.Spec PyProof.Rows

end L2

namespace L2
open PySem PySem.Spec PyProof.Rows

/-! ### slices of a text -/

end L2

namespace Att
open PySem PySem.W PySem.Calls PyProof.Rows

/-! ### the script -/

/-! ### the attachment: holds_open's last premise (the goal 'hc' behind k_head) from a wpAny of the law's body -/

/-! ### rules over ANY heap (no ledger) from facts about the written part K: the library's own take a ledger (News) for what they write -/
end Att

namespace L2
open PySem PySem.Spec PyProof.Rows

end L2

namespace L2
open PySem PySem.Spec PyProof.Rows

end L2

/- THE LAST THEOREM (shape; LID, My.* are yours):
   My.Adr: a structure of the addresses that your layer names (classes, functions); My.Txt K t: a structure (Prop) of the equations over K;
   My.txt_mk : {K} {implicit addresses ..} (e1 : nsIn K mainGlobals "law" = some (some (.ref f))) (e2 : K.lookup f = some ⟨oc, od, .func (fnOf "law" "law" params body scope dV kV doc pm an cdv ct), sl⟩) (e3 : codeIn K cdv "law" = true) .. : ∃ t, My.Txt K t

set_option maxRecDepth 100000 in
set_option maxHeartbeats 0 in
theorem PySem.Challenge.cw_LID_holds : PySem.Challenge.rw_LID.Holds := by
  w_on; o_law; k_head; (case hw => w_witness2)
  k_fill
  refine L2.walk_of (l := PySem.Challenge.rw_LID) (n := 63) (k := 40) (x := "script") (CX := fun w => ..) (sp := fun _ => My.sp_law) rfl (by decide) rfl ⟨rfl, by decide, by decide⟩ (fun w h Y => PySem.W.kIn_of Y) ?F ?S ?C
  case F =>
    intro w mg fa h KX G hmg
    have T : ∃ t, My.Txt (L2.KOf KX) t := by
      dsimp only [L2.KOf]                          -- K must stand as «<heap const> w.params» for k_is
      refine' My.txt_mk ?e1 ?e2 ?e3 ..
      (case e1 => PySem.W.k_is)                    -- in the order: a name -> its address -> its object -> its parts
      (case e2 => PySem.W.k_is)
      ..
    obtain ⟨t, T⟩ := T
    have e0 := hmg.symm.trans (PySem.W.mg_of KX G T.law)
    cases e0                                       -- fa is the law's own address
    exact ⟨_, fun s u => .of_eq rfl, fun base kb nb => My.law_fn T kb nb⟩     -- if «.of_eq rfl» comes too early: refine' ⟨_, ?b, fun base kb nb => My.law_fn T kb nb⟩; exact fun s u => .of_eq rfl
  case S => exact fun w H a ns hl hO hS => ..
  case C => exact ..
(the tactic k_is has no namespace: write k_is) -/

/-! SHORT WORDS over the layer: a def of the text, its body, what a loop and a test want. -/
namespace L2
open PySem PySem.Spec PyProof.Rows

/-! ### the text by places -/
/-- the j-th statement of a class's body -/
def inClass (s : Stmt) (j : Nat) : Stmt := match s with
  | .ClassDef _ _ _ body _ _ _ _ _ _ _ => body.getD j (.Pass ⟨0, 0, 0, 0⟩)
  | _ => .Pass ⟨0, 0, 0, 0⟩
def defArgs (s : Stmt) : Arguments := match s with
  | .FunctionDef _ a _ _ _ _ _ _ _ _ => a
  | _ => { posonlyargs := [], args := [], vararg := none, kwonlyargs := [], kw_defaults := [], kwarg := none, defaults := [] }
def defBody (s : Stmt) : List Stmt := match s with
  | .FunctionDef _ _ b _ _ _ _ _ _ _ => b
  | _ => []
def defScope (s : Stmt) : Scope := match s with
  | .FunctionDef _ _ _ _ _ _ sc _ _ _ => sc
  | _ => { kind := .function, names := [], isGenerator := false, isCoroutine := false }

/-! ### no exception leaves a def -/
abbrev CX0 : CXT := fun _ _ _ _ _ _ => False
abbrev E0 : XK := fun _ _ _ => False
theorem pass0 {X : Cx} : Passes CX0 X E0 := fun _ _ _ _ _ _ _ h => h.elim

/-! ### a def (or method) of the text as it stands behind the top -/
structure Fun (K : PySem.W.Frag) (x qual : Str) (st : Stmt) (f : Addr) (fd : FuncData) : Prop where
  ex : ∃ (oc : Value) (od : Option Addr) (kV doc pm : Value) (an : Option Addr) (cdv ct : Value) (osl : Array (Option Value)),
    fd = PySem.W.fnOf x qual (defArgs st) (defBody st) (defScope st) .none kV doc pm an cdv ct ∧ K.lookup f = some ⟨oc, od, .func fd, osl⟩ ∧ PySem.W.codeIn K cdv qual = true
  kp : PySem.W.keepIn K (.ref f) = true
section
variable {P : Program} {w : World} {K : PySem.W.Frag} {mg : Str → Option Value} {base : Heap}
/-- THE RULE for a def: its body as a term of rules, and the reading of that term -/
theorem Fun.ok {x qual : Str} {st : Stmt} {f : Addr} {fd : FuncData} {N ps : List Str} {k : Nat} {sp : Sp} (F : Fun K x qual st f fd) (S : FnScope N ps (defScope st)) (len : ∀ vs H Q E, sp vs H Q E → vs.length = ps.length)
    (hbody : ∀ (cdv : Value) (A : Around) (outer : List Env) (s : Shared) (H : Hp) (vs : List V) (Q : VK) (E : XK), Room k (A.deeper (envOfC qual (defScope st) s.heap.objs.size f cdv)) → sp vs H Q E →
      ∃ t, PSs (cxOf CX0 P w K mg base N qual (defScope st) f cdv A outer s H E).nox (defBody st) t ∧ t { nx := fun _ H' => Q .non H', rt := Q } (start N vs) H) : FnOk P w K mg base CX0 (k + 1) f fd ps sp := by
  obtain ⟨oc, od, kV, doc, pm, an, cdv, ct, osl, rfl, lk, hcd⟩ := F.ex
  refine fn_of lk hcd S len fun A outer s H vs Q E hr hsp => ?_
  obtain ⟨t, h, q⟩ := hbody cdv A outer s H vs Q E hr hsp
  exact ⟨t, h.nox, q⟩
/-- how its arguments bind (no defaults): h is «fun _ _ _ _ _ _ us hl => match us, hl with | [_, _], _ => rfl», one _ a parameter -/
theorem Fun.binds {x qual : Str} {st : Stmt} {f : Addr} {fd : FuncData} {ps : List Str} (F : Fun K x qual st f fd)
    (h : ∀ (kV doc pm : Value) (an : Option Addr) (cdv ct : Value) (us : List Value), us.length = ps.length → bindArgs (PySem.W.fnOf x qual (defArgs st) (defBody st) (defScope st) .none kV doc pm an cdv ct) ⟨us, []⟩ = pure (ps.zip us)) : Binds K fd ps [] := by
  obtain ⟨oc, od, kV, doc, pm, an, cdv, ct, osl, rfl, lk, hcd⟩ := F.ex
  exact .all (h kV doc pm an cdv ct)
theorem fun_mk {x qual : Str} {st : Stmt} {f : Addr} {oc : Value} {od an : Option Addr} {osl : Array (Option Value)} {kV doc pm cdv ct : Value} (l : K.lookup f = some ⟨oc, od, .func (PySem.W.fnOf x qual (defArgs st) (defBody st) (defScope st) .none kV doc pm an cdv ct), osl⟩)
    (c : PySem.W.codeIn K cdv qual = true) (k : PySem.W.keepIn K (.ref f) = true) : Fun K x qual st f (PySem.W.fnOf x qual (defArgs st) (defBody st) (defScope st) .none kV doc pm an cdv ct) := ⟨⟨oc, od, kV, doc, pm, an, cdv, ct, osl, rfl, l, c⟩, k⟩
end
theorem hu_of {A : Around} {k : Nat} (hr : Room k A) : A.units + 1 < cLine := Nat.lt_of_le_of_lt (Nat.add_le_add_left (by decide : 1 ≤ 64) _) hr.units

/-! ### expressions in short: the name that stands in the i-th slot -/
section
variable {X : Cx}
theorem pv (i : Nat) {x : Str} {pos : Pos} (hN : X.N[i]? = some x := by rfl) (hv : Vis X.env.scope x := by first | exact Or.inl rfl | exact Or.inr (Or.inl rfl) | exact Or.inr (Or.inr rfl)) (hd : (x == ("__debug__" : Str)) = false := by decide)
    (hcd : (x == ("__classdict__" : Str)) = false := by decide) : PE X (.Name x pos) (tVar i) := pe_var hN hv hd hcd
/-- len of a dict -/
theorem call_lenD : CallR X (.builtin "len") (fun xs H Q => ∃ a kvs, xs = [V.ref a] ∧ H a = some (.dK kvs) ∧ Q (.int kvs.length) H) := by
  intro pins s σ H xs us Q I r h
  obtain ⟨a, kvs, rfl, ha, q⟩ := h
  obtain ⟨u, rfl, ru⟩ := vals1 r
  cases ru
  exact d_len I (.inl ha) fun t s' I' => ⟨.int kvs.length, H, I', ⟨t, rfl⟩, q⟩
end

/-! ### tests -/
theorem iteF {A B : Prop} (h : B) : if false = true then A else B := by
  rw [if_neg Bool.false_ne_true]
  exact h
theorem iteT {A B : Prop} (h : A) : if true = true then A else B := by
  rw [if_pos rfl]
  exact h
theorem ite2 {c A B : Prop} [Decidable c] (h1 : c → A) (h2 : ¬ c → B) : if c then A else B := by
  by_cases h : c
  · rw [if_pos h]
    exact h1 h
  · rw [if_neg h]
    exact h2 h

/-! ### heaps -/
/-- all that was tracked is as it was -/
def Same (H H' : Hp) : Prop := ∀ b o, H b = some o → H' b = some o
theorem Same.refl (H : Hp) : Same H H := fun _ _ h => h
theorem Same.trans {H H1 H2 : Hp} (a : Same H H1) (b : Same H1 H2) : Same H H2 := fun c o h => b c o (a c o h)
theorem Same.free {H H' : Hp} (e : Same H H') {l : Addr} (h : H' l = Option.none) : H l = Option.none := by
  cases q : H l with
  | none => rfl
  | some o =>
    rw [e l o q] at h
    cases h

/-! ### a dict's pairs: keys that differ -/
section
variable {κ : Type} [DecidableEq κ]
theorem dropK_pos {p : κ × V} {r : List (κ × V)} {k : κ} (e : p.1 = k) : dropK (p :: r) k = dropK r k := by
  unfold dropK
  rw [List.filter_cons, if_neg (by simp [e])]
theorem dropK_neg {p : κ × V} {r : List (κ × V)} {k : κ} (e : ¬ p.1 = k) : dropK (p :: r) k = p :: dropK r k := by
  unfold dropK
  rw [List.filter_cons, if_pos (by simp [e])]
end
/-! ### lists -/
theorem nd_ix {α : Type} {l : List α} (hN : l.Nodup) {i j : Nat} {x : α} (a : l[i]? = some x) (b : l[j]? = some x) : i = j := by
  obtain ⟨h1, e1⟩ := List.getElem?_eq_some_iff.mp a
  obtain ⟨h2, e2⟩ := List.getElem?_eq_some_iff.mp b
  exact (List.getElem_inj hN).mp (e1.trans e2.symm)
/-- a new instance and its __init__ leave all that was tracked as it was -/
theorem Same.made {H H1 : Hp} {x dx C : Addr} (nx : H x = Option.none) (nd : H dx = Option.none) (k : ∀ b o, (upd (upd H dx (.own x)) x (.ins C dx [])) b = some o → b ≠ x → H1 b = some o) : Same H H1 := fun b o e =>
  k b o (by rw [upd_ne (ne_of_none e nx), upd_ne (ne_of_none e nd)]; exact e) (ne_of_none e nx)
end L2

section
set_option Elab.async false
set_option linter.all false
set_option maxRecDepth 100000
set_option maxHeartbeats 2000000
namespace L2
open PySem PySem.Spec PyProof.Rows
open PySem.W (WData Codec OpenSpec Well WellAll ReadsW ReadsAllW)
/-! ### an answer as data -/
mutual
/-- x stands for the datum d, lists and tuples all the way -/
inductive Dw (K : PySem.W.Frag) (H : Hp) : V → WData → Prop
  | non : Dw K H .non .none
  | bl (b : Bool) : Dw K H (.bl b) (.bool b)
  | int (i : Int) : Dw K H (.int i) (.int i)
  | str (x : Str) : Dw K H (.str x) (.str x)
  | byt (b : Array UInt8) : Dw K H (.byt b) (.bytes b.toList)
  | lst {a : Addr} {xs : List V} {ds : List WData} : SqL K H a xs → DwAll K H xs ds → Dw K H (.ref a) (.list ds)
  | tup {a : Addr} {xs : List V} {ds : List WData} : SqT K H a xs → DwAll K H xs ds → Dw K H (.ref a) (.tuple ds)
inductive DwAll (K : PySem.W.Frag) (H : Hp) : List V → List WData → Prop
  | nil : DwAll K H [] []
  | cons {v : V} {vs : List V} {d : WData} {ds : List WData} : Dw K H v d → DwAll K H vs ds → DwAll K H (v :: vs) (d :: ds)
end
theorem dw_ints {K : PySem.W.Frag} {H : Hp} : ∀ ns : List Int, DwAll K H (ns.map V.int) (ns.map WData.int)
  | [] => .nil
  | n :: r => .cons (.int n) (dw_ints r)
theorem ints_dw {K : PySem.W.Frag} {H : Hp} : ∀ (ns : List Int) (xs : List V), DwAll K H xs (ns.map WData.int) → xs = ns.map V.int
  | [], xs, h => by
    cases h
    rfl
  | n :: r, xs, h => by
    cases h with
    | cons h1 h2 =>
      cases h1
      rw [ints_dw r _ h2] <;> rfl
section
variable {P : Program} {w : World} {K : PySem.W.Frag} {H : Hp} {h : Heap} {R : PySem.W.WRecords} {cl : Str → Option Addr}
theorem sqL_at {a : Addr} {xs : List V} (hok : HOk P w H h) (KX : K.In h) (q : SqL K H a xs) : ∃ (its : List Value) (o : Obj) (n : Nat), Vals xs its ∧ h.get? a = some o ∧ o.cls = .type "list" ∧ o.data = .seq its.toArray n := by
  rcases q with q | ⟨o, its, n, e, hc, _, hd, _, hv⟩
  · obtain ⟨_, its, n, hv, e⟩ := (show ObjOk P w H h a (.lst xs) from q.ok hok)
    exact ⟨its, _, n, hv, e, rfl, rfl⟩
  · exact ⟨its.toList, o, n, hv, KX _ _ e, hc, by simp [hd]⟩
theorem sqT_at {a : Addr} {xs : List V} (hok : HOk P w H h) (KX : K.In h) (q : SqT K H a xs) : ∃ (its : List Value) (o : Obj) (n : Nat), Vals xs its ∧ h.get? a = some o ∧ o.cls = .type "tuple" ∧ o.data = .seq its.toArray n := by
  rcases q with q | ⟨o, its, n, e, hc, hd, _, hv⟩
  · obtain ⟨_, its, hv, o, e, hc, n, hd⟩ := (show ObjOk P w H h a (.tup xs) from q.ok hok)
    exact ⟨its, o, n, hv, e, hc, hd⟩
  · exact ⟨its.toList, o, n, hv, KX _ _ e, hc, by simp [hd]⟩
mutual
theorem Dw.reads (hok : HOk P w H h) (KX : K.In h) : ∀ (d : WData) (v : V) (u : Value), Dw K H v d → RelV v u → ∃ as, ReadsW R cl h u d as
  | .none, _, _, x, r => by
    cases x
    cases r
    exact ⟨_, ReadsW.none⟩
  | .bool b, _, _, x, r => by
    cases x
    cases r
    exact ⟨_, ReadsW.bool b⟩
  | .int i, _, _, x, r => by
    cases x
    obtain ⟨t, rfl⟩ := r
    exact ⟨_, ReadsW.int i t⟩
  | .str s, _, _, x, r => by
    cases x
    obtain ⟨t, rfl⟩ := r
    exact ⟨_, ReadsW.str s t⟩
  | .bytes b, _, _, x, r => by
    cases x
    obtain ⟨t, rfl⟩ := r
    exact ⟨_, ReadsW.bytes _ t⟩
  | .list ds, _, _, x, r => by
    cases x with
    | lst hs ha =>
      cases r
      obtain ⟨its, o, n, rv, ho, hc, hd⟩ := sqL_at hok KX hs
      obtain ⟨as, hr⟩ := Dw.readsAll hok KX ds _ its ha rv
      exact ⟨_, ReadsW.list ho hc hd hr⟩
  | .tuple ds, _, _, x, r => by
    cases x with
    | tup hs ha =>
      cases r
      obtain ⟨its, o, n, rv, ho, hc, hd⟩ := sqT_at hok KX hs
      obtain ⟨as, hr⟩ := Dw.readsAll hok KX ds _ its ha rv
      exact ⟨_, ReadsW.tuple ho hc hd hr⟩
  | .float _, _, _, x, _ => by cases x
  | .dict _, _, _, x, _ => by cases x
  | .bytearray _, _, _, x, _ => by cases x
  | .set _, _, _, x, _ => by cases x
  | .frozenset _, _, _, x, _ => by cases x
  | .obj _ _, _, _, x, _ => by cases x
theorem Dw.readsAll (hok : HOk P w H h) (KX : K.In h) : ∀ (ds : List WData) (vs : List V) (us : List Value), DwAll K H vs ds → Vals vs us → ∃ as, ReadsAllW R cl h us ds as
  | [], _, _, x, r => by
    cases x
    cases r
    exact ⟨_, ReadsAllW.nil⟩
  | d :: ds, _, _, x, r => by
    cases x with
    | cons h1 h2 =>
      cases r with
      | cons r1 r2 =>
        obtain ⟨as, q1⟩ := Dw.reads hok KX d _ _ h1 r1
        obtain ⟨bs, q2⟩ := Dw.readsAll hok KX ds _ _ h2 r2
        exact ⟨_, ReadsAllW.cons q1 q2⟩
end
end
/-! ### the arguments -/
mutual
/-- data that a codec tells -/
def plW : WData → Bool
  | .none => true
  | .bool _ => true
  | .int _ => true
  | .str _ => true
  | .bytes _ => true
  | .list xs => plWs xs
  | .tuple xs => plWs xs
  | _ => false
def plWs : List WData → Bool
  | [] => true
  | x :: r => plW x && plWs r
end
theorem plWs_map {α : Type} {f : α → WData} (h : ∀ a, plW (f a) = true) : ∀ l : List α, plWs (l.map f) = true
  | [] => rfl
  | x :: r => by
    show (plW (f x) && plWs (r.map f)) = true
    rw [h x, plWs_map h r] <;> rfl
theorem pl_enc : ∀ (c : Codec) (a : c.denote), plW (c.enc a) = true
  | .unit, _ => rfl
  | .bool, _ => rfl
  | .int _ _, _ => rfl
  | .nat _ _, _ => rfl
  | .u8, _ => rfl
  | .bytes _ _, _ => rfl
  | .text _ _ _ _, _ => rfl
  | .list _ _ c, a => plWs_map (fun x => pl_enc c x) a
  | .pair c d, a => by
    show (plW (c.enc a.1) && (plW (d.enc a.2) && true)) = true
    rw [pl_enc c a.1, pl_enc d a.2] <;> rfl
  | .triple c d e, a => by
    show (plW (c.enc a.1) && (plW (d.enc a.2.1) && (plW (e.enc a.2.2) && true))) = true
    rw [pl_enc c a.1, pl_enc d a.2.1, pl_enc e a.2.2] <;> rfl
  | .option c, none => rfl
  | .option c, some x => pl_enc c x
theorem pl_encAll : ∀ (cs : List Codec) (a : Codec.denoteAll cs), plWs (Codec.encAll cs a) = true
  | [], _ => rfl
  | c :: cs, a => by
    show (plW (c.enc a.1) && plWs (Codec.encAll cs a.2)) = true
    rw [pl_enc c a.1, pl_encAll cs a.2] <;> rfl
theorem weight_mem : ∀ {xs : List WData} {d : WData}, d ∈ xs → d.weight ≤ WData.weightAll xs
  | [], d, h => absurd h (by simp)
  | x :: r, d, h => by
    show d.weight ≤ x.weight + 1 + WData.weightAll r
    rcases List.mem_cons.mp h with e | m
    · rw [e]
      omega
    · have z := weight_mem m
      omega
def toV : Value → V
  | .none => .non
  | .bool b => .bl b
  | .int i _ => .int i
  | .str x _ => .str x
  | .bytes b _ => .byt b
  | .ref a => .ref a
  | _ => .non
/-- a value of the arguments, its objects among A -/
def OkU (A : List Addr) : Value → Prop
  | .none => True
  | .bool _ => True
  | .int _ _ => True
  | .str _ _ => True
  | .bytes _ _ => True
  | .ref a => a ∈ A
  | _ => False
theorem OkU.mono {A B : List Addr} (h : ∀ a ∈ A, a ∈ B) : ∀ {u : Value}, OkU A u → OkU B u := fun {u} x => by
  cases u with
  | ref a => exact h a x
  | none => trivial
  | bool b => trivial
  | int i t => trivial
  | str s t => trivial
  | bytes b t => trivial
  | _ => exact False.elim x
theorem relV_toV {A : List Addr} {u : Value} (x : OkU A u) : RelV (toV u) u := by
  cases u with
  | ref a => rfl
  | none => rfl
  | bool b => rfl
  | int i t => exact ⟨t, rfl⟩
  | str s t => exact ⟨t, rfl⟩
  | bytes b t => exact ⟨t, rfl⟩
  | _ => exact False.elim x
theorem vals_toV {A : List Addr} : ∀ {vs : List Value}, (∀ u ∈ vs, OkU A u) → Vals (vs.map toV) vs
  | [], _ => .nil
  | u :: r, h => .cons (relV_toV (h u (List.mem_cons_self ..))) (vals_toV fun x hx => h x (List.mem_cons_of_mem _ hx))
/-- an object of the arguments -/
def ArgOb (h : Heap) (A : List Addr) (a : Addr) : Prop := ∃ vs : List Value, vs.length ≤ sizeLine ∧ (∀ u ∈ vs, OkU A u) ∧
  (h.get? a = some { cls := .type "list", data := .seq vs.toArray } ∨ h.get? a = some { cls := .type "tuple", data := .seq vs.toArray })
theorem ArgOb.mono {h : Heap} {A B : List Addr} {a : Addr} (k : ∀ a ∈ A, a ∈ B) (x : ArgOb h A a) : ArgOb h B a := by
  obtain ⟨vs, h1, h2, h3⟩ := x
  exact ⟨vs, h1, fun u hu => (h2 u hu).mono k, h3⟩
theorem wellAll_len {P : Params} {h : Heap} : ∀ {vs : List Value} {ds : List WData}, WellAll P h vs ds → vs.length = ds.length
  | _, _, .nil => rfl
  | _, _, .cons _ b => by
    show _ + 1 = _ + 1
    rw [wellAll_len b]
theorem well_list {P : Params} {h : Heap} {v : Value} {ds : List WData} (x : Well P h v (.list ds)) : ∃ (a : Addr) (vs : List Value), v = .ref a ∧ h.get? a = some { cls := .type "list", data := .seq vs.toArray } ∧ WellAll P h vs ds := by
  cases x with
  | list ho hall => exact ⟨_, _, rfl, ho, hall⟩
theorem well_tuple {P : Params} {h : Heap} {v : Value} {ds : List WData} (x : Well P h v (.tuple ds)) : ∃ (a : Addr) (vs : List Value), v = .ref a ∧ h.get? a = some { cls := .type "tuple", data := .seq vs.toArray } ∧ WellAll P h vs ds := by
  cases x with
  | tuple ho hall => exact ⟨_, _, rfl, ho, hall⟩
theorem well_cons {P : Params} {h : Heap} {us : List Value} {d : WData} {ds : List WData} (x : WellAll P h us (d :: ds)) : ∃ (v : Value) (vs : List Value), us = v :: vs ∧ Well P h v d ∧ WellAll P h vs ds := by
  cases x with
  | cons a b => exact ⟨_, _, rfl, a, b⟩
theorem line_of {n : Nat} (h : n ≤ 1048576) : n ≤ sizeLine := Nat.le_trans h (by decide)
section
variable {P : Params} {h : Heap}
mutual
theorem area_one : ∀ (d : WData) (v : Value), Well P h v d → plW d = true → d.weight ≤ 1048576 → ∃ A : List Addr, OkU A v ∧ ∀ a ∈ A, ArgOb h A a
  | .none, _, x, _, _ => by
    cases x
    exact ⟨[], trivial, fun a m => absurd m (by simp)⟩
  | .bool b, _, x, _, _ => by
    cases x
    exact ⟨[], trivial, fun a m => absurd m (by simp)⟩
  | .int i, _, x, _, _ => by
    cases x
    exact ⟨[], trivial, fun a m => absurd m (by simp)⟩
  | .str s, _, x, _, _ => by
    cases x
    exact ⟨[], trivial, fun a m => absurd m (by simp)⟩
  | .bytes b, _, x, _, _ => by
    cases x
    exact ⟨[], trivial, fun a m => absurd m (by simp)⟩
  | .list ds, _, x, p, z => by
    obtain ⟨a, vs, rfl, ho, hall⟩ := well_list x
    have z2 : WData.weightAll ds ≤ 1048576 := z
    obtain ⟨A, h1, h2⟩ := area_all ds _ hall p fun d hd => Nat.le_trans (weight_mem hd) z2
    have k : ∀ b ∈ A, b ∈ a :: A := fun b hb => List.mem_cons_of_mem _ hb
    refine ⟨a :: A, List.mem_cons_self .., fun b hb => ?_⟩
    rcases List.mem_cons.mp hb with e | m
    · rw [e]
      exact ⟨vs, line_of (by rw [wellAll_len hall]; exact Nat.le_trans (PySem.W.length_le_weightAllW ds) z2), fun u hu => (h1 u hu).mono k, .inl ho⟩
    · exact (h2 b m).mono k
  | .tuple ds, _, x, p, z => by
    obtain ⟨a, vs, rfl, ho, hall⟩ := well_tuple x
    have z2 : WData.weightAll ds ≤ 1048576 := z
    obtain ⟨A, h1, h2⟩ := area_all ds _ hall p fun d hd => Nat.le_trans (weight_mem hd) z2
    have k : ∀ b ∈ A, b ∈ a :: A := fun b hb => List.mem_cons_of_mem _ hb
    refine ⟨a :: A, List.mem_cons_self .., fun b hb => ?_⟩
    rcases List.mem_cons.mp hb with e | m
    · rw [e]
      exact ⟨vs, line_of (by rw [wellAll_len hall]; exact Nat.le_trans (PySem.W.length_le_weightAllW ds) z2), fun u hu => (h1 u hu).mono k, .inr ho⟩
    · exact (h2 b m).mono k
  | .float _, _, _, p, _ => Bool.noConfusion (show false = true from p)
  | .dict _, _, _, p, _ => Bool.noConfusion (show false = true from p)
  | .bytearray _, _, _, p, _ => Bool.noConfusion (show false = true from p)
  | .set _, _, _, p, _ => Bool.noConfusion (show false = true from p)
  | .frozenset _, _, _, p, _ => Bool.noConfusion (show false = true from p)
  | .obj _ _, _, _, p, _ => Bool.noConfusion (show false = true from p)
theorem area_all : ∀ (ds : List WData) (vs : List Value), WellAll P h vs ds → plWs ds = true → (∀ d ∈ ds, d.weight ≤ 1048576) → ∃ A : List Addr, (∀ u ∈ vs, OkU A u) ∧ ∀ a ∈ A, ArgOb h A a
  | [], _, x, _, _ => by
    cases x
    exact ⟨[], fun u m => absurd m (by simp), fun a m => absurd m (by simp)⟩
  | d :: ds, _, x, p, z => by
    obtain ⟨v, vs, rfl, x1, x2⟩ := well_cons x
    have q : plW d = true ∧ plWs ds = true := Bool.and_eq_true_iff.mp p
    obtain ⟨A, a1, a2⟩ := area_one d v x1 q.1 (z d (List.mem_cons_self ..))
    obtain ⟨B, b1, b2⟩ := area_all ds vs x2 q.2 fun e he => z e (List.mem_cons_of_mem _ he)
    have kA : ∀ b ∈ A, b ∈ A ++ B := fun b hb => List.mem_append.mpr (.inl hb)
    have kB : ∀ b ∈ B, b ∈ A ++ B := fun b hb => List.mem_append.mpr (.inr hb)
    refine ⟨A ++ B, fun u hu => ?_, fun b hb => ?_⟩
    · rcases List.mem_cons.mp hu with e | m
      · rw [e]
        exact a1.mono kA
      · exact (b1 u m).mono kB
    · rcases List.mem_append.mp hb with m | m
      · exact (a2 b m).mono kA
      · exact (b2 b m).mono kB
end
end
/-- what is tracked of an argument's object -/
def hoOf (o : Obj) : Option HO := match o.data with
  | .seq vs _ => if (o.cls == Value.type "list") = true then some (.frz o (.lst (vs.toList.map toV))) else some (.frz o (.tup (vs.toList.map toV)))
  | _ => none
def argH (K : PySem.W.Frag) (h : Heap) (A : List Addr) : Hp := fun b => if b ∈ A then (if (K.lookup b).isNone = true then (h.get? b).bind hoOf else none) else none
/-- nothing is tracked but what is known to the object -/
def OnlyF (H : Hp) : Prop := ∀ b, H b = none ∨ ∃ o u, H b = some (.frz o u)
theorem hoOf_lst (vs : List Value) : hoOf { cls := .type "list", data := .seq vs.toArray } = some (.frz { cls := .type "list", data := .seq vs.toArray } (.lst (vs.map toV))) := by
  show (if (Value.type "list" == Value.type "list") = true then some (HO.frz { cls := .type "list", data := .seq vs.toArray } (.lst (vs.toArray.toList.map toV))) else some (HO.frz { cls := .type "list", data := .seq vs.toArray } (.tup (vs.toArray.toList.map toV)))) = _
  rw [if_pos (beq_self_eq_true _)]
theorem hoOf_tup (vs : List Value) : hoOf { cls := .type "tuple", data := .seq vs.toArray } = some (.frz { cls := .type "tuple", data := .seq vs.toArray } (.tup (vs.map toV))) := by
  show (if (Value.type "tuple" == Value.type "list") = true then some (HO.frz { cls := .type "tuple", data := .seq vs.toArray } (.lst (vs.toArray.toList.map toV))) else some (HO.frz { cls := .type "tuple", data := .seq vs.toArray } (.tup (vs.toArray.toList.map toV)))) = _
  rw [if_neg (by decide)]
section
variable {P : Program} {w : World} {K : PySem.W.Frag} {h : Heap} {A : List Addr}
theorem argH_at {b : Addr} {o : Obj} (hb : b ∈ A) (hk : K.lookup b = none) (e : h.get? b = some o) : argH K h A b = hoOf o := by
  unfold argH
  rw [if_pos hb, hk, if_pos (show (none : Option Obj).isNone = true from rfl), e] <;> rfl
theorem of_argH {b : Addr} {u : HO} (q : argH K h A b = some u) : b ∈ A ∧ K.lookup b = none := by
  unfold argH at q
  by_cases hb : b ∈ A
  · rw [if_pos hb] at q
    cases hk : K.lookup b with
    | none => exact ⟨hb, rfl⟩
    | some o =>
      rw [hk, if_neg (by simp)] at q
      cases q
  · rw [if_neg hb] at q
    cases q
/-- what stands tracked -/
theorem argH_is (ar : ∀ a ∈ A, ArgOb h A a) {b : Addr} {u : HO} (q : argH K h A b = some u) : K.lookup b = none ∧ ∃ vs : List Value, vs.length ≤ sizeLine ∧ (∀ u ∈ vs, OkU A u) ∧
    ((h.get? b = some { cls := .type "list", data := .seq vs.toArray } ∧ u = .frz { cls := .type "list", data := .seq vs.toArray } (.lst (vs.map toV))) ∨
     (h.get? b = some { cls := .type "tuple", data := .seq vs.toArray } ∧ u = .frz { cls := .type "tuple", data := .seq vs.toArray } (.tup (vs.map toV)))) := by
  obtain ⟨hb, hk⟩ := of_argH q
  obtain ⟨vs, h1, h2, h3⟩ := ar b hb
  refine ⟨hk, vs, h1, h2, ?_⟩
  rcases h3 with e | e
  · rw [argH_at hb hk e, hoOf_lst] at q
    exact .inl ⟨e, (Option.some.inj q).symm⟩
  · rw [argH_at hb hk e, hoOf_tup] at q
    exact .inr ⟨e, (Option.some.inj q).symm⟩
theorem argH_only (ar : ∀ a ∈ A, ArgOb h A a) : OnlyF (argH K h A) := fun b => by
  cases q : argH K h A b with
  | none => exact .inl rfl
  | some u =>
    obtain ⟨_, vs, _, _, ⟨_, e⟩ | ⟨_, e⟩⟩ := argH_is ar q
    · exact .inr ⟨_, _, by rw [e]⟩
    · exact .inr ⟨_, _, by rw [e]⟩
theorem argH_ok (ar : ∀ a ∈ A, ArgOb h A a) : HOk P w (argH K h A) h := fun b u q => by
  obtain ⟨_, vs, h1, h2, ⟨e, rfl⟩ | ⟨e, rfl⟩⟩ := argH_is ar q
  · exact ⟨e, by rw [List.length_map]; exact h1, vs, _, vals_toV h2, e⟩
  · exact ⟨e, by rw [List.length_map]; exact h1, vs, vals_toV h2, _, e, rfl, _, rfl⟩
theorem seq_inj {c c' : Value} {vs us : List Value} (e : (some { cls := c, data := .seq vs.toArray } : Option Obj) = some { cls := c', data := .seq us.toArray }) : c = c' ∧ vs = us := by
  have e1 := Option.some.inj e
  have e2 : c = c' := congrArg Obj.cls e1
  have e3 : Data.seq vs.toArray = Data.seq us.toArray := congrArg Obj.data e1
  injection e3 with e4
  refine ⟨e2, ?_⟩
  have e5 := congrArg Array.toList e4
  simpa using e5
/-- a list argument -/
theorem argL (KX : K.In h) (ar : ∀ a ∈ A, ArgOb h A a) {a : Addr} {vs : List Value} (ha : a ∈ A) (e : h.get? a = some { cls := .type "list", data := .seq vs.toArray }) : (∀ u ∈ vs, OkU A u) ∧ SqL K (argH K h A) a (vs.map toV) := by
  obtain ⟨us, h1, h2, h3⟩ := ar a ha
  have hu : us = vs := by
    rcases h3 with q | q
    · rw [e] at q
      exact (seq_inj q).2.symm
    · rw [e] at q
      exact absurd (Value.type.inj (seq_inj q).1) (by decide)
  subst hu
  refine ⟨h2, ?_⟩
  cases hk : K.lookup a with
  | none => exact .inl (.inr ⟨_, by rw [argH_at ha hk e, hoOf_lst]⟩)
  | some o =>
    have e2 := KX a o hk
    rw [e] at e2
    obtain rfl := Option.some.inj e2
    exact .inr ⟨_, us.toArray, _, hk, rfl, rfl, rfl, by rw [List.size_toArray]; exact h1, by simpa using vals_toV h2⟩
theorem argT (KX : K.In h) (ar : ∀ a ∈ A, ArgOb h A a) {a : Addr} {vs : List Value} (ha : a ∈ A) (e : h.get? a = some { cls := .type "tuple", data := .seq vs.toArray }) : (∀ u ∈ vs, OkU A u) ∧ SqT K (argH K h A) a (vs.map toV) := by
  obtain ⟨us, h1, h2, h3⟩ := ar a ha
  have hu : us = vs := by
    rcases h3 with q | q
    · rw [e] at q
      exact absurd (Value.type.inj (seq_inj q).1) (by decide)
    · rw [e] at q
      exact (seq_inj q).2.symm
  subst hu
  refine ⟨h2, ?_⟩
  cases hk : K.lookup a with
  | none => exact .inl (.inr ⟨_, by rw [argH_at ha hk e, hoOf_tup]⟩)
  | some o =>
    have e2 := KX a o hk
    rw [e] at e2
    obtain rfl := Option.some.inj e2
    exact .inr ⟨_, us.toArray, _, hk, rfl, rfl, by rw [List.size_toArray]; exact h1, by simpa using vals_toV h2⟩
mutual
theorem dw_one {Pm : Params} (KX : K.In h) (ar : ∀ a ∈ A, ArgOb h A a) : ∀ (d : WData) (v : Value), Well Pm h v d → plW d = true → OkU A v → Dw K (argH K h A) (toV v) d
  | .none, _, x, _, _ => by
    cases x
    exact .non
  | .bool b, _, x, _, _ => by
    cases x
    exact .bl b
  | .int i, _, x, _, _ => by
    cases x
    exact .int i
  | .str s, _, x, _, _ => by
    cases x
    exact .str s
  | .bytes b, _, x, _, _ => by
    cases x
    have z := Dw.byt (K := K) (H := argH K h A) b.toArray
    exact z
  | .list ds, _, x, p, hu => by
    obtain ⟨a, vs, rfl, ho, hall⟩ := well_list x
    obtain ⟨h2, hs⟩ := argL KX ar hu ho
    exact .lst hs (dw_all KX ar ds _ hall p h2)
  | .tuple ds, _, x, p, hu => by
    obtain ⟨a, vs, rfl, ho, hall⟩ := well_tuple x
    obtain ⟨h2, hs⟩ := argT KX ar hu ho
    exact .tup hs (dw_all KX ar ds _ hall p h2)
  | .float _, _, _, p, _ => Bool.noConfusion (show false = true from p)
  | .dict _, _, _, p, _ => Bool.noConfusion (show false = true from p)
  | .bytearray _, _, _, p, _ => Bool.noConfusion (show false = true from p)
  | .set _, _, _, p, _ => Bool.noConfusion (show false = true from p)
  | .frozenset _, _, _, p, _ => Bool.noConfusion (show false = true from p)
  | .obj _ _, _, _, p, _ => Bool.noConfusion (show false = true from p)
theorem dw_all {Pm : Params} (KX : K.In h) (ar : ∀ a ∈ A, ArgOb h A a) : ∀ (ds : List WData) (vs : List Value), WellAll Pm h vs ds → plWs ds = true → (∀ u ∈ vs, OkU A u) → DwAll K (argH K h A) (vs.map toV) ds
  | [], _, x, _, _ => by
    cases x
    exact .nil
  | d :: ds, _, x, p, hu => by
    obtain ⟨v, vs, rfl, x1, x2⟩ := well_cons x
    have q : plW d = true ∧ plWs ds = true := Bool.and_eq_true_iff.mp p
    exact .cons (dw_one KX ar d v x1 q.1 (hu _ (List.mem_cons_self ..))) (dw_all KX ar ds vs x2 q.2 fun u m => hu u (List.mem_cons_of_mem _ m))
end
end
/-! ### the call -/
theorem spec_call {P : Program} {w : World} {K : PySem.W.Frag} {mg mb : Str → Option Value} {CX : CXT} {k : Nat} {fa : Addr} {fd : FuncData} {ps : List Str} {sp : Sp} {s₁ : Shared} {vals : List Value} {ds : List WData} {R : PySem.W.WRecords} {cl : Str → Option Addr} {d0 : WData}
    (KX : K.In s₁.heap) (hns : s₁.heap.Ns mainGlobals mg) (hb : s₁.heap.Ns builtinsNs mb) (hbb : ∀ x : Str, x ≠ "__name__" → mb x = bootBuiltins x) (hlim : s₁.heap.NoLimit) (hg : s₁.gens = #[])
    (hwl : WellAll w.params s₁.heap vals ds) (hpl : plWs ds = true) (hwt : ∀ d ∈ ds, d.weight ≤ 1048576) (hr : Room k callerA)
    (F : ∀ base : Heap, K.In base → base.Ns mainGlobals mg → FnOk P w K mg base CX k fa fd ps sp) (hbind : ∀ (s : Shared) (us : List Value), us.length = ps.length → BindsTo s fd ⟨us, []⟩ (ps.zip us)) (hlen : ds.length = ps.length)
    (hsp : ∀ (H : Hp) (xs : List V), OnlyF H → DwAll K H xs ds → sp xs H (fun v H' => Dw K H' v d0) fun _ _ _ => False)
    (hCX : ∀ H e s', CX [] H s₁ (fun _ _ _ => False) e s' → False) :
    codeAny (model P w) callerA (.call (.ref fa) ⟨vals, []⟩) (fun r s' => ∃ u as, r = .ok (.ret u) ∧ ReadsW R cl s'.heap u d0 as ∧ OldK s₁.heap s'.heap ∧ s'.os = s₁.os ∧ AllBare s'.gens) s₁ := by
  obtain ⟨A, ho, ar⟩ := area_all ds vals hwl hpl hwt
  have hO : OnlyF (argH K s₁.heap A) := argH_only ar
  have hok : HOk P w (argH K s₁.heap A) s₁.heap := argH_ok ar
  have hS := dw_all KX ar ds vals hwl hpl ho
  have hV := vals_toV ho
  have hK : ∀ b u, argH K s₁.heap A b = some u → K.lookup b = none := fun b u q => (argH_is ar q).1
  have noA : ∀ {b : Addr} {o : Obj} {es : Array DictEntry} {ep : Nat}, s₁.heap.get? b = some o → o.data = .dict es ep → argH K s₁.heap A b = none := fun {b o es ep} e d => by
    cases q : argH K s₁.heap A b with
    | none => rfl
    | some u =>
      obtain ⟨_, vs, _, _, ⟨e2, _⟩ | ⟨e2, _⟩⟩ := argH_is ar q
      · rw [e2] at e
        cases e
        have d' : Data.seq vs.toArray _ = Data.dict es ep := d
        cases d'
      · rw [e2] at e
        cases e
        have d' : Data.seq vs.toArray _ = Data.dict es ep := d
        cases d'
  generalize argH K s₁.heap A = H at hO hok hS hK noA
  have base_of : ∀ {b : Addr} {o : Obj}, s₁.heap.get? b = some o → H b = none → (hidT s₁.heap H).get? b = some o := fun e n => hidT_get e n
  have nsK : ∀ {b : Addr} {m : Str → Option Value}, s₁.heap.Ns b m → (hidT s₁.heap H).Ns b m := fun {b m} ⟨o, es, ep, e, d, r⟩ => ⟨o, es, ep, base_of e (noA e d), d, r⟩
  have nK : ∀ b o, K.lookup b = some o → H b = none := fun b o e => by
    cases q : H b with
    | none => rfl
    | some u =>
      rw [hK b u q] at e
      cases e
  have hKb : K.In (hidT s₁.heap H) := fun b o e => base_of (KX b o e) (nK b o e)
  have hM : Mod K mg (hidT s₁.heap H) := ⟨hKb, nsK hns, ⟨mb, nsK hb, hbb⟩, let ⟨mc, h1, h2⟩ := hlim; ⟨mc, nsK h1, h2⟩⟩
  have e0 : Env0 P w K mg (hidT s₁.heap H) callerA [] s₁ H := ⟨rfl, hM, fun b o e => of_hidT e, Nat.le_of_eq (hidT_size _ _), trivial, fun b hb => absurd (show b ∈ ([] : List Addr) from hb) (by simp), hok, .of_eq hg⟩
  have hl : vals.length = ps.length := by rw [wellAll_len hwl]; exact hlen
  refine codeAny_mono ((F _ hKb (nsK hns)).run callerA [] s₁ H ⟨vals, []⟩ vals (vals.map toV) _ _ hr e0 (hbind s₁ vals hl) hV (hsp H _ hO hS)) fun r s' x => ?_
  cases r with
  | error e => exact (hCX H e s' x).elim
  | ok fl =>
    cases fl with
    | next => exact False.elim x
    | brk => exact False.elim x
    | cont => exact False.elim x
    | ret u =>
      obtain ⟨v, H', os, bare, un, hok', r', q⟩ := x
      have kept : ∀ b o, s₁.heap.get? b = some o → s'.heap.get? b = some o := fun b o e => by
        cases q2 : H b with
        | none => exact un.keep b o e q2 (by intro z; exact absurd (show b ∈ ([] : List Addr) from z) (by simp)) (by simp)
        | some u2 =>
          rcases hO b with z | ⟨ob, u3, z⟩
          · rw [q2] at z
            cases z
          · have z2 := un.frzs b ob _ z
            obtain ⟨e1, _⟩ := hok b _ z
            obtain ⟨e2, _⟩ := hok' b _ z2
            rw [e] at e1
            cases e1
            exact e2
      have KX' : K.In s'.heap := fun b o e => kept b o (KX b o e)
      obtain ⟨as, hrd⟩ := Dw.reads (R := R) (cl := cl) hok' KX' d0 v u q r'
      exact ⟨u, as, rfl, hrd, OldK.of_keep kept, os, bare⟩
/-! ### the row -/
theorem layable_weight {ds : List WData} (h : WData.layableAll ds = true) : ∀ d ∈ ds, d.weight ≤ 1048576 := fun d hd =>
  (PySem.W.layableW_iff.mp (List.all_eq_true.mp h d hd)).2.2
theorem encAll_len : ∀ (cs : List Codec) (a : Codec.denoteAll cs), (Codec.encAll cs a).length = cs.length
  | [], _ => rfl
  | c :: cs, a => by
    show (Codec.encAll cs a.2).length + 1 = cs.length + 1
    rw [encAll_len cs a.2]
/-- the goal that k_headS leaves (case hc), from the promise of the row's def: whatever the arguments that the codecs let and the row asks for, the def gives what stands for enc (f ..) -/
theorem walk_spec {r : OpenSpec} {k : Nat} {q : Program} {loose : List Str} {XP : (Str → Option Value) → Heap → Prop} {YP : World → Heap → Prop} {d : DefRec} {K : Params → PySem.W.Frag} {CX : World → CXT} {ps : List Str} {sp : World → Sp}
    (hwell : r.wellSaid = true) (hdf : d.params.defaults = []) (hlen : r.args.length = ps.length) (hr : Room k callerA)
    (hY : ∀ (w : World) (h : Heap), YP w h → (K w.params).In h)
    (F : ∀ (w : World) (mg : Str → Option Value) (fa : Addr) (h : Heap), YP w h → (K w.params).In h → h.Ns mainGlobals mg → mg d.name = some (.ref fa) →
      ∃ fd : FuncData, (∀ (s : Shared) (us : List Value), us.length = ps.length → BindsTo s fd ⟨us, []⟩ (ps.zip us)) ∧
        ∀ base : Heap, (K w.params).In base → base.Ns mainGlobals mg → FnOk r.prog w (K w.params) mg base (CX w) k fa fd ps (sp w))
    (hsp : ∀ (w : World) (H : Hp) (xs : List V) (a : Codec.denoteAll r.args), OnlyF H → Codec.withinAll r.args a = true → Codec.app r.args r.asked a = true → DwAll (K w.params) H xs (Codec.encAll r.args a) →
      sp w xs H (fun v H' => Dw (K w.params) H' v (r.ret.enc (Codec.app r.args r.f a))) fun _ _ _ => False)
    (hCX : ∀ (w : World) (H : Hp) (s : Shared) (e : Value) (s' : Shared), CX w [] H s (fun _ _ _ => False) e s' → False) :
    PySem.W.WalkOS q loose XP YP r d [] (fun f vs => PySem.call f vs) := by
  intro w s_0 s₁ mg mb G Y fa o pm cd doc dV kV ho hd hcd hD hmg hg args vals as hpre hlay hrd hwl hlo
  obtain ⟨a, e1, e2⟩ := PySem.W.os_pre_some hpre
  obtain ⟨e3, hwi⟩ := Codec.encAll_of_decAll r.args args a e1
  subst e3
  have KX := hY w _ Y
  obtain ⟨fd, hb, hF⟩ := F w mg fa _ Y KX G.T.g hmg
  refine PySem.W.enter_call (codeAny_mono (spec_call (R := []) (cl := classAt s_0.heap) (d0 := r.ret.enc (Codec.app r.args r.f a)) KX G.T.g G.T.b G.T.builtins G.T.nolimit hg hwl (pl_encAll _ _) (layable_weight hlay) hr hF hb (by rw [encAll_len]; exact hlen)
    (fun H xs hO hS => hsp w H xs a hO hwi e2 hS) fun H e s' => hCX w H s₁ e s') fun r' s' hq => ?_)
  obtain ⟨u, as', rfl, h1, h2, h3, h4⟩ := hq
  exact ⟨.inl ⟨u, _, as', rfl, fun _ => rfl, h1, (OpenSpec.post_iff hwell hwi _ _).mpr rfl, fun z => Bool.noConfusion (show false = true from z)⟩, h2, h3, h4⟩
/-- the same where the promise hangs on the written part alone -/
theorem walk_specK {r : OpenSpec} {k : Nat} {q : Program} {loose : List Str} {XP : (Str → Option Value) → Heap → Prop} {YP : World → Heap → Prop} {d : DefRec} {K : Params → PySem.W.Frag} {CX : CXT} {ps : List Str} {sp : PySem.W.Frag → Sp}
    (hwell : r.wellSaid = true) (hdf : d.params.defaults = []) (hlen : r.args.length = ps.length) (hr : Room k callerA)
    (hY : ∀ (w : World) (h : Heap), YP w h → (K w.params).In h)
    (F : ∀ (w : World) (mg : Str → Option Value) (fa : Addr) (h : Heap), YP w h → (K w.params).In h → h.Ns mainGlobals mg → mg d.name = some (.ref fa) →
      ∃ fd : FuncData, (∀ (s : Shared) (us : List Value), us.length = ps.length → BindsTo s fd ⟨us, []⟩ (ps.zip us)) ∧
        ∀ base : Heap, (K w.params).In base → base.Ns mainGlobals mg → FnOk r.prog w (K w.params) mg base CX k fa fd ps (sp (K w.params)))
    (hsp : ∀ (K : PySem.W.Frag) (H : Hp) (xs : List V) (a : Codec.denoteAll r.args), OnlyF H → Codec.withinAll r.args a = true → Codec.app r.args r.asked a = true → DwAll K H xs (Codec.encAll r.args a) →
      sp K xs H (fun v H' => Dw K H' v (r.ret.enc (Codec.app r.args r.f a))) fun _ _ _ => False)
    (hCX : ∀ (H : Hp) (s : Shared) (e : Value) (s' : Shared), CX [] H s (fun _ _ _ => False) e s' → False) :
    PySem.W.WalkOS q loose XP YP r d [] (fun f vs => PySem.call f vs) :=
  walk_spec (K := K) (CX := fun _ => CX) (sp := fun w => sp (K w.params)) hwell hdf hlen hr hY F (fun w H xs a h1 h2 h3 h4 => hsp (K w.params) H xs a h1 h2 h3 h4) fun _ H s e s' => hCX H s e s'
end L2
-- rests on (row put in by the clerk, for the bench that shows a file only what it spells): KE.SpHead KE.OsShapes
end
set_option Elab.async false
set_option linter.all false
/-! The specification alone: what holds of every state that it reaches, and that a drain ends within its fuel. -/
namespace Nd
open Vbdcas
/-- how much a message may still bring about, with E0, E1 the machines' epochs -/
def w (E0 E1 : Nat) : Msg → Nat
  | .hello _ _ => 3
  | .req _ _ _ _ _ _ => 5
  | .ack p e _ => if e = (if p = 0 then E0 else E1) then 1 else 2
  | .news p e _ _ _ _ _ _ => if e = (if p = 0 then E0 else E1) then 2 else 1
def wsum (E0 E1 : Nat) : List (Nat × Msg) → Nat
  | [] => 0
  | x :: r => w E0 E1 x.2 + wsum E0 E1 r
/-- what a seat may still bring about -/
def phi (E : Nat) (x : Seat) : Nat := if x.epoch = E then 2 * (60 - x.acked) else 120
def mu (s : State) : Nat := wsum s.c0.epoch s.c1.epoch s.net + phi s.c0.epoch s.s0 + phi s.c1.epoch s.s1
theorem w_le (a b : Nat) (m : Msg) : w a b m ≤ 5 := by
  cases m <;> simp only [w] <;> (repeat' split) <;> omega
theorem wsum_le (a b : Nat) : ∀ l : List (Nat × Msg), wsum a b l ≤ 5 * l.length
  | [] => by simp [wsum]
  | x :: r => by
    have := w_le a b x.2
    have := wsum_le a b r
    simp only [wsum, List.length_cons]
    omega
theorem wsum_snoc (a b : Nat) (x : Nat × Msg) : ∀ l : List (Nat × Msg), wsum a b (l ++ [x]) = wsum a b l + w a b x.2
  | [] => by simp [wsum]
  | y :: r => by
    have := wsum_snoc a b x r
    simp only [List.cons_append, wsum]
    omega
theorem phi_le (E : Nat) (x : Seat) : phi E x ≤ 120 := by
  unfold phi
  split <;> omega
/-- what holds of a message on the net, with the machines' epochs and how many moves the log has, and the next number -/
def MsgOk (E0 E1 L : Nat) : Msg → Prop
  | .hello p e => p < 2 ∧ e ≤ (if p = 0 then E0 else E1)
  | .req p _ _ _ _ _ => p < 2
  | .ack p _ _ => p < 2
  | .news p _ f ms _ _ _ _ => p < 2 ∧ f + ms.length ≤ L ∧ ms.length ≤ 4
structure SeatOk (E L : Nat) (x : Seat) : Prop where
  ep : x.epoch ≤ E
  ack : x.acked ≤ L
structure CliOk (now L : Nat) (c : Client) : Prop where
  known : c.known.length ≤ L
  learned : c.learned ≤ now
/-- what holds of every state -/
structure Ok (s : State) : Prop where
  net : s.net.length ≤ 64
  log : s.log.length ≤ 60
  log0 : s.over = 0 → s.log.length < 60
  since : s.since ≤ s.now
  s0 : SeatOk s.c0.epoch s.log.length s.s0
  s1 : SeatOk s.c1.epoch s.log.length s.s1
  c0 : CliOk s.now s.log.length s.c0
  c1 : CliOk s.now s.log.length s.c1
  msg : ∀ x ∈ s.net, MsgOk s.c0.epoch s.c1.epoch s.log.length x.2
  num : ∀ x ∈ s.net, x.1 < s.next
  nod : (s.net.map (·.1)).Nodup
theorem MsgOk.mono {a b a' b' L L' : Nat} (h0 : a ≤ a') (h1 : b ≤ b') (h : L ≤ L') : ∀ {m : Msg}, MsgOk a b L m → MsgOk a' b' L' m
  | .hello p e, q => ⟨q.1, by have := q.2; revert this; split <;> omega⟩
  | .req _ _ _ _ _ _, q => q
  | .ack _ _ _, q => q
  | .news _ _ _ _ _ _ _ _, q => ⟨q.1, Nat.le_trans q.2.1 h, q.2.2⟩
/-! ### the parts keep it -/
theorem Ok.send {s : State} (h : Ok s) {m : Msg} (hm : MsgOk s.c0.epoch s.c1.epoch s.log.length m) : Ok (send s m) := by
  unfold Vbdcas.send NET
  split
  · exact ⟨h.net, h.log, h.log0, h.since, h.s0, h.s1, h.c0, h.c1, h.msg, fun x hx => Nat.lt_succ_of_lt (h.num x hx), h.nod⟩
  · next hn =>
    refine ⟨by simp; omega, h.log, h.log0, h.since, h.s0, h.s1, h.c0, h.c1, fun x hx => ?_, fun x hx => ?_, ?_⟩
    · rcases List.mem_append.mp hx with hx | hx
      · exact h.msg x hx
      · simp at hx
        subst hx
        exact hm
    · rcases List.mem_append.mp hx with hx | hx
      · exact Nat.lt_succ_of_lt (h.num x hx)
      · simp at hx
        subst hx
        exact Nat.lt_succ_self _
    · simp only [List.map_append, List.map_cons, List.map_nil]
      refine List.nodup_append.mpr ⟨h.nod, by simp, fun a ha b hb => ?_⟩
      simp at hb
      obtain ⟨x, hx, rfl⟩ := List.mem_map.mp ha
      have := h.num x hx
      omega
theorem mu_send (s : State) (m : Msg) : mu (send s m) ≤ mu s + w s.c0.epoch s.c1.epoch m := by
  unfold Vbdcas.send
  split
  · exact Nat.le_add_right _ _
  · unfold mu
    simp only [wsum_snoc]
    omega
theorem send_c0 (s : State) (m : Msg) : (send s m).c0 = s.c0 := by unfold Vbdcas.send; split <;> rfl
theorem send_c1 (s : State) (m : Msg) : (send s m).c1 = s.c1 := by unfold Vbdcas.send; split <;> rfl
/-- the same but for a seat's fields that don't matter -/
structure Like (s t : State) : Prop where
  c0 : t.c0 = s.c0
  c1 : t.c1 = s.c1
  mu : mu t ≤ mu s
theorem Like.refl (s : State) : Like s s := ⟨rfl, rfl, Nat.le_refl _⟩
theorem Like.trans {s t u : State} (a : Like s t) (b : Like t u) : Like s u := ⟨b.c0.trans a.c0, b.c1.trans a.c1, Nat.le_trans b.mu a.mu⟩
theorem seatOk_of {s : State} (h : Ok s) (p : Nat) : SeatOk (client s p).epoch s.log.length (seat s p) := by
  unfold client seat
  split
  · exact h.s0
  · exact h.s1
theorem cliOk_of {s : State} (h : Ok s) (p : Nat) : CliOk s.now s.log.length (client s p) := by
  unfold client
  split
  · exact h.c0
  · exact h.c1
theorem Ok.setSeat {s : State} (h : Ok s) {p : Nat} {x : Seat} (hx : SeatOk (client s p).epoch s.log.length x) : Ok (setSeat s p x) := by
  unfold Vbdcas.setSeat
  unfold client at hx
  split
  · next e =>
    rw [if_pos e] at hx
    exact ⟨h.net, h.log, h.log0, h.since, hx, h.s1, h.c0, h.c1, h.msg, h.num, h.nod⟩
  · next e =>
    rw [if_neg e] at hx
    exact ⟨h.net, h.log, h.log0, h.since, h.s0, hx, h.c0, h.c1, h.msg, h.num, h.nod⟩
theorem like_setSeat {s : State} {p : Nat} {x : Seat} (hx : phi (client s p).epoch x ≤ phi (client s p).epoch (seat s p)) : Like s (setSeat s p x) := by
  unfold Vbdcas.setSeat
  unfold client seat at hx
  split
  · next e =>
    simp only [if_pos e] at hx
    refine ⟨rfl, rfl, ?_⟩
    simp only [mu]
    omega
  · next e =>
    simp only [if_neg e] at hx
    refine ⟨rfl, rfl, ?_⟩
    simp only [mu]
    omega
theorem Ok.open_ {s : State} (h : Ok s) : Ok (open_ s) := by
  unfold Vbdcas.open_
  split
  · exact ⟨h.net, h.log, h.log0, Nat.le_refl _, h.s0, h.s1, h.c0, h.c1, h.msg, h.num, h.nod⟩
  · exact h
theorem like_open (s : State) : Like s (open_ s) := by
  unfold Vbdcas.open_
  split
  · exact ⟨rfl, rfl, Nat.le_refl _⟩
  · exact .refl s
theorem Ok.heard {s : State} (h : Ok s) (p : Nat) : Ok (heard s p) := by
  unfold Vbdcas.heard
  have q := seatOk_of h p
  exact (h.setSeat (p := p) (x := { seat s p with here := true }) ⟨q.ep, q.ack⟩).open_
theorem like_heard (s : State) (p : Nat) : Like s (heard s p) := by
  unfold Vbdcas.heard
  exact (like_setSeat (s := s) (p := p) (by unfold phi; exact Nat.le_refl _)).trans (like_open _)
theorem newsOk {s : State} (h : Ok s) {p : Nat} (hp : p < 2) : MsgOk s.c0.epoch s.c1.epoch s.log.length (newsFor s p) := by
  have q := seatOk_of h p
  refine ⟨hp, ?_, ?_⟩
  · simp only [List.length_take, List.length_drop, CHUNK]
    have := q.ack
    omega
  · simp only [List.length_take, CHUNK]
    omega
theorem Ok.tell {s : State} (h : Ok s) {p : Nat} (hp : p < 2) : Ok (tell s p) := by
  unfold Vbdcas.tell
  split
  · exact h.send (newsOk h hp)
  · exact h
theorem w_news (s : State) (p : Nat) : w s.c0.epoch s.c1.epoch (newsFor s p) ≤ 2 := by
  simp only [w, newsFor]
  (repeat' split) <;> omega
theorem w_newsOld (s : State) (p : Nat) (h : (seat s p).epoch ≠ (client s p).epoch) : w s.c0.epoch s.c1.epoch (newsFor s p) ≤ 1 := by
  simp only [w, newsFor]
  rw [if_neg]
  · exact Nat.le_refl _
  · intro e
    apply h
    rw [e]
    unfold client
    split <;> rfl
theorem tell_c0 (s : State) (p : Nat) : (tell s p).c0 = s.c0 := by unfold Vbdcas.tell; split; exact send_c0 _ _; rfl
theorem tell_c1 (s : State) (p : Nat) : (tell s p).c1 = s.c1 := by unfold Vbdcas.tell; split; exact send_c1 _ _; rfl
theorem mu_tell (s : State) (p : Nat) : mu (tell s p) ≤ mu s + 2 := by
  unfold Vbdcas.tell
  split
  · exact Nat.le_trans (mu_send _ _) (Nat.add_le_add_left (w_news s p) _)
  · omega
theorem mu_tellOld (s : State) (p : Nat) (h : (seat s p).epoch ≠ (client s p).epoch) : mu (tell s p) ≤ mu s + 1 := by
  unfold Vbdcas.tell
  split
  · exact Nat.le_trans (mu_send _ _) (Nat.add_le_add_left (w_newsOld s p h) _)
  · omega
theorem other_lt (p : Nat) : other p < 2 := by unfold other; omega
theorem phi_keep {E : Nat} {x y : Seat} (h1 : y.epoch = x.epoch) (h2 : y.acked = x.acked) : phi E y = phi E x := by
  unfold phi
  rw [h1, h2]
/-! ### a move looked at -/
theorem turn_lt (l : List Nat) : turnOf l < 2 := Nat.mod_lt _ (by decide)
theorem MsgOk.grow {s : State} (h : Ok s) {L : Nat} (hL : s.log.length ≤ L) : ∀ x ∈ s.net, MsgOk s.c0.epoch s.c1.epoch L x.2 :=
  fun x hx => (h.msg x hx).mono (Nat.le_refl _) (Nat.le_refl _) hL
theorem Ok.take {s : State} (h : Ok s) (p ply move think : Nat) : Ok (take_ s p ply move think) := by
  have q := seatOk_of h p
  unfold take_
  split
  · exact h
  · next hg =>
    have h0 : s.over = 0 := by
      have : goes s = true := by
        cases e : goes s with
        | true => rfl
        | false => exact absurd (Or.inl e) hg
      unfold goes at this
      simpa using this
    have hl := h.log0 h0
    dsimp only
    split
    · have k : Ok (Vbdcas.setSeat s p { seat s p with bank := 0, spent := (seat s p).spent + (seat s p).bank }) := h.setSeat ⟨q.ep, q.ack⟩
      exact ⟨k.net, k.log, fun e => absurd e (by simp), k.since, k.s0, k.s1, k.c0, k.c1, k.msg, k.num, k.nod⟩
    · have k : Ok (Vbdcas.setSeat s p { seat s p with bank := (seat s p).bank - max (min think (elapsed s)) (elapsed s - s.lag) + s.inc, spent := (seat s p).spent + max (min think (elapsed s)) (elapsed s - s.lag) }) := h.setSeat ⟨q.ep, q.ack⟩
      have el : (Vbdcas.setSeat s p { seat s p with bank := (seat s p).bank - max (min think (elapsed s)) (elapsed s - s.lag) + s.inc, spent := (seat s p).spent + max (min think (elapsed s)) (elapsed s - s.lag) }).log = s.log := by
        unfold Vbdcas.setSeat
        split <;> rfl
      have en : (Vbdcas.setSeat s p { seat s p with bank := (seat s p).bank - max (min think (elapsed s)) (elapsed s - s.lag) + s.inc, spent := (seat s p).spent + max (min think (elapsed s)) (elapsed s - s.lag) }).now = s.now := by
        unfold Vbdcas.setSeat
        split <;> rfl
      revert k el en
      generalize Vbdcas.setSeat s p _ = t
      intro k el en
      have kl : t.log.length ≤ (s.log ++ [move]).length := by rw [el, List.length_append]; exact Nat.le_add_right _ _
      have km := MsgOk.grow k kl
      have k60 : (s.log ++ [move]).length ≤ 60 := by simp; omega
      have a0 : SeatOk t.c0.epoch (s.log ++ [move]).length t.s0 := ⟨k.s0.ep, Nat.le_trans k.s0.ack kl⟩
      have a1 : SeatOk t.c1.epoch (s.log ++ [move]).length t.s1 := ⟨k.s1.ep, Nat.le_trans k.s1.ack kl⟩
      have b0 : CliOk t.now (s.log ++ [move]).length t.c0 := ⟨Nat.le_trans k.c0.known kl, k.c0.learned⟩
      have b1 : CliOk t.now (s.log ++ [move]).length t.c1 := ⟨Nat.le_trans k.c1.known kl, k.c1.learned⟩
      split
      · exact ⟨k.net, k60, fun e => absurd e (by simp), Nat.le_of_eq en.symm, a0, a1, b0, b1, km, k.num, k.nod⟩
      · next hn => exact ⟨k.net, k60, fun _ => Nat.lt_of_not_le hn, Nat.le_of_eq en.symm, a0, a1, b0, b1, km, k.num, k.nod⟩
theorem like_with {s t : State} (a : Like s t) {u : State} (h0 : u.c0 = t.c0) (h1 : u.c1 = t.c1) (h2 : u.net = t.net) (h3 : u.s0 = t.s0) (h4 : u.s1 = t.s1) : Like s u := by
  refine ⟨h0.trans a.c0, h1.trans a.c1, ?_⟩
  have : mu u = mu t := by unfold mu; rw [h0, h1, h2, h3, h4]
  rw [this]
  exact a.mu
theorem like_take (s : State) (p ply move think : Nat) : Like s (take_ s p ply move think) := by
  unfold take_
  split
  · exact .refl s
  · dsimp only
    split
    · exact like_with (like_setSeat (s := s) (p := p) (x := { seat s p with bank := 0, spent := (seat s p).spent + (seat s p).bank }) (Nat.le_of_eq (phi_keep rfl rfl))) rfl rfl rfl rfl rfl
    · split
      · exact like_with (like_setSeat (s := s) (p := p) (x := { seat s p with bank := (seat s p).bank - max (min think (elapsed s)) (elapsed s - s.lag) + s.inc, spent := (seat s p).spent + max (min think (elapsed s)) (elapsed s - s.lag) }) (Nat.le_of_eq (phi_keep rfl rfl))) rfl rfl rfl rfl rfl
      · exact like_with (like_setSeat (s := s) (p := p) (x := { seat s p with bank := (seat s p).bank - max (min think (elapsed s)) (elapsed s - s.lag) + s.inc, spent := (seat s p).spent + max (min think (elapsed s)) (elapsed s - s.lag) }) (Nat.le_of_eq (phi_keep rfl rfl))) rfl rfl rfl rfl rfl
/-! ### a message arrives -/
theorem seat_setSeat (s : State) (p : Nat) (x : Seat) : seat (setSeat s p x) p = x := by
  unfold seat Vbdcas.setSeat
  by_cases h : p = 0 <;> simp [h]
theorem client_setSeat (s : State) (p q : Nat) (x : Seat) : client (setSeat s p x) q = client s q := by
  unfold client Vbdcas.setSeat
  by_cases h : p = 0 <;> simp [h]
theorem log_setSeat (s : State) (p : Nat) (x : Seat) : (setSeat s p x).log = s.log := by
  unfold Vbdcas.setSeat
  split <;> rfl
theorem like_client {s t : State} (a : Like s t) (p : Nat) : client t p = client s p := by
  unfold client
  rw [a.c0, a.c1]
theorem log_heard (s : State) (p : Nat) : (heard s p).log = s.log := by
  unfold Vbdcas.heard Vbdcas.open_
  split <;> exact log_setSeat _ _ _
theorem seat_heard (s : State) (p : Nat) : seat (heard s p) p = { seat s p with here := true } := by
  unfold Vbdcas.heard Vbdcas.open_
  split
  · exact seat_setSeat s p _
  · exact seat_setSeat s p _
theorem phi_raise {E : Nat} {x : Seat} {e : Nat} (h : x.epoch < e) (hx : e ≤ E) : phi E { x with epoch := e, handled := 0, acked := 0 } ≤ phi E x := by
  unfold phi
  dsimp only
  rw [if_neg (show ¬ x.epoch = E by omega)]
  split <;> omega
theorem ok_house {s : State} (h : Ok s) {m : Msg} (hm : MsgOk s.c0.epoch s.c1.epoch s.log.length m) : Ok (house s m) := by
  cases m with
  | hello p e =>
    obtain ⟨hp, he⟩ := hm
    have he' : e ≤ (client s p).epoch := by
      unfold client
      split
      · next q => rw [if_pos q] at he; exact he
      · next q => rw [if_neg q] at he; exact he
    unfold house
    dsimp only
    split
    · exact h
    · split
      · exact ((h.setSeat (p := p) (x := { seat s p with epoch := e, handled := 0, acked := 0 }) ⟨he', Nat.zero_le _⟩).heard p).tell hp
      · exact (h.heard p).tell hp
  | req p e id ply move think =>
    have hp : p < 2 := hm
    unfold house
    dsimp only
    split
    · exact h
    · split
      · have k := (h.heard p).take p ply move think
        revert k
        generalize take_ (heard s p) p ply move think = t
        intro k
        have q := seatOk_of k p
        exact ((k.setSeat (p := p) (x := { seat t p with handled := id }) ⟨q.ep, q.ack⟩).tell hp).tell (other_lt p)
      · exact (h.heard p).tell hp
  | ack p e n =>
    have hp : p < 2 := hm
    unfold house
    dsimp only
    split
    · exact h
    · split
      · next hn =>
        have k := h.heard p
        revert k hn
        generalize heard s p = t
        intro hn k
        have q := seatOk_of k p
        have k2 : Ok (Vbdcas.setSeat t p { seat t p with acked := n }) := k.setSeat ⟨q.ep, hn.2⟩
        split
        · exact k2.tell hp
        · exact k2
      · exact h.heard p
  | news _ _ _ _ _ _ _ _ => exact h
theorem mu_house {s : State} (h : Ok s) {m : Msg} (hm : MsgOk s.c0.epoch s.c1.epoch s.log.length m) (hn : ∀ p e f ms hd b0 b1 ov, m ≠ .news p e f ms hd b0 b1 ov) : mu (house s m) + 1 ≤ mu s + w s.c0.epoch s.c1.epoch m := by
  cases m with
  | hello p e =>
    obtain ⟨hp, he⟩ := hm
    have he' : e ≤ (client s p).epoch := by
      unfold client
      split
      · next q => rw [if_pos q] at he; exact he
      · next q => rw [if_neg q] at he; exact he
    unfold house
    dsimp only [w]
    split
    · omega
    · split
      · next hr =>
        have k := (like_setSeat (s := s) (p := p) (x := { seat s p with epoch := e, handled := 0, acked := 0 }) (phi_raise hr he')).trans (like_heard _ p)
        have := mu_tell (heard (Vbdcas.setSeat s p { seat s p with epoch := e, handled := 0, acked := 0 }) p) p
        have := k.mu
        dsimp only at *
        omega
      · have := mu_tell (heard s p) p
        have := (like_heard s p).mu
        omega
  | req p e id ply move think =>
    unfold house
    dsimp only [w]
    split
    · omega
    · split
      · have k := (like_heard s p).trans (like_take (heard s p) p ply move think)
        revert k
        generalize take_ (heard s p) p ply move think = t
        intro k
        have k2 := k.trans (like_setSeat (s := t) (p := p) (x := { seat t p with handled := id }) (Nat.le_of_eq (phi_keep rfl rfl)))
        have := k2.mu
        have := mu_tell (Vbdcas.setSeat t p { seat t p with handled := id }) p
        have := mu_tell (tell (Vbdcas.setSeat t p { seat t p with handled := id }) p) (other p)
        dsimp only at *
        omega
      · have := mu_tell (heard s p) p
        have := (like_heard s p).mu
        omega
  | ack p e n =>
    have ew : w s.c0.epoch s.c1.epoch (.ack p e n) = if e = (client s p).epoch then 1 else 2 := by
      simp only [w, client]
      split <;> rfl
    rw [ew]
    have ew1 : 1 ≤ (if e = (client s p).epoch then 1 else 2) := by split <;> omega
    unfold house
    dsimp only
    split
    · omega
    · next hee =>
      have hee' : e = (seat s p).epoch := Classical.not_not.mp hee
      have lh := like_heard s p
      split
      · next hn =>
        have sh := seat_heard s p
        have ok := (h.heard p).log
        have cl := like_client lh p
        revert lh hn sh ok cl
        generalize heard s p = t
        intro lh hn sh ok cl
        have hS : (seat t p).epoch = e := by rw [sh]; exact hee'.symm
        have hu : ∀ x : Seat, client (Vbdcas.setSeat t p x) p = client s p := fun x => (client_setSeat t p p x).trans cl
        by_cases q : e = (client s p).epoch
        · rw [if_pos q]
          -- acked grows, in the machine's own epoch
          have e1 : phi (client t p).epoch { seat t p with acked := n } + 2 ≤ phi (client t p).epoch (seat t p) := by
            unfold phi
            dsimp only
            rw [if_pos (by rw [hS, cl]; exact q), if_pos (by rw [hS, cl]; exact q)]
            omega
          have e2 : mu (Vbdcas.setSeat t p { seat t p with acked := n }) + 2 ≤ mu t := by
            unfold Vbdcas.setSeat client seat at *
            by_cases hp0 : p = 0
            · simp only [hp0, if_true, mu] at e1 ⊢
              omega
            · simp only [hp0, if_false, mu] at e1 ⊢
              omega
          have := lh.mu
          split
          · have := mu_tell (Vbdcas.setSeat t p { seat t p with acked := n }) p
            dsimp only at *
            omega
          · dsimp only at *
            omega
        · rw [if_neg q]
          have e2 : mu (Vbdcas.setSeat t p { seat t p with acked := n }) ≤ mu t := by
            refine (like_setSeat (s := t) (p := p) (x := { seat t p with acked := n }) ?_).mu
            unfold phi
            dsimp only
            rw [if_neg (by rw [hS, cl]; exact q), if_neg (by rw [hS, cl]; exact q)]
            exact Nat.le_refl _
          have := lh.mu
          split
          · have := mu_tellOld (Vbdcas.setSeat t p { seat t p with acked := n }) p (by rw [hu, seat_setSeat]; show (seat t p).epoch ≠ _; rw [hS]; exact q)
            dsimp only at *
            omega
          · dsimp only at *
            omega
      · have := lh.mu
        omega
  | news p e f ms hd b0 b1 ov => exact absurd rfl (hn p e f ms hd b0 b1 ov)
/-- what a machine makes of news -/
def newKnown (c : Client) (f : Nat) (ms : List Nat) : List Nat := if f ≤ c.known.length ∧ c.known.length < f + ms.length then c.known ++ ms.drop (c.known.length - f) else c.known
def newCli (c : Client) (now p f : Nat) (ms : List Nat) (h b0 b1 ov : Nat) : Client := { c with
  on := true, known := newKnown c f ms,
  ask := c.ask.bind fun a => if a.id ≤ h then none else some a,
  learned := if (decide (c.known.length < (newKnown c f ms).length) || !c.on) && turnOf (newKnown c f ms) == p then now else c.learned,
  b0 := if decide (c.known.length ≤ f + ms.length) = true then b0 else c.b0, b1 := if decide (c.known.length ≤ f + ms.length) = true then b1 else c.b1, over := if ov = 0 then c.over else ov }
theorem machine_eq (s : State) (p e f : Nat) (ms : List Nat) (h b0 b1 ov : Nat) : machine s (.news p e f ms h b0 b1 ov) = if e ≠ (client s p).epoch then s else send (setClient s p (newCli (client s p) s.now p f ms h b0 b1 ov)) (.ack p e (newKnown (client s p) f ms).length) := rfl
theorem newKnown_le {c : Client} {f L : Nat} {ms : List Nat} (h1 : c.known.length ≤ L) (h2 : f + ms.length ≤ L) : (newKnown c f ms).length ≤ L := by
  unfold newKnown
  split
  · simp only [List.length_append, List.length_drop]
    omega
  · exact h1
theorem Ok.setClient {s : State} (h : Ok s) {p : Nat} {c : Client} (he : (client s p).epoch ≤ c.epoch) (hc : CliOk s.now s.log.length c) : Ok (setClient s p c) := by
  unfold Vbdcas.setClient
  unfold client at he
  split
  · next e =>
    rw [if_pos e] at he
    exact ⟨h.net, h.log, h.log0, h.since, ⟨Nat.le_trans h.s0.ep he, h.s0.ack⟩, h.s1, hc, h.c1, fun x hx => (h.msg x hx).mono he (Nat.le_refl _) (Nat.le_refl _), h.num, h.nod⟩
  · next e =>
    rw [if_neg e] at he
    exact ⟨h.net, h.log, h.log0, h.since, h.s0, ⟨Nat.le_trans h.s1.ep he, h.s1.ack⟩, h.c0, hc, fun x hx => (h.msg x hx).mono (Nat.le_refl _) he (Nat.le_refl _), h.num, h.nod⟩
theorem newCli_ok {c : Client} {now L : Nat} (h : CliOk now L c) {p f : Nat} {ms : List Nat} {hd b0 b1 ov : Nat} (hf : f + ms.length ≤ L) : CliOk now L (newCli c now p f ms hd b0 b1 ov) := by
  refine ⟨newKnown_le h.known hf, ?_⟩
  unfold newCli
  dsimp only
  split
  · exact Nat.le_refl _
  · exact h.learned
theorem ok_machine {s : State} (h : Ok s) {m : Msg} (hm : MsgOk s.c0.epoch s.c1.epoch s.log.length m) : Ok (machine s m) := by
  cases m with
  | news p e f ms hd b0 b1 ov =>
    rw [machine_eq]
    split
    · exact h
    · exact (h.setClient (p := p) (c := newCli (client s p) s.now p f ms hd b0 b1 ov) (Nat.le_refl _) (newCli_ok (cliOk_of h p) hm.2.1)).send hm.1
  | hello _ _ => exact h
  | req _ _ _ _ _ _ => exact h
  | ack _ _ _ => exact h
theorem mu_setClient {s : State} {p : Nat} {c : Client} (he : c.epoch = (client s p).epoch) : mu (setClient s p c) = mu s ∧ (setClient s p c).c0.epoch = s.c0.epoch ∧ (setClient s p c).c1.epoch = s.c1.epoch := by
  unfold Vbdcas.setClient
  unfold client at he
  split
  · next e =>
    rw [if_pos e] at he
    exact ⟨by simp only [mu, he], he, rfl⟩
  · next e =>
    rw [if_neg e] at he
    exact ⟨by simp only [mu, he], rfl, he⟩
theorem mu_machine {s : State} {p e f : Nat} {ms : List Nat} {hd b0 b1 ov : Nat} : mu (machine s (.news p e f ms hd b0 b1 ov)) + 1 ≤ mu s + w s.c0.epoch s.c1.epoch (.news p e f ms hd b0 b1 ov) := by
  rw [machine_eq]
  have ew : w s.c0.epoch s.c1.epoch (.news p e f ms hd b0 b1 ov) = if e = (client s p).epoch then 2 else 1 := by
    simp only [w, client]
    split <;> rfl
  rw [ew]
  split
  · (repeat' split) <;> omega
  · next q =>
    have q' := Classical.not_not.mp q
    obtain ⟨a, b, c⟩ := mu_setClient (s := s) (p := p) (c := newCli (client s p) s.now p f ms hd b0 b1 ov) rfl
    have := mu_send (setClient s p (newCli (client s p) s.now p f ms hd b0 b1 ov)) (.ack p e (newKnown (client s p) f ms).length)
    rw [a, b, c] at this
    have e2 : w s.c0.epoch s.c1.epoch (.ack p e (newKnown (client s p) f ms).length) = if e = (client s p).epoch then 1 else 2 := by
      simp only [w, client]
      split <;> rfl
    rw [e2, if_pos q'] at this
    rw [if_pos q']
    omega
theorem ok_arrive {s : State} (h : Ok s) {m : Msg} (hm : MsgOk s.c0.epoch s.c1.epoch s.log.length m) : Ok (arrive s m) := by
  cases m with
  | news p e f ms hd b0 b1 ov => exact ok_machine h hm
  | hello _ _ => exact ok_house h hm
  | req _ _ _ _ _ _ => exact ok_house h hm
  | ack _ _ _ => exact ok_house h hm
theorem mu_arrive {s : State} (h : Ok s) {m : Msg} (hm : MsgOk s.c0.epoch s.c1.epoch s.log.length m) : mu (arrive s m) + 1 ≤ mu s + w s.c0.epoch s.c1.epoch m := by
  cases m with
  | news p e f ms hd b0 b1 ov => exact mu_machine
  | hello _ _ => exact mu_house h hm (fun _ _ _ _ _ _ _ _ => by simp)
  | req _ _ _ _ _ _ => exact mu_house h hm (fun _ _ _ _ _ _ _ _ => by simp)
  | ack _ _ _ => exact mu_house h hm (fun _ _ _ _ _ _ _ _ => by simp)
theorem Ok.rest {s : State} (h : Ok s) {l : List (Nat × Msg)} (hl : l.Sublist s.net) : Ok { s with net := l } :=
  ⟨Nat.le_trans hl.length_le h.net, h.log, h.log0, h.since, h.s0, h.s1, h.c0, h.c1, fun x hx => h.msg x (hl.subset hx), fun x hx => h.num x (hl.subset hx), (hl.map _).nodup h.nod⟩
/-- one turn of a drain -/
theorem turn {s : State} (h : Ok s) {n : Nat} {m : Msg} {r : List (Nat × Msg)} (e : s.net = (n, m) :: r) : Ok (arrive { s with net := r } m) ∧ mu (arrive { s with net := r } m) < mu s := by
  have k : Ok { s with net := r } := h.rest (by rw [e]; exact List.sublist_cons_self _ _)
  have hm : MsgOk s.c0.epoch s.c1.epoch s.log.length m := h.msg (n, m) (by rw [e]; exact List.mem_cons_self)
  have a := mu_arrive k (m := m) hm
  have b : mu s = mu { s with net := r } + w s.c0.epoch s.c1.epoch m := by
    simp only [mu, e, wsum]
    omega
  exact ⟨ok_arrive k hm, by dsimp only at *; omega⟩
theorem mu_le {s : State} (h : Ok s) : mu s ≤ 560 := by
  have := wsum_le s.c0.epoch s.c1.epoch s.net
  have := phi_le s.c0.epoch s.s0
  have := phi_le s.c1.epoch s.s1
  have := h.net
  unfold mu
  omega
/-- with fuel enough a drain empties the net -/
theorem drain_ok : ∀ (k : Nat) {s : State}, Ok s → mu s ≤ k → Ok (drain k s) ∧ (drain k s).net = []
  | 0, s, h, hk => by
    refine ⟨h, ?_⟩
    show s.net = []
    cases e : s.net with
    | nil => rfl
    | cons x r =>
      have := (turn h (n := x.1) (m := x.2) (r := r) e).2
      omega
  | k + 1, s, h, hk => by
    unfold drain
    split
    · next e => exact ⟨h, e⟩
    · next n m r e =>
      have q := turn h e
      exact drain_ok k q.1 (by omega)
theorem Ok.again {s : State} (h : Ok s) {p : Nat} (hp : p < 2) : Ok (again s p) := by
  unfold Vbdcas.again
  dsimp only
  split
  · refine h.send ⟨hp, ?_⟩
    unfold client
    split <;> exact Nat.le_refl _
  · split
    · exact h.send hp
    · exact h.send hp
theorem Ok.nudge {s : State} (h : Ok s) : Ok (nudge s) := (h.tell (by decide)).tell (by decide)
theorem Ok.ready {s : State} (h : Ok s) : Ok (Vbdcas.nudge (Vbdcas.again (Vbdcas.again s 0) 1)) := ((h.again (p := 0) (by decide)).again (p := 1) (by decide)).nudge
theorem Ok.round {s : State} (h : Ok s) : Ok (round s) ∧ (round s).net = [] := by
  unfold Vbdcas.round
  exact drain_ok FUEL h.ready (Nat.le_trans (mu_le h.ready) (by decide))
theorem Ok.rounds : ∀ (k : Nat) {s : State}, Ok s → Ok (rounds k s)
  | 0, _, h => h
  | k + 1, _, h => Ok.rounds k h.round.1
theorem Ok.flag {s : State} (h : Ok s) : Ok (flag s) := by
  have q := seatOk_of h (turnOf s.log)
  unfold Vbdcas.flag
  dsimp only
  split
  · have k : Ok (Vbdcas.setSeat s (turnOf s.log) { seat s (turnOf s.log) with bank := 0, spent := (seat s (turnOf s.log)).spent + (seat s (turnOf s.log)).bank }) := h.setSeat ⟨q.ep, q.ack⟩
    exact ⟨k.net, k.log, fun e => absurd e (by simp), k.since, k.s0, k.s1, k.c0, k.c1, k.msg, k.num, k.nod⟩
  · exact h
theorem Ok.tick {s : State} (h : Ok s) (n : Nat) : Ok { s with now := s.now + n } :=
  ⟨h.net, h.log, h.log0, Nat.le_trans h.since (Nat.le_add_right _ _), h.s0, h.s1, ⟨h.c0.known, Nat.le_trans h.c0.learned (Nat.le_add_right _ _)⟩, ⟨h.c1.known, Nat.le_trans h.c1.learned (Nat.le_add_right _ _)⟩, h.msg, h.num, h.nod⟩
theorem Ok.restart {s : State} (h : Ok s) : Ok (restart s) := by
  have q := seatOk_of h (turnOf s.log)
  unfold Vbdcas.restart
  dsimp only
  have k : Ok (Vbdcas.setSeat s (turnOf s.log) { seat s (turnOf s.log) with bank := (seat s (turnOf s.log)).bank - min (seat s (turnOf s.log)).bank (elapsed s), spent := (seat s (turnOf s.log)).spent + min (seat s (turnOf s.log)).bank (elapsed s) }) := h.setSeat ⟨q.ep, q.ack⟩
  exact ⟨k.net, k.log, k.log0, k.since, ⟨k.s0.ep, k.s0.ack⟩, ⟨k.s1.ep, k.s1.ack⟩, k.c0, k.c1, k.msg, k.num, k.nod⟩
theorem Ok.without {s : State} (h : Ok s) (i : Int) : Ok (without s i) := h.rest List.filter_sublist
theorem find_mem {s : State} {i : Int} {m : Msg} (e : find s i = some m) : ∃ n : Nat, (n, m) ∈ s.net ∧ (n : Int) = i := by
  unfold find at e
  cases q : s.net.find? (fun x => (x.1 : Int) == i) with
  | none => rw [q] at e; cases e
  | some x =>
    rw [q] at e
    have e2 : x.2 = m := Option.some.inj e
    refine ⟨x.1, ?_, ?_⟩
    · rw [← e2]
      exact List.mem_of_find?_eq_some q
    · have := List.find?_some q
      simpa using this
theorem ok_does {s : State} (h : Ok s) (c : Call) : Ok (does s c).1 := by
  cases c with
  | set _ _ _ _ => exact h
  | tick ms =>
    simp only [does]
    split
    · exact h
    · exact (h.tick _).flag
  | press p move =>
    simp only [does]
    split
    · exact h
    · next hr =>
      have hp : p.toNat < 2 := by
        have : ¬ from_ p 0 1 = false := fun e => hr (Or.inl e)
        simp [from_] at this
        omega
      split
      · exact h
      · split
        · exact h
        · have q := cliOk_of h p.toNat
          exact (h.setClient (p := p.toNat) (c := { client s p.toNat with nextId := (client s p.toNat).nextId + 1, ask := some { id := (client s p.toNat).nextId, ply := (client s p.toNat).known.length, move := move.toNat, think := s.now - (client s p.toNat).learned } }) (Nat.le_refl _) ⟨q.known, q.learned⟩).send hp
  | again p =>
    simp only [does]
    split
    · exact h
    · next hr =>
      simp [from_] at hr
      exact h.again (by omega)
  | nudge => exact h.nudge
  | deliver i =>
    simp only [does]
    split
    · exact h
    · next m e =>
      obtain ⟨n, hn, _⟩ := find_mem e
      exact ok_arrive (h.without i) (h.msg _ hn)
  | drop i =>
    simp only [does]
    split
    · exact h
    · exact h.without i
  | double i =>
    simp only [does]
    split
    · exact h
    · next m e =>
      obtain ⟨n, hn, _⟩ := find_mem e
      split
      · exact h
      · exact h.send (h.msg _ hn)
  | crash p =>
    simp only [does]
    split
    · exact h
    · exact h.setClient (Nat.le_succ _) ⟨Nat.zero_le _, Nat.zero_le _⟩
  | restart => exact h.restart
  | rounds k =>
    simp only [does]
    split
    · exact h
    · exact Ok.rounds _ h
  | net => exact h
  | house => exact h
  | client p =>
    simp only [does]
    split <;> exact h
  | log => exact h
theorem ok_new (b0 b1 inc lag : Nat) : Ok { ready := true, inc := inc, lag := lag, s0 := { bank := b0 }, s1 := { bank := b1 } } :=
  ⟨Nat.zero_le _, Nat.zero_le _, fun _ => Nat.succ_pos _, Nat.le_refl _, ⟨Nat.zero_le _, Nat.zero_le _⟩, ⟨Nat.zero_le _, Nat.zero_le _⟩, ⟨Nat.zero_le _, Nat.zero_le _⟩, ⟨Nat.zero_le _, Nat.zero_le _⟩, fun x hx => absurd hx (by simp), fun x hx => absurd hx (by simp), by simp⟩
theorem ok_step {s : State} (h : Ok s) (c : Call) : Ok (step s c).1 := by
  unfold step
  split
  · split
    · exact h
    · exact ok_new _ _ _ _
  · split
    · exact h
    · exact ok_does h _
theorem ok_start : Ok start := ⟨by decide, by decide, fun _ => by decide, Nat.le_refl _, ⟨by decide, by decide⟩, ⟨by decide, by decide⟩, ⟨by decide, by decide⟩, ⟨by decide, by decide⟩, fun x hx => absurd hx (by simp [start]), fun x hx => absurd hx (by simp [start]), by simp [start]⟩
/-! ### how long an answer is -/
theorem row_len {E0 E1 L : Nat} {m : Msg} (h : MsgOk E0 E1 L m) : (row m).length ≤ 13 := by
  cases m with
  | hello _ _ => exact Nat.le_of_ble_eq_true rfl
  | req _ _ _ _ _ _ => exact Nat.le_of_ble_eq_true rfl
  | ack _ _ _ => exact Nat.le_of_ble_eq_true rfl
  | news p e f ms hd b0 b1 ov =>
    have := h.2.2
    simp only [row, List.length_append, List.length_cons, List.length_nil]
    omega
theorem rows_len {E0 E1 L : Nat} : ∀ l : List (Nat × Msg), (∀ x ∈ l, MsgOk E0 E1 L x.2) → (l.flatMap fun x => x.1 :: row x.2).length ≤ 14 * l.length
  | [], _ => by simp
  | x :: r, h => by
    have a := row_len (h x List.mem_cons_self)
    have b := rows_len r fun y hy => h y (List.mem_cons_of_mem _ hy)
    simp only [List.flatMap_cons, List.length_append, List.length_cons]
    omega
theorem yes_len (s : State) (l : List Nat) : (yes s l).2.length = l.length + 1 := by simp [yes]
theorem no_len (s : State) (k : Nat) : (no s k).2.length = 1 := rfl
theorem does_len {s : State} (h : Ok s) (c : Call) : (does s c).2.length ≤ 1000 := by
  cases c with
  | set _ _ _ _ => exact Nat.le_of_ble_eq_true rfl
  | tick ms => simp only [does]; (repeat' split) <;> simp [yes, no]
  | press p move => simp only [does]; (repeat' split) <;> simp [yes, no]
  | again p => simp only [does]; (repeat' split) <;> simp [yes, no]
  | nudge => simp [does, yes]
  | deliver i => simp only [does]; (repeat' split) <;> simp [yes, no]
  | drop i => simp only [does]; (repeat' split) <;> simp [yes, no]
  | double i => simp only [does]; (repeat' split) <;> simp [yes, no]
  | crash p => simp only [does]; (repeat' split) <;> simp [yes, no]
  | restart => simp [does, yes]
  | rounds k => simp only [does]; (repeat' split) <;> simp [yes, no]
  | net =>
    have a := rows_len s.net h.msg
    have b := h.net
    simp only [does, yes_len]
    omega
  | house => simp [does, yes, seatRow]
  | client p =>
    simp only [does]
    split
    · simp [no]
    · have a := (cliOk_of h p.toNat).known
      have b := h.log
      simp only [yes_len, List.length_append, List.length_cons, List.length_nil]
      omega
  | log =>
    have b := h.log
    simp only [does, yes_len]
    omega
theorem step_len {s : State} (h : Ok s) (c : Call) : (step s c).2.length ≤ 1000 := by
  unfold step
  split
  · split <;> simp [no, yes]
  · split
    · simp [no]
    · exact does_len h _
end Nd

set_option Elab.async false
set_option linter.all false
/-! The specification's reading of the list of calls, and its answers, step by step. -/
namespace Nd
/-- how many numbers each call has -/
def hm : List Nat := [4, 1, 2, 1, 0, 1, 1, 1, 1, 0, 1, 0, 0, 1, 0]
theorem shape_some {p : Int} {n k : Nat} (h : PyVbdcas.shape p = some (n, k)) : k = 0 ∧ ∃ q : Nat, p = (q : Int) ∧ q ≤ 14 ∧ hm[q]? = some n := by
  unfold PyVbdcas.shape at h
  by_cases e0 : p = 0
  · rw [if_pos e0] at h
    obtain ⟨rfl, rfl⟩ := Prod.mk.inj (Option.some.inj h)
    exact ⟨rfl, 0, e0, by decide, rfl⟩
  by_cases e1 : p = 1
  · rw [if_neg e0, if_pos e1] at h
    obtain ⟨rfl, rfl⟩ := Prod.mk.inj (Option.some.inj h)
    exact ⟨rfl, 1, e1, by decide, rfl⟩
  by_cases e2 : p = 2
  · rw [if_neg e0, if_neg e1, if_pos e2] at h
    obtain ⟨rfl, rfl⟩ := Prod.mk.inj (Option.some.inj h)
    exact ⟨rfl, 2, e2, by decide, rfl⟩
  by_cases e3 : p = 3
  · rw [if_neg e0, if_neg e1, if_neg e2, if_pos e3] at h
    obtain ⟨rfl, rfl⟩ := Prod.mk.inj (Option.some.inj h)
    exact ⟨rfl, 3, e3, by decide, rfl⟩
  by_cases e4 : p = 4
  · rw [if_neg e0, if_neg e1, if_neg e2, if_neg e3, if_pos e4] at h
    obtain ⟨rfl, rfl⟩ := Prod.mk.inj (Option.some.inj h)
    exact ⟨rfl, 4, e4, by decide, rfl⟩
  by_cases e5 : p = 5
  · rw [if_neg e0, if_neg e1, if_neg e2, if_neg e3, if_neg e4, if_pos e5] at h
    obtain ⟨rfl, rfl⟩ := Prod.mk.inj (Option.some.inj h)
    exact ⟨rfl, 5, e5, by decide, rfl⟩
  by_cases e6 : p = 6
  · rw [if_neg e0, if_neg e1, if_neg e2, if_neg e3, if_neg e4, if_neg e5, if_pos e6] at h
    obtain ⟨rfl, rfl⟩ := Prod.mk.inj (Option.some.inj h)
    exact ⟨rfl, 6, e6, by decide, rfl⟩
  by_cases e7 : p = 7
  · rw [if_neg e0, if_neg e1, if_neg e2, if_neg e3, if_neg e4, if_neg e5, if_neg e6, if_pos e7] at h
    obtain ⟨rfl, rfl⟩ := Prod.mk.inj (Option.some.inj h)
    exact ⟨rfl, 7, e7, by decide, rfl⟩
  by_cases e8 : p = 8
  · rw [if_neg e0, if_neg e1, if_neg e2, if_neg e3, if_neg e4, if_neg e5, if_neg e6, if_neg e7, if_pos e8] at h
    obtain ⟨rfl, rfl⟩ := Prod.mk.inj (Option.some.inj h)
    exact ⟨rfl, 8, e8, by decide, rfl⟩
  by_cases e9 : p = 9
  · rw [if_neg e0, if_neg e1, if_neg e2, if_neg e3, if_neg e4, if_neg e5, if_neg e6, if_neg e7, if_neg e8, if_pos e9] at h
    obtain ⟨rfl, rfl⟩ := Prod.mk.inj (Option.some.inj h)
    exact ⟨rfl, 9, e9, by decide, rfl⟩
  by_cases e10 : p = 10
  · rw [if_neg e0, if_neg e1, if_neg e2, if_neg e3, if_neg e4, if_neg e5, if_neg e6, if_neg e7, if_neg e8, if_neg e9, if_pos e10] at h
    obtain ⟨rfl, rfl⟩ := Prod.mk.inj (Option.some.inj h)
    exact ⟨rfl, 10, e10, by decide, rfl⟩
  by_cases e11 : p = 11
  · rw [if_neg e0, if_neg e1, if_neg e2, if_neg e3, if_neg e4, if_neg e5, if_neg e6, if_neg e7, if_neg e8, if_neg e9, if_neg e10, if_pos e11] at h
    obtain ⟨rfl, rfl⟩ := Prod.mk.inj (Option.some.inj h)
    exact ⟨rfl, 11, e11, by decide, rfl⟩
  by_cases e12 : p = 12
  · rw [if_neg e0, if_neg e1, if_neg e2, if_neg e3, if_neg e4, if_neg e5, if_neg e6, if_neg e7, if_neg e8, if_neg e9, if_neg e10, if_neg e11, if_pos e12] at h
    obtain ⟨rfl, rfl⟩ := Prod.mk.inj (Option.some.inj h)
    exact ⟨rfl, 12, e12, by decide, rfl⟩
  by_cases e13 : p = 13
  · rw [if_neg e0, if_neg e1, if_neg e2, if_neg e3, if_neg e4, if_neg e5, if_neg e6, if_neg e7, if_neg e8, if_neg e9, if_neg e10, if_neg e11, if_neg e12, if_pos e13] at h
    obtain ⟨rfl, rfl⟩ := Prod.mk.inj (Option.some.inj h)
    exact ⟨rfl, 13, e13, by decide, rfl⟩
  by_cases e14 : p = 14
  · rw [if_neg e0, if_neg e1, if_neg e2, if_neg e3, if_neg e4, if_neg e5, if_neg e6, if_neg e7, if_neg e8, if_neg e9, if_neg e10, if_neg e11, if_neg e12, if_neg e13, if_pos e14] at h
    obtain ⟨rfl, rfl⟩ := Prod.mk.inj (Option.some.inj h)
    exact ⟨rfl, 14, e14, by decide, rfl⟩
  rw [if_neg e0, if_neg e1, if_neg e2, if_neg e3, if_neg e4, if_neg e5, if_neg e6, if_neg e7, if_neg e8, if_neg e9, if_neg e10, if_neg e11, if_neg e12, if_neg e13, if_neg e14] at h
  cases h
theorem parse_cons {f : Nat} {p : Int} {r : List Int} {cs : List (List (List Int))} (h : PyFlat.calls PyVbdcas.shape f (p :: r) = some cs) :
    ∃ (f' n : Nat) (cs' : List (List (List Int))), PyVbdcas.shape p = some (n, 0) ∧ n ≤ r.length ∧ cs = [p :: r.take n] :: cs' ∧ PyFlat.calls PyVbdcas.shape f' (r.drop n) = some cs' := by
  cases f with
  | zero => cases h
  | succ f =>
    unfold PyFlat.calls at h
    unfold PyFlat.call at h
    dsimp only at h
    cases e : PyVbdcas.shape p with
    | none => rw [e] at h; cases h
    | some nk =>
      obtain ⟨n, k⟩ := nk
      obtain ⟨rfl, _⟩ := shape_some e
      rw [e] at h
      dsimp only at h
      by_cases hl : r.length < n
      · rw [if_pos hl] at h
        cases h
      · rw [if_neg hl] at h
        unfold PyFlat.rows at h
        dsimp only at h
        cases e2 : PyFlat.calls PyVbdcas.shape f (r.drop n) with
        | none => rw [e2] at h; cases h
        | some cs' =>
          rw [e2] at h
          exact ⟨f, n, cs', rfl, by omega, (Option.some.inj h).symm, e2⟩
/-- what is still to be answered -/
def tail (s : Vbdcas.State) (cs : List (List (List Int))) : List Int := PyFlat.told (PyFlat.played VbdcasNeutral.step s cs)
theorem tail_nil (s : Vbdcas.State) : tail s [] = [] := rfl
theorem tail_cons (s : Vbdcas.State) (c : List (List Int)) (r : List (List (List Int))) : tail s (c :: r) = ((VbdcasNeutral.step s c).2.length : Int) :: ((VbdcasNeutral.step s c).2 ++ tail (VbdcasNeutral.step s c).1 r) := by
  unfold tail PyFlat.told
  rw [PyFlat.played, List.flatMap_cons]
  rfl
/-- a call by its number and its numbers -/
def Is (n : Int) (xs : List Int) : Vbdcas.Call → Prop
  | .set a b c d => n = 0 ∧ xs = [a, b, c, d]
  | .tick a => n = 1 ∧ xs = [a]
  | .press a b => n = 2 ∧ xs = [a, b]
  | .again a => n = 3 ∧ xs = [a]
  | .nudge => n = 4 ∧ xs = []
  | .deliver a => n = 5 ∧ xs = [a]
  | .drop a => n = 6 ∧ xs = [a]
  | .double a => n = 7 ∧ xs = [a]
  | .crash a => n = 8 ∧ xs = [a]
  | .restart => n = 9 ∧ xs = []
  | .rounds a => n = 10 ∧ xs = [a]
  | .net => n = 11 ∧ xs = []
  | .house => n = 12 ∧ xs = []
  | .client a => n = 13 ∧ xs = [a]
  | .log => n = 14 ∧ xs = []
theorem il0 {xs : List Int} (h : xs.length = 0) : xs = [] := List.eq_nil_of_length_eq_zero h
theorem il1 {xs : List Int} (h : xs.length = 1) : ∃ a, xs = [a] := by
  cases xs with
  | nil => cases h
  | cons a r => exact ⟨a, by rw [il0 (Nat.succ.inj h)]⟩
theorem il2 {xs : List Int} (h : xs.length = 2) : ∃ a b, xs = [a, b] := by
  cases xs with
  | nil => cases h
  | cons a r => obtain ⟨b, e⟩ := il1 (Nat.succ.inj h); exact ⟨a, b, by rw [e]⟩
theorem il4 {xs : List Int} (h : xs.length = 4) : ∃ a b c d, xs = [a, b, c, d] := by
  cases xs with
  | nil => cases h
  | cons a r => cases r with
    | nil => cases h
    | cons b r => obtain ⟨c, d, e⟩ := il2 (Nat.succ.inj (Nat.succ.inj h)); exact ⟨a, b, c, d, by rw [e]⟩
/-- a call of the right length: what it is -/
theorem call_of {q n : Nat} {xs : List Int} (hq : hm[q]? = some n) (hl : xs.length = n) : PyVbdcas.whole [(q : Int) :: xs] = [(q : Int) :: xs] ∧ ∃ d, VbdcasNeutral.callOf [(q : Int) :: xs] = some d ∧ Is (q : Int) xs d := by
  match q, hq with
  | 0, hq =>
    have e : 4 = n := Option.some.inj hq
    subst e
    obtain ⟨a, b, c, d, rfl⟩ := il4 hl
    exact ⟨rfl, .set a b c d, rfl, rfl, rfl⟩
  | 1, hq =>
    have e : 1 = n := Option.some.inj hq
    subst e
    obtain ⟨a, rfl⟩ := il1 hl
    exact ⟨rfl, .tick a, rfl, rfl, rfl⟩
  | 2, hq =>
    have e : 2 = n := Option.some.inj hq
    subst e
    obtain ⟨a, b, rfl⟩ := il2 hl
    exact ⟨rfl, .press a b, rfl, rfl, rfl⟩
  | 3, hq =>
    have e : 1 = n := Option.some.inj hq
    subst e
    obtain ⟨a, rfl⟩ := il1 hl
    exact ⟨rfl, .again a, rfl, rfl, rfl⟩
  | 4, hq =>
    have e : 0 = n := Option.some.inj hq
    subst e
    obtain rfl := il0 hl
    exact ⟨rfl, .nudge, rfl, rfl, rfl⟩
  | 5, hq =>
    have e : 1 = n := Option.some.inj hq
    subst e
    obtain ⟨a, rfl⟩ := il1 hl
    exact ⟨rfl, .deliver a, rfl, rfl, rfl⟩
  | 6, hq =>
    have e : 1 = n := Option.some.inj hq
    subst e
    obtain ⟨a, rfl⟩ := il1 hl
    exact ⟨rfl, .drop a, rfl, rfl, rfl⟩
  | 7, hq =>
    have e : 1 = n := Option.some.inj hq
    subst e
    obtain ⟨a, rfl⟩ := il1 hl
    exact ⟨rfl, .double a, rfl, rfl, rfl⟩
  | 8, hq =>
    have e : 1 = n := Option.some.inj hq
    subst e
    obtain ⟨a, rfl⟩ := il1 hl
    exact ⟨rfl, .crash a, rfl, rfl, rfl⟩
  | 9, hq =>
    have e : 0 = n := Option.some.inj hq
    subst e
    obtain rfl := il0 hl
    exact ⟨rfl, .restart, rfl, rfl, rfl⟩
  | 10, hq =>
    have e : 1 = n := Option.some.inj hq
    subst e
    obtain ⟨a, rfl⟩ := il1 hl
    exact ⟨rfl, .rounds a, rfl, rfl, rfl⟩
  | 11, hq =>
    have e : 0 = n := Option.some.inj hq
    subst e
    obtain rfl := il0 hl
    exact ⟨rfl, .net, rfl, rfl, rfl⟩
  | 12, hq =>
    have e : 0 = n := Option.some.inj hq
    subst e
    obtain rfl := il0 hl
    exact ⟨rfl, .house, rfl, rfl, rfl⟩
  | 13, hq =>
    have e : 1 = n := Option.some.inj hq
    subst e
    obtain ⟨a, rfl⟩ := il1 hl
    exact ⟨rfl, .client a, rfl, rfl, rfl⟩
  | 14, hq =>
    have e : 0 = n := Option.some.inj hq
    subst e
    obtain rfl := il0 hl
    exact ⟨rfl, .log, rfl, rfl, rfl⟩
  | q + 15, hq => cases hq
theorem step_callOf {s : Vbdcas.State} {c : List (List Int)} {d : Vbdcas.Call} (h : VbdcasNeutral.callOf c = some d) : VbdcasNeutral.step s c = Vbdcas.step s d := by
  unfold VbdcasNeutral.step
  rw [h]
/-- every call that is read is whole -/
theorem whole_all : ∀ {f : Nat} {l : List Int} {cs : List (List (List Int))}, PyFlat.calls PyVbdcas.shape f l = some cs → ∀ c ∈ cs, PyVbdcas.whole c = c
  | f, [], cs, h => by
    have : cs = [] := by cases f <;> exact (Option.some.inj h).symm
    subst this
    intro c hc
    cases hc
  | f, p :: r, cs, h => by
    obtain ⟨f', n, cs', h1, h2, rfl, h3⟩ := parse_cons h
    have : (r.drop n).length < (p :: r).length := by rw [List.length_drop, List.length_cons]; omega
    intro c hc
    rcases List.mem_cons.mp hc with rfl | hc
    · obtain ⟨_, q, rfl, _, hq⟩ := shape_some h1
      exact (call_of hq (by rw [List.length_take]; omega)).1
    · exact whole_all h3 c hc
  termination_by _ l => l.length
theorem calls_eq (l : List Int) : PyVbdcas.calls l = PyFlat.calls PyVbdcas.shape l.length l := by
  unfold PyVbdcas.calls
  cases e : PyFlat.calls PyVbdcas.shape l.length l with
  | none => rfl
  | some cs =>
    show some (cs.map PyVbdcas.whole) = some cs
    have h := whole_all e
    have : cs.map PyVbdcas.whole = cs.map id := List.map_congr_left h
    rw [this, List.map_id]
/-! once a table is set, it stays set -/
theorem ready_send (s : Vbdcas.State) (m : Vbdcas.Msg) : (Vbdcas.send s m).ready = s.ready := by unfold Vbdcas.send; split <;> rfl
theorem ready_setSeat (s : Vbdcas.State) (p : Nat) (x : Vbdcas.Seat) : (Vbdcas.setSeat s p x).ready = s.ready := by unfold Vbdcas.setSeat; split <;> rfl
theorem ready_setClient (s : Vbdcas.State) (p : Nat) (x : Vbdcas.Client) : (Vbdcas.setClient s p x).ready = s.ready := by unfold Vbdcas.setClient; split <;> rfl
theorem ready_open (s : Vbdcas.State) : (Vbdcas.open_ s).ready = s.ready := by unfold Vbdcas.open_; split <;> rfl
theorem ready_heard (s : Vbdcas.State) (p : Nat) : (Vbdcas.heard s p).ready = s.ready := by unfold Vbdcas.heard; rw [ready_open, ready_setSeat]
theorem ready_tell (s : Vbdcas.State) (p : Nat) : (Vbdcas.tell s p).ready = s.ready := by unfold Vbdcas.tell; split; exact ready_send _ _; rfl
theorem ready_flag (s : Vbdcas.State) : (Vbdcas.flag s).ready = s.ready := by unfold Vbdcas.flag; dsimp only; split; exact ready_setSeat _ _ _; rfl
theorem ready_take (s : Vbdcas.State) (p a b c : Nat) : (Vbdcas.take_ s p a b c).ready = s.ready := by
  unfold Vbdcas.take_
  dsimp only
  split
  · rfl
  · split
    · exact ready_setSeat _ _ _
    · split <;> exact ready_setSeat _ _ _
theorem ready_house (s : Vbdcas.State) (m : Vbdcas.Msg) : (Vbdcas.house s m).ready = s.ready := by
  cases m with
  | hello p e =>
    unfold Vbdcas.house
    dsimp only
    split
    · rfl
    · rw [ready_tell, ready_heard]
      split
      · exact ready_setSeat _ _ _
      · rfl
  | req p e id ply mv th =>
    unfold Vbdcas.house
    dsimp only
    split
    · rfl
    · split
      · rw [ready_tell, ready_tell, ready_setSeat, ready_take, ready_heard]
      · rw [ready_tell, ready_heard]
  | ack p e n =>
    unfold Vbdcas.house
    dsimp only
    split
    · rfl
    · split
      · split
        · rw [ready_tell, ready_setSeat, ready_heard]
        · rw [ready_setSeat, ready_heard]
      · rw [ready_heard]
  | news _ _ _ _ _ _ _ _ => rfl
theorem ready_machine (s : Vbdcas.State) (m : Vbdcas.Msg) : (Vbdcas.machine s m).ready = s.ready := by
  cases m with
  | news p e f ms hd b0 b1 ov =>
    rw [machine_eq]
    split
    · rfl
    · rw [ready_send, ready_setClient]
  | _ => rfl
theorem ready_arrive (s : Vbdcas.State) (m : Vbdcas.Msg) : (Vbdcas.arrive s m).ready = s.ready := by
  cases m with
  | news _ _ _ _ _ _ _ _ => exact ready_machine _ _
  | _ => exact ready_house _ _
theorem ready_again (s : Vbdcas.State) (p : Nat) : (Vbdcas.again s p).ready = s.ready := by
  unfold Vbdcas.again
  dsimp only
  split
  · exact ready_send _ _
  · split <;> exact ready_send _ _
theorem ready_nudge (s : Vbdcas.State) : (Vbdcas.nudge s).ready = s.ready := by unfold Vbdcas.nudge; rw [ready_tell, ready_tell]
theorem ready_drain : ∀ (k : Nat) (s : Vbdcas.State), (Vbdcas.drain k s).ready = s.ready
  | 0, s => rfl
  | k + 1, s => by
    unfold Vbdcas.drain
    split
    · rfl
    · rw [ready_drain k, ready_arrive]
theorem ready_rounds : ∀ (k : Nat) (s : Vbdcas.State), (Vbdcas.rounds k s).ready = s.ready
  | 0, s => rfl
  | k + 1, s => by
    unfold Vbdcas.rounds
    rw [ready_rounds k]
    unfold Vbdcas.round
    rw [ready_drain, ready_nudge, ready_again, ready_again]
theorem ready_does (s : Vbdcas.State) (c : Vbdcas.Call) : (Vbdcas.does s c).1.ready = s.ready := by
  cases c with
  | set _ _ _ _ => rfl
  | tick ms => simp only [Vbdcas.does]; split; rfl; exact ready_flag _
  | press p m =>
    simp only [Vbdcas.does]
    split
    · rfl
    · split
      · rfl
      · split
        · rfl
        · show (Vbdcas.send _ _).ready = _
          rw [ready_send, ready_setClient]
  | again p => simp only [Vbdcas.does]; split; rfl; exact ready_again _ _
  | nudge => exact ready_nudge _
  | deliver i => simp only [Vbdcas.does]; split; rfl; exact ready_arrive _ _
  | drop i => simp only [Vbdcas.does]; split <;> rfl
  | double i =>
    simp only [Vbdcas.does]
    split
    · rfl
    · split
      · rfl
      · exact ready_send _ _
  | crash p => simp only [Vbdcas.does]; split; rfl; exact ready_setClient _ _ _
  | restart => simp only [Vbdcas.does, Vbdcas.restart, Vbdcas.yes]; exact ready_setSeat _ _ _
  | rounds k => simp only [Vbdcas.does]; split; rfl; exact ready_rounds _ _
  | net => rfl
  | house => rfl
  | client p => simp only [Vbdcas.does]; split <;> rfl
  | log => rfl
end Nd

set_option Elab.async false
set_option linter.all false
set_option maxRecDepth 100000
set_option maxHeartbeats 2000000
namespace Nd
open PySem PySem.Spec PyProof.Rows L2
open Vbdcas (State Msg Seat Client Ask)
/-! ### bundles: a def as its callers use it -/
section
variable (P : Program) (w : World) (K : PySem.W.Frag) (mg : Str → Option Value) (base : Heap)
structure MB (C : Addr) (m : Str) (k : Nat) (ps : List Str) (sp : Sp) : Prop where
  ex : ∃ f fd, Cls K C ∧ Meth K C m f ∧ Binds K fd ps [] ∧ FnOk P w K mg base CX0 k f fd ps sp
structure FB (x : Str) (k : Nat) (ps : List Str) (sp : Sp) : Prop where
  ex : ∃ f fd, mg x = some (.ref f) ∧ PySem.W.keepIn K (.ref f) = true ∧ Binds K fd ps [] ∧ FnOk P w K mg base CX0 k f fd ps sp
structure KB (x : Str) (C : Addr) (k : Nat) (ps : List Str) (sp : Sp) : Prop where
  ex : ∃ f fd, mg x = some (.ref C) ∧ Mk K C f ∧ Binds K fd ps [] ∧ FnOk P w K mg base CX0 k f fd ps sp
end
section
variable {X : Cx} {k : Nat} {C : Addr} {ps : List Str} {sp : Sp} {x m : Str} {p pos apos : Pos} {e o : Expr} {es : List Expr} {ta : TE} {t : TA}
theorem pe_m {pl : Sem Bool} (B : MB X.prog X.w X.K X.mg X.base C m k ps sp) (hr : Room k X.A) (he : PE X o ta) (ha : PA X (e :: es) t)
    (hst : starEach (e :: es) X.env = (false, eval e X.env) :: starEach es X.env := by rfl) (hpl : (backTo pos (starEach es X.env)).any (·.1) = false := by rfl)
    (ht : eval (.Call (.Attribute o m apos) (e :: es) [] pos) X.env = (do
      let ov ← eval o X.env
      standAt apos.atName
      let (f, first) ← holding [ov] (getMethod ov m pl)
      callWith pos f first (backTo pos (starEach (e :: es) X.env)) (backToKw pos (keywordEach [] X.env))) := by rfl) :
    PE X (.Call (.Attribute o m apos) (e :: es) [] pos) (tMeth C m sp [] E0 ta t) := by
  obtain ⟨f, fd, c, hm, hb, F⟩ := B.ex
  exact pe_meth he c hm F hr hb .nil pass0 ha hst hpl ht
theorem pe_m0 {pl : Sem Bool} (B : MB X.prog X.w X.K X.mg X.base C m k ps sp) (hr : Room k X.A) (he : PE X o ta)
    (ht : eval (.Call (.Attribute o m apos) [] [] pos) X.env = (do
      let ov ← eval o X.env
      standAt apos.atName
      let (f, first) ← holding [ov] (getMethod ov m pl)
      callWith pos f first (backTo pos (starEach [] X.env)) (backToKw pos (keywordEach [] X.env))) := by rfl) :
    PE X (.Call (.Attribute o m apos) [] [] pos) (tMeth C m sp [] E0 ta tNil) := by
  obtain ⟨f, fd, c, hm, hb, F⟩ := B.ex
  exact pe_meth0 he c hm F hr hb .nil pass0 ht
theorem pe_f (B : FB X.prog X.w X.K X.mg X.base x k ps sp) (hr : Room k X.A) (hg : Gl X x) (ha : PA X (e :: es) t) (hdb : (x == ("__debug__" : Str)) = false := by decide)
    (he : starEach (e :: es) X.env = (false, eval e X.env) :: starEach es X.env := by rfl) (hpl : (backTo pos (starEach es X.env)).any (·.1) = false := by rfl) :
    PE X (.Call (.Name x p) (e :: es) [] pos) (tCall sp [] E0 t) := by
  obtain ⟨f, fd, h1, h2, hb, F⟩ := B.ex
  exact pe_call F hr hg h1 h2 hb .nil pass0 ha hdb he hpl
theorem pe_k (B : KB X.prog X.w X.K X.mg X.base x C k ps sp) (hr : Room (k + 1) X.A) (hg : Gl X x) (ha : PA X (e :: es) t) (hdb : (x == ("__debug__" : Str)) = false := by decide)
    (he : starEach (e :: es) X.env = (false, eval e X.env) :: starEach es X.env := by rfl) (hpl : (backTo pos (starEach es X.env)).any (·.1) = false := by rfl) :
    PE X (.Call (.Name x p) (e :: es) [] pos) (tMake C sp [] E0 t) := by
  obtain ⟨f, fd, h1, M, hb, F⟩ := B.ex
  exact pe_make M F hr hg h1 hb .nil pass0 ha hdb he hpl
theorem pe_k0 (B : KB X.prog X.w X.K X.mg X.base x C k ps sp) (hr : Room (k + 1) X.A) (hg : Gl X x) (hdb : (x == ("__debug__" : Str)) = false := by decide) :
    PE X (.Call (.Name x p) [] [] pos) (tMake C sp [] E0 tNil) := by
  obtain ⟨f, fd, h1, M, hb, F⟩ := B.ex
  exact pe_make0 M F hr hg h1 hb .nil pass0 hdb
/-- a global that is a whole number -/
def GI (mg : Str → Option Value) (x : Str) (i : Int) : Prop := ∃ t, mg x = some (.int i t)
theorem pe_gi {i : Int} (h : GI X.mg x i) (hg : Gl X x) (hd : (x == ("__debug__" : Str)) = false := by decide) : PE X (.Name x pos) (tC (.int i)) := by
  obtain ⟨t, e⟩ := h
  exact pe_glob hg e ⟨t, rfl⟩ hd
/-- a global that is an object of the text -/
theorem pe_gr {a : Addr} (h : X.mg x = some (.ref a)) (hg : Gl X x) (hd : (x == ("__debug__" : Str)) = false := by decide) : PE X (.Name x pos) (tC (.ref a)) := pe_glob hg h rfl hd
theorem call_max3 (hc : X.calm = true) : CallR X (.builtin "max") (fun xs H Q => ∃ i j l : Int, xs = [.int i, .int j, .int l] ∧ Q (.int (max (max i j) l)) H) := by
  intro pins s σ H xs us Q I r h
  obtain ⟨i, j, l, rfl, q⟩ := h
  obtain ⟨u, w', z, rfl, ⟨t, rfl⟩, ⟨t', rfl⟩, ⟨t'', rfl⟩⟩ : ∃ u w' z, us = [u, w', z] ∧ RelV (.int i) u ∧ RelV (.int j) w' ∧ RelV (.int l) z := by
    cases r with
    | cons a r => cases r with
      | cons b r => cases r with
        | cons c r => cases r; exact ⟨_, _, _, rfl, a, b, c⟩
  refine max_three_ints (I.ok.hd hc) fun h' tk k => ⟨.int (max (max i j) l), H, I.kept k, ?_, q⟩
  split
  · next h1 =>
    split
    · next h2 =>
      rw [show max (max i j) l = l by omega]
      exact ⟨_, rfl⟩
    · next h2 =>
      rw [show max (max i j) l = j by omega]
      exact ⟨_, rfl⟩
  · next h1 =>
    split
    · next h2 =>
      rw [show max (max i j) l = l by omega]
      exact ⟨_, rfl⟩
    · next h2 =>
      rw [show max (max i j) l = i by omega]
      exact ⟨_, rfl⟩
/-- one reading or another -/
def tAlt (t u : TE) : TE := fun σ H Q => t σ H Q ∨ u σ H Q
theorem pe_alt {t u : TE} (h1 : PE X e t) (h2 : PE X e u) : PE X e (tAlt t u) := fun pins s σ H Q I h => by
  rcases h with h | h
  · exact h1 pins s σ H Q I h
  · exact h2 pins s σ H Q I h
theorem keys_vals {P : Program} {w : World} : ∀ {kvs : List (Key × V)} {ws : List (Key × Value)} {us : List Value}, KV kvs ws → us.length = ws.length → (∀ (j : Nat) (v : Value), us[j]? = some v → ∃ (k : Key) (y : Value), ws[j]? = some (k, y) ∧ (mixKind P w).is k v = true) → Vals (kvs.map fun kv => kV kv.1) us
  | _, _, [], .nil, _, _ => .nil
  | _, _, [], .cons _ _, hl, _ => by simp at hl
  | _, _, _ :: _, .nil, hl, _ => by simp at hl
  | _, _, u :: us, .cons r t, hl, h => by
    obtain ⟨k, y, e, hk⟩ := h 0 u rfl
    simp only [List.getElem?_cons_zero, Option.some.injEq] at e
    refine .cons ?_ (keys_vals (P := P) (w := w) t (by simpa using hl) fun j v ev => by simpa using h (j + 1) v (by simpa using ev))
    show RelV (kV _) u
    rw [r.1, e]
    exact relV_key (show keyIs k u = true from hk)
/-- list(d): the keys -/
theorem call_listD (hc : X.calm = true) : CallR X (.type "list") (fun xs H Q => ∃ (p : Addr) (kvs : List (Key × V)), xs = [.ref p] ∧ H p = some (.dK kvs) ∧ ∀ l, H l = none → Q (.ref l) (upd H l (.lst (kvs.map fun kv => kV kv.1)))) := by
  intro pins s σ H xs us Q I r h
  obtain ⟨p, kvs, rfl, hp, q⟩ := h
  obtain ⟨u, rfl, rx⟩ := vals1 r
  cases rx
  obtain ⟨hz, hs, vs, kv, hd⟩ := dk_of I.hok hp
  obtain ⟨ep, hat⟩ := hd.dictAt
  have hl : kvs.length = vs.length := Paired.length kv
  refine PySem.W.kdl_call (PySem.W.kdl_dict (knd := mixKind X.prog X.w) (kvs := vs) (ep := ep) hs) (I.ok.hd hc) hat (by omega) fun h' tk acc' c' k e it => ?_
  have hv : Vals (kvs.map fun kv => kV kv.1) acc'.toList := keys_vals (P := X.prog) (w := X.w) kv (by rw [Array.length_toList]; exact it.1) fun j v ev => it.2 j v (by rw [← Array.getElem?_toList]; exact ev)
  exact ⟨.ref s.heap.objs.size, _, I.laid (t' := tk) k (Nat.le_refl _) (show ObjOk X.prog X.w _ h' _ (.lst (kvs.map fun kv => kV kv.1)) from ⟨by rw [List.length_map]; exact hz, acc'.toList, c', hv, by rw [e]⟩), rfl, q _ (I.hok.fresh (Nat.le_refl _))⟩
end
section
variable {P : Program} {w : World} {K : PySem.W.Frag} {mg : Str → Option Value} {base : Heap}
/-- how the text's def stands: its function, and that its class has it -/
def MF (K : PySem.W.Frag) (C : Addr) (x qual : Str) (st : Stmt) : Prop := ∃ f fd, Fun K x qual st f fd ∧ Meth K C x f
def FF (K : PySem.W.Frag) (mg : Str → Option Value) (x : Str) (st : Stmt) : Prop := ∃ f fd, Fun K x x st f fd ∧ mg x = some (.ref f)
def KF (K : PySem.W.Frag) (mg : Str → Option Value) (x : Str) (C : Addr) (qual : Str) (st : Stmt) : Prop := ∃ f fd, Fun K "__init__" qual st f fd ∧ mg x = some (.ref C) ∧ Mk K C f
/-- how arguments bind -/
def BA (x qual : Str) (st : Stmt) (ps : List Str) : Prop := ∀ (kV doc pm : Value) (an : Option Addr) (cdv ct : Value) (us : List Value), us.length = ps.length → bindArgs (PySem.W.fnOf x qual (defArgs st) (defBody st) (defScope st) .none kV doc pm an cdv ct) ⟨us, []⟩ = pure (ps.zip us)
/-- what is to be shown of a body -/
def Body (P : Program) (w : World) (K : PySem.W.Frag) (mg : Str → Option Value) (base : Heap) (qual : Str) (st : Stmt) (N : List Str) (k : Nat) (sp : Sp) : Prop :=
  ∀ (f : Addr) (cdv : Value) (A : Around) (outer : List Env) (s : Shared) (H : Hp) (vs : List V) (Q : VK) (E : XK), Room k (A.deeper (envOfC qual (defScope st) s.heap.objs.size f cdv)) → sp vs H Q E →
      ∃ t, PSs (cxOf CX0 P w K mg base N qual (defScope st) f cdv A outer s H E).nox (defBody st) t ∧ t { nx := fun _ H' => Q .non H', rt := Q } (L2.start N vs) H
theorem MB.of {C : Addr} {x qual : Str} {st : Stmt} {N ps : List Str} {k : Nat} {sp : Sp} (h : MF K C x qual st) (cl : Cls K C) (S : FnScope N ps (defScope st)) (b : BA x qual st ps) (len : ∀ vs H Q E, sp vs H Q E → vs.length = ps.length)
    (hb : Body P w K mg base qual st N k sp) : MB P w K mg base C x (k + 1) ps sp := by
  obtain ⟨f, fd, F, M⟩ := h
  exact ⟨f, fd, cl, M, F.binds b, F.ok S len (hb f)⟩
theorem FB.of {x : Str} {st : Stmt} {N ps : List Str} {k : Nat} {sp : Sp} (h : FF K mg x st) (S : FnScope N ps (defScope st)) (b : BA x x st ps) (len : ∀ vs H Q E, sp vs H Q E → vs.length = ps.length)
    (hb : Body P w K mg base x st N k sp) : FB P w K mg base x (k + 1) ps sp := by
  obtain ⟨f, fd, F, M⟩ := h
  exact ⟨f, fd, M, F.kp, F.binds b, F.ok S len (hb f)⟩
theorem KB.of {C : Addr} {x qual : Str} {st : Stmt} {N ps : List Str} {k : Nat} {sp : Sp} (h : KF K mg x C qual st) (S : FnScope N ps (defScope st)) (b : BA "__init__" qual st ps) (len : ∀ vs H Q E, sp vs H Q E → vs.length = ps.length)
    (hb : Body P w K mg base qual st N k sp) : KB P w K mg base x C (k + 1) ps sp := by
  obtain ⟨f, fd, F, m, M⟩ := h
  exact ⟨f, fd, m, M, F.binds b, F.ok S len (hb f)⟩
end
theorem len1 {us : List Value} (h : us.length = 1) : ∃ a, us = [a] := by
  cases us with
  | nil => cases h
  | cons a r => exact ⟨a, by rw [List.eq_nil_of_length_eq_zero (Nat.succ.inj h)]⟩
theorem len2 {us : List Value} (h : us.length = 2) : ∃ a1 a2, us = [a1, a2] := by
  cases us with
  | nil => cases h
  | cons a1 r => obtain ⟨a2, e⟩ := len1 (Nat.succ.inj h); exact ⟨a1, a2, by rw [e]⟩
theorem len3 {us : List Value} (h : us.length = 3) : ∃ a1 a2 a3, us = [a1, a2, a3] := by
  cases us with
  | nil => cases h
  | cons a1 r => obtain ⟨a2, a3, e⟩ := len2 (Nat.succ.inj h); exact ⟨a1, a2, a3, by rw [e]⟩
theorem len4 {us : List Value} (h : us.length = 4) : ∃ a1 a2 a3 a4, us = [a1, a2, a3, a4] := by
  cases us with
  | nil => cases h
  | cons a1 r => obtain ⟨a2, a3, a4, e⟩ := len3 (Nat.succ.inj h); exact ⟨a1, a2, a3, a4, by rw [e]⟩
theorem len5 {us : List Value} (h : us.length = 5) : ∃ a1 a2 a3 a4 a5, us = [a1, a2, a3, a4, a5] := by
  cases us with
  | nil => cases h
  | cons a1 r => obtain ⟨a2, a3, a4, a5, e⟩ := len4 (Nat.succ.inj h); exact ⟨a1, a2, a3, a4, a5, by rw [e]⟩
theorem len6 {us : List Value} (h : us.length = 6) : ∃ a1 a2 a3 a4 a5 a6, us = [a1, a2, a3, a4, a5, a6] := by
  cases us with
  | nil => cases h
  | cons a1 r => obtain ⟨a2, a3, a4, a5, a6, e⟩ := len5 (Nat.succ.inj h); exact ⟨a1, a2, a3, a4, a5, a6, by rw [e]⟩
theorem len7 {us : List Value} (h : us.length = 7) : ∃ a1 a2 a3 a4 a5 a6 a7, us = [a1, a2, a3, a4, a5, a6, a7] := by
  cases us with
  | nil => cases h
  | cons a1 r => obtain ⟨a2, a3, a4, a5, a6, a7, e⟩ := len6 (Nat.succ.inj h); exact ⟨a1, a2, a3, a4, a5, a6, a7, by rw [e]⟩
theorem len8 {us : List Value} (h : us.length = 8) : ∃ a1 a2 a3 a4 a5 a6 a7 a8, us = [a1, a2, a3, a4, a5, a6, a7, a8] := by
  cases us with
  | nil => cases h
  | cons a1 r => obtain ⟨a2, a3, a4, a5, a6, a7, a8, e⟩ := len7 (Nat.succ.inj h); exact ⟨a1, a2, a3, a4, a5, a6, a7, a8, by rw [e]⟩
theorem len9 {us : List Value} (h : us.length = 9) : ∃ a1 a2 a3 a4 a5 a6 a7 a8 a9, us = [a1, a2, a3, a4, a5, a6, a7, a8, a9] := by
  cases us with
  | nil => cases h
  | cons a1 r => obtain ⟨a2, a3, a4, a5, a6, a7, a8, a9, e⟩ := len8 (Nat.succ.inj h); exact ⟨a1, a2, a3, a4, a5, a6, a7, a8, a9, by rw [e]⟩
/-! ### fields -/
abbrev nV (n : Nat) : V := .int n
abbrev vs (l : List Nat) : List V := l.map nV
def seatF (x : Seat) : List (Str × V) := [("epoch", nV x.epoch), ("handled", nV x.handled), ("acked", nV x.acked), ("here", .bl x.here), ("bank", nV x.bank), ("spent", nV x.spent)]
abbrev lk (f : Str) (fs : List (Str × V)) : Option V := fs.lookup f
def helloF (p e : Nat) : List (Str × V) := [("kind", .int 0), ("side", nV p), ("epoch", nV e)]
def reqF (p e id ply move think : Nat) : List (Str × V) := [("kind", .int 1), ("side", nV p), ("epoch", nV e), ("number", nV id), ("ply", nV ply), ("move", nV move), ("thought", nV think)]
def ackF (p e n : Nat) : List (Str × V) := [("kind", .int 2), ("side", nV p), ("epoch", nV e), ("known", nV n)]
def newsF (p e f : Nat) (ms : Addr) (hd : Nat) (bt : Addr) (ov : Nat) : List (Str × V) := [("kind", .int 3), ("side", nV p), ("epoch", nV e), ("place", nV f), ("moves", .ref ms), ("handled", nV hd), ("banks", .ref bt), ("result", nV ov)]
/-- where a table's changing objects stand; true is side 0 -/
inductive Cell where
  | table | house | net | wait | log | seats | machs | seat (z : Bool) | mach (z : Bool) | moves (z : Bool)
structure Ad where
  at_ : Cell → Addr
  dx : Cell → Addr
  av : Addr → Prop
/-- the classes of the text -/
structure Cs where
  hello : Addr
  req : Addr
  ack : Addr
  news : Addr
  seat : Addr
  house : Addr
  mach : Addr
  net : Addr
  table : Addr
  desk : Addr
/-- what stands beside them and doesn't change: the messages on the net, the machines' requests and banks -/
structure Gh where
  kvs : List (Key × V)
  rq : Bool → V
  bt : Bool → Addr
def zb (p : Nat) : Bool := decide (p = 0)
def zn (z : Bool) : Nat := match z with | true => 0 | false => 1
def cli (s : State) (z : Bool) : Client := match z with | true => s.c0 | false => s.c1
def sea (s : State) (z : Bool) : Seat := match z with | true => s.s0 | false => s.s1
theorem cli_zb (s : State) (p : Nat) : cli s (zb p) = Vbdcas.client s p := by
  unfold zb Vbdcas.client
  by_cases h : p = 0 <;> simp [h, cli]
theorem sea_zb (s : State) (p : Nat) : sea s (zb p) = Vbdcas.seat s p := by
  unfold zb Vbdcas.seat
  by_cases h : p = 0 <;> simp [h, sea]
theorem zn_zb {p : Nat} (h : p < 2) : zn (zb p) = p := by
  unfold zb
  by_cases e : p = 0
  · subst e; rfl
  · have : p = 1 := by omega
    subst this; rfl
def tableF (A : Ad) (s : State) : List (Str × V) := [("time", nV s.now), ("house", .ref (A.at_ .house)), ("machines", .ref (A.at_ .machs)), ("net", .ref (A.at_ .net))]
def houseF (A : Ad) (s : State) : List (Str × V) := [("log", .ref (A.at_ .log)), ("result", nV s.over), ("runs", .bl s.running), ("since", nV s.since), ("increment", nV s.inc), ("lag", nV s.lag), ("seats", .ref (A.at_ .seats))]
def netF (A : Ad) (s : State) : List (Str × V) := [("waiting", .ref (A.at_ .wait)), ("next_number", nV s.next), ("lost", nV s.lost)]
def machF (A : Ad) (z : Bool) (c : Client) (rq : V) (bt : Addr) : List (Str × V) := [("side", nV (zn z)), ("epoch", nV c.epoch), ("on", .bl c.on), ("moves", .ref (A.at_ (.moves z))), ("next_request", nV c.nextId), ("request", rq), ("learned", nV c.learned), ("banks", .ref bt), ("result", nV c.over)]
def obj (C : Cs) (A : Ad) (G : Gh) (s : State) : Cell → HO
  | .table => .ins C.table (A.dx .table) (tableF A s)
  | .house => .ins C.house (A.dx .house) (houseF A s)
  | .net => .ins C.net (A.dx .net) (netF A s)
  | .wait => .dK G.kvs
  | .log => .lst (vs s.log)
  | .seats => .lst [.ref (A.at_ (.seat true)), .ref (A.at_ (.seat false))]
  | .machs => .lst [.ref (A.at_ (.mach true)), .ref (A.at_ (.mach false))]
  | .seat z => .ins C.seat (A.dx (.seat z)) (seatF (sea s z))
  | .mach z => .ins C.mach (A.dx (.mach z)) (machF A z (cli s z) (G.rq z) (G.bt z))
  | .moves z => .lst (vs (cli s z).known)
/-- no part of what changes, and none of the places (av) that belong to others -/
def Out (A : Ad) (a : Addr) : Prop := (∀ c, a ≠ A.at_ c) ∧ ¬ A.av a
/-- a thing that stands at a, is no part of what changes -/
def Im (A : Ad) (H : Hp) (a : Addr) (o : HO) : Prop := Out A a ∧ H a = some o
/-- all that was there and is no part of what changes is as it was -/
def Frm (A : Ad) (H H' : Hp) : Prop := ∀ b o, H b = some o → (∀ c, b ≠ A.at_ c) → H' b = some o
theorem Frm.refl {A : Ad} {H : Hp} : Frm A H H := fun _ _ h _ => h
theorem Frm.trans {A : Ad} {H H1 H2 : Hp} (a : Frm A H H1) (b : Frm A H1 H2) : Frm A H H2 := fun c o h n => b c o (a c o h n) n
theorem Frm.put {A : Ad} {H H1 : Hp} {c : Cell} {o : HO} (a : Frm A H H1) : Frm A H (upd H1 (A.at_ c) o) := fun b u h n => by
  rw [upd_ne (n c)]
  exact a b u h n
theorem Frm.new {A : Ad} {H H1 : Hp} {p : Addr} {o : HO} (a : Frm A H H1) (hp : H1 p = none) : Frm A H (upd H1 p o) := fun b u h n => by
  have := a b u h n
  rw [upd_ne (ne_of_none this hp)]
  exact this
theorem Frm.same {A : Ad} {H H1 : Hp} (a : Same H H1) : Frm A H H1 := fun b u h _ => a b u h
theorem Im.mono {A : Ad} {H H' : Hp} {a : Addr} {o : HO} (h : Im A H a o) (f : Frm A H H') : Im A H' a o := ⟨h.1, f a o h.2 h.1.1⟩
/-- the message m stands at v -/
def MsgAt (C : Cs) (A : Ad) (H : Hp) (v : V) : Msg → Prop
  | .hello p e => ∃ a dx, v = .ref a ∧ Im A H a (.ins C.hello dx (helloF p e))
  | .req p e id ply move think => ∃ a dx, v = .ref a ∧ Im A H a (.ins C.req dx (reqF p e id ply move think))
  | .ack p e n => ∃ a dx, v = .ref a ∧ Im A H a (.ins C.ack dx (ackF p e n))
  | .news p e f ms hd b0 b1 ov => ∃ a dx l t, v = .ref a ∧ Im A H a (.ins C.news dx (newsF p e f l hd t ov)) ∧ Im A H l (.lst (vs ms)) ∧ Im A H t (.tup [nV b0, nV b1])
theorem MsgAt.mono {C : Cs} {A : Ad} {H H' : Hp} {v : V} (f : Frm A H H') : ∀ {m : Msg}, MsgAt C A H v m → MsgAt C A H' v m
  | .hello p e, h => by obtain ⟨a, dx, e1, h⟩ := h; exact ⟨a, dx, e1, h.mono f⟩
  | .req p e id ply move think, h => by obtain ⟨a, dx, e1, h⟩ := h; exact ⟨a, dx, e1, h.mono f⟩
  | .ack p e n, h => by obtain ⟨a, dx, e1, h⟩ := h; exact ⟨a, dx, e1, h.mono f⟩
  | .news p e g ms hd b0 b1 ov, h => by obtain ⟨a, dx, l, t, e1, h, h2, h3⟩ := h; exact ⟨a, dx, l, t, e1, h.mono f, h2.mono f, h3.mono f⟩
def ReqAt (C : Cs) (A : Ad) (H : Hp) (z : Bool) (c : Client) (v : V) : Prop := match c.ask with
  | none => v = .non
  | some a => ∃ ad dx, v = .ref ad ∧ Im A H ad (.ins C.req dx (reqF (zn z) c.epoch a.id a.ply a.move a.think))
theorem ReqAt.mono {C : Cs} {A : Ad} {H H' : Hp} {z : Bool} {c : Client} {v : V} (h : ReqAt C A H z c v) (f : Frm A H H') : ReqAt C A H' z c v := by
  unfold ReqAt at h ⊢
  revert h
  cases c.ask with
  | none => exact id
  | some a => intro h; obtain ⟨ad, dx, e1, h⟩ := h; exact ⟨ad, dx, e1, h.mono f⟩
def NetAt (C : Cs) (A : Ad) (H : Hp) (l : List (Nat × Msg)) (kvs : List (Key × V)) : Prop := Paired (fun (x : Nat × Msg) (kv : Key × V) => kv.1 = Sum.inl (x.1 : Int) ∧ MsgAt C A H kv.2 x.2) l kvs
theorem NetAt.mono {C : Cs} {A : Ad} {H H' : Hp} {l : List (Nat × Msg)} {kvs : List (Key × V)} (h : NetAt C A H l kvs) (f : Frm A H H') : NetAt C A H' l kvs := Paired.mapP h fun _ _ q => ⟨q.1, q.2.mono f⟩
/-- a table in the state s stands at A -/
structure TabAt (C : Cs) (A : Ad) (G : Gh) (s : State) (H : Hp) : Prop where
  inj : ∀ c d, A.at_ c = A.at_ d → c = d
  cav : ∀ c, ¬ A.av (A.at_ c)
  avs : ∀ b, A.av b → ∃ o, H b = some o
  cell : ∀ c, H (A.at_ c) = some (obj C A G s c)
  req : ∀ z, ReqAt C A H z (cli s z) (G.rq z)
  bank : ∀ z, Im A H (G.bt z) (.tup [nV (cli s z).b0, nV (cli s z).b1])
  net : NetAt C A H s.net G.kvs
section
variable {C : Cs} {A : Ad} {G : Gh} {s : State} {H H' : Hp}
theorem TabAt.house (h : TabAt C A G s H) : H (A.at_ .house) = some (.ins C.house (A.dx .house) (houseF A s)) := h.cell .house
theorem TabAt.table (h : TabAt C A G s H) : H (A.at_ .table) = some (.ins C.table (A.dx .table) (tableF A s)) := h.cell .table
theorem TabAt.netO (h : TabAt C A G s H) : H (A.at_ .net) = some (.ins C.net (A.dx .net) (netF A s)) := h.cell .net
theorem TabAt.wait (h : TabAt C A G s H) : H (A.at_ .wait) = some (.dK G.kvs) := h.cell .wait
theorem TabAt.log (h : TabAt C A G s H) : H (A.at_ .log) = some (.lst (vs s.log)) := h.cell .log
theorem TabAt.seats (h : TabAt C A G s H) : H (A.at_ .seats) = some (.lst [.ref (A.at_ (.seat true)), .ref (A.at_ (.seat false))]) := h.cell .seats
theorem TabAt.machs (h : TabAt C A G s H) : H (A.at_ .machs) = some (.lst [.ref (A.at_ (.mach true)), .ref (A.at_ (.mach false))]) := h.cell .machs
theorem TabAt.seat (h : TabAt C A G s H) (z : Bool) : H (A.at_ (.seat z)) = some (.ins C.seat (A.dx (.seat z)) (seatF (sea s z))) := h.cell (.seat z)
theorem TabAt.mach (h : TabAt C A G s H) (z : Bool) : H (A.at_ (.mach z)) = some (.ins C.mach (A.dx (.mach z)) (machF A z (cli s z) (G.rq z) (G.bt z))) := h.cell (.mach z)
theorem TabAt.moves (h : TabAt C A G s H) (z : Bool) : H (A.at_ (.moves z)) = some (.lst (vs (cli s z).known)) := h.cell (.moves z)
/-- new things beside it -/
theorem TabAt.same (h : TabAt C A G s H) (f : Same H H') : TabAt C A G s H' :=
  ⟨h.inj, h.cav, fun b hb => by obtain ⟨o, e⟩ := h.avs b hb; exact ⟨o, f _ _ e⟩, fun c => f _ _ (h.cell c), fun z => (h.req z).mono (.same f), fun z => (h.bank z).mono (.same f), h.net.mono (.same f)⟩
theorem same_new {p : Addr} {o : HO} (hp : H p = none) : Same H (upd H p o) := fun b u e => by
  rw [upd_ne (ne_of_none e hp)]
  exact e
theorem TabAt.new (h : TabAt C A G s H) {p : Addr} {o : HO} (hp : H p = none) : TabAt C A G s (upd H p o) := h.same (same_new hp)
/-- what is new is no part of it -/
theorem TabAt.free (h : TabAt C A G s H) {p : Addr} (hp : H p = none) : Out A p := by
  refine ⟨fun c e => ?_, fun q => ?_⟩
  · rw [e, h.cell c] at hp
    cases hp
  · obtain ⟨o, e⟩ := h.avs p q
    rw [e] at hp
    cases hp
theorem avs_upd {av : Addr → Prop} {a : Addr} {o : HO} (h : ∀ b, av b → ∃ o, H b = some o) : ∀ b, av b → ∃ u, upd H a o b = some u := fun b hb => by
  by_cases e : b = a
  · subst e
    exact ⟨o, upd_same⟩
  · obtain ⟨u, q⟩ := h b hb
    exact ⟨u, by rw [upd_ne e]; exact q⟩
/-- one of its things is changed -/
theorem TabAt.put (h : TabAt C A G s H) (c : Cell) {o : HO} {G' : Gh} {s' : State} (ho : obj C A G' s' c = o) (hd : ∀ d, d ≠ c → obj C A G' s' d = obj C A G s d)
    (hr : ∀ z, ReqAt C A (upd H (A.at_ c) o) z (cli s' z) (G'.rq z)) (hb : ∀ z, Im A (upd H (A.at_ c) o) (G'.bt z) (.tup [nV (cli s' z).b0, nV (cli s' z).b1])) (hn : NetAt C A (upd H (A.at_ c) o) s'.net G'.kvs) : TabAt C A G' s' (upd H (A.at_ c) o) := by
  refine ⟨h.inj, h.cav, avs_upd h.avs, fun d => ?_, hr, hb, hn⟩
  by_cases e : A.at_ d = A.at_ c
  · have := h.inj _ _ e
    subst this
    rw [upd_same, ho]
  · rw [upd_ne e, hd d (fun q => e (by rw [q])), h.cell d]
/-- .. and nothing of the messages, requests, banks -/
theorem TabAt.put0 (h : TabAt C A G s H) (c : Cell) {o : HO} {s' : State} (ho : obj C A G s' c = o) (hd : ∀ d, d ≠ c → obj C A G s' d = obj C A G s d)
    (hc : ∀ z, (cli s' z).ask = (cli s z).ask ∧ (cli s' z).epoch = (cli s z).epoch ∧ (cli s' z).b0 = (cli s z).b0 ∧ (cli s' z).b1 = (cli s z).b1) (hn : s'.net = s.net) : TabAt C A G s' (upd H (A.at_ c) o) := by
  refine h.put c ho hd (fun z => ?_) (fun z => ?_) ?_
  · have := (h.req z).mono (Frm.put (c := c) (o := o) Frm.refl)
    unfold ReqAt at this ⊢
    rw [(hc z).1, (hc z).2.1]
    exact this
  · have := (h.bank z).mono (Frm.put (c := c) (o := o) Frm.refl)
    rw [(hc z).2.2.1, (hc z).2.2.2]
    exact this
  · rw [hn]
    exact h.net.mono (Frm.put Frm.refl)
theorem cli_setSeat (p : Nat) (x : Seat) (z : Bool) : cli (Vbdcas.setSeat s p x) z = cli s z := by
  unfold Vbdcas.setSeat
  split <;> cases z <;> rfl
/-- a seat is changed -/
theorem TabAt.setSeat (h : TabAt C A G s H) (p : Nat) {x : Seat} {fs : List (Str × V)} (hf : fs = seatF x) : TabAt C A G (Vbdcas.setSeat s p x) (upd H (A.at_ (.seat (zb p))) (.ins C.seat (A.dx (.seat (zb p))) fs)) := by
  subst hf
  refine h.put0 (.seat (zb p)) ?_ (fun d hd => ?_) (fun z => by rw [cli_setSeat]; exact ⟨rfl, rfl, rfl, rfl⟩) (by unfold Vbdcas.setSeat; split <;> rfl)
  · show HO.ins _ _ (seatF (sea _ (zb p))) = _
    rw [sea_zb, seat_setSeat]
  · by_cases e : p = 0
    · subst e
      cases d with
      | seat z => cases z with
        | true => exact absurd rfl hd
        | false => rfl
      | mach z => cases z <;> rfl
      | moves z => cases z <;> rfl
      | _ => rfl
    · have ez : zb p = false := by simp [zb, e]
      rw [ez] at hd
      have es : Vbdcas.setSeat s p x = { s with s1 := x } := by unfold Vbdcas.setSeat; rw [if_neg e]
      rw [es]
      cases d with
      | seat z => cases z with
        | true => rfl
        | false => exact absurd rfl hd
      | mach z => cases z <;> rfl
      | moves z => cases z <;> rfl
      | _ => rfl
/-- the house's own fields are changed -/
theorem TabAt.setHouse (h : TabAt C A G s H) {ov si : Nat} {ru : Bool} {fs : List (Str × V)} (hf : fs = houseF A { s with over := ov, since := si, running := ru }) : TabAt C A G { s with over := ov, since := si, running := ru } (upd H (A.at_ .house) (.ins C.house (A.dx .house) fs)) := by
  subst hf
  refine h.put0 .house rfl (fun d hd => ?_) (fun z => by cases z <;> exact ⟨rfl, rfl, rfl, rfl⟩) rfl
  cases d with
  | house => exact absurd rfl hd
  | seat z => cases z <;> rfl
  | mach z => cases z <;> rfl
  | moves z => cases z <;> rfl
  | _ => rfl
theorem TabAt.setLog (h : TabAt C A G s H) {l : List Nat} {xs : List V} (hx : xs = vs l) : TabAt C A G { s with log := l } (upd H (A.at_ .log) (.lst xs)) := by
  subst hx
  refine h.put0 .log rfl (fun d hd => ?_) (fun z => by cases z <;> exact ⟨rfl, rfl, rfl, rfl⟩) rfl
  cases d with
  | log => exact absurd rfl hd
  | seat z => cases z <;> rfl
  | mach z => cases z <;> rfl
  | moves z => cases z <;> rfl
  | _ => rfl
theorem TabAt.setNow (h : TabAt C A G s H) {n : Nat} {fs : List (Str × V)} (hf : fs = tableF A { s with now := n }) : TabAt C A G { s with now := n } (upd H (A.at_ .table) (.ins C.table (A.dx .table) fs)) := by
  subst hf
  refine h.put0 .table rfl (fun d hd => ?_) (fun z => by cases z <;> exact ⟨rfl, rfl, rfl, rfl⟩) rfl
  cases d with
  | table => exact absurd rfl hd
  | seat z => cases z <;> rfl
  | mach z => cases z <;> rfl
  | moves z => cases z <;> rfl
  | _ => rfl
theorem TabAt.setNet (h : TabAt C A G s H) {n l : Nat} {fs : List (Str × V)} (hf : fs = netF A { s with next := n, lost := l }) : TabAt C A G { s with next := n, lost := l } (upd H (A.at_ .net) (.ins C.net (A.dx .net) fs)) := by
  subst hf
  refine h.put0 .net rfl (fun d hd => ?_) (fun z => by cases z <;> exact ⟨rfl, rfl, rfl, rfl⟩) rfl
  cases d with
  | net => exact absurd rfl hd
  | seat z => cases z <;> rfl
  | mach z => cases z <;> rfl
  | moves z => cases z <;> rfl
  | _ => rfl
/-- what waits on the net is changed -/
theorem TabAt.setWait (h : TabAt C A G s H) {l : List (Nat × Msg)} {kvs : List (Key × V)} (hn : NetAt C A H l kvs) : TabAt C A { G with kvs := kvs } { s with net := l } (upd H (A.at_ .wait) (.dK kvs)) := by
  refine h.put .wait rfl (fun d hd => ?_) (fun z => ?_) (fun z => ?_) (hn.mono (Frm.put Frm.refl))
  · cases d with
    | wait => exact absurd rfl hd
    | seat z => cases z <;> rfl
    | mach z => cases z <;> rfl
    | moves z => cases z <;> rfl
    | _ => rfl
  · have := (h.req z).mono (Frm.put (c := .wait) (o := .dK kvs) Frm.refl)
    cases z <;> exact this
  · have := (h.bank z).mono (Frm.put (c := .wait) (o := .dK kvs) Frm.refl)
    cases z <;> exact this
def setCli (s : State) (z : Bool) (c : Client) : State := match z with | true => { s with c0 := c } | false => { s with c1 := c }
theorem setCli_zb (s : State) (p : Nat) (c : Client) : setCli s (zb p) c = Vbdcas.setClient s p c := by
  unfold zb Vbdcas.setClient
  by_cases h : p = 0 <;> simp [h, setCli]
theorem cli_setCli (s : State) (z : Bool) (c : Client) : cli (setCli s z c) z = c := by cases z <;> rfl
def setRq (G : Gh) (z : Bool) (v : V) (b : Addr) : Gh := { G with rq := fun y => if y = z then v else G.rq y, bt := fun y => if y = z then b else G.bt y }
/-- a machine is changed (its moves stay) -/
theorem TabAt.setMach (h : TabAt C A G s H) (z : Bool) {c : Client} {rq : V} {bt : Addr} {fs : List (Str × V)} (hf : fs = machF A z c rq bt) (hk : c.known = (cli s z).known) (hr : ReqAt C A H z c rq) (hb : Im A H bt (.tup [nV c.b0, nV c.b1])) :
    TabAt C A (setRq G z rq bt) (setCli s z c) (upd H (A.at_ (.mach z)) (.ins C.mach (A.dx (.mach z)) fs)) := by
  subst hf
  have f : Frm A H (upd H (A.at_ (.mach z)) (.ins C.mach (A.dx (.mach z)) (machF A z c rq bt))) := Frm.put Frm.refl
  refine h.put (.mach z) ?_ (fun d hd => ?_) (fun y => ?_) (fun y => ?_) ?_
  · show HO.ins _ _ (machF A z (cli (setCli s z c) z) (if z = z then rq else _) (if z = z then bt else _)) = _
    rw [cli_setCli, if_pos rfl, if_pos rfl]
  · cases d with
    | mach y =>
      have hy : y ≠ z := fun e => hd (by rw [e])
      have : cli (setCli s z c) y = cli s y := by cases y <;> cases z <;> first | rfl | exact absurd rfl hy
      show HO.ins _ _ (machF A y (cli (setCli s z c) y) (if y = z then rq else G.rq y) (if y = z then bt else G.bt y)) = _
      rw [this, if_neg hy, if_neg hy]
      rfl
    | moves y =>
      show HO.lst (vs (cli (setCli s z c) y).known) = HO.lst (vs (cli s y).known)
      cases y <;> cases z <;> first | rfl | exact congrArg (fun l => HO.lst (vs l)) hk
    | seat y => cases y <;> cases z <;> rfl
    | _ => cases z <;> rfl
  · by_cases e : y = z
    · subst e
      show ReqAt C A _ y (cli (setCli s y c) y) (if y = y then rq else _)
      rw [cli_setCli, if_pos rfl]
      exact hr.mono f
    · have q : cli (setCli s z c) y = cli s y := by cases y <;> cases z <;> first | rfl | exact absurd rfl e
      show ReqAt C A _ y (cli (setCli s z c) y) (if y = z then rq else G.rq y)
      rw [q, if_neg e]
      exact (h.req y).mono f
  · by_cases e : y = z
    · subst e
      show Im A _ (if y = y then bt else _) (.tup [nV (cli (setCli s y c) y).b0, nV (cli (setCli s y c) y).b1])
      rw [cli_setCli, if_pos rfl]
      exact hb.mono f
    · have q : cli (setCli s z c) y = cli s y := by cases y <;> cases z <;> first | rfl | exact absurd rfl e
      show Im A _ (if y = z then bt else G.bt y) (.tup [nV (cli (setCli s z c) y).b0, nV (cli (setCli s z c) y).b1])
      rw [q, if_neg e]
      exact (h.bank y).mono f
  · cases z <;> exact h.net.mono f
theorem TabAt.setMoves (h : TabAt C A G s H) (z : Bool) {l : List Nat} {xs : List V} (hx : xs = vs l) : TabAt C A G (setCli s z { cli s z with known := l }) (upd H (A.at_ (.moves z)) (.lst xs)) := by
  subst hx
  refine h.put0 (.moves z) (by show HO.lst (vs (cli (setCli s z { cli s z with known := l }) z).known) = _; rw [cli_setCli]) (fun d hd => ?_) (fun y => ?_) (by cases z <;> rfl)
  · cases d with
    | moves y =>
      have hy : y ≠ z := fun e => hd (by rw [e])
      have : cli (setCli s z { cli s z with known := l }) y = cli s y := by cases y <;> cases z <;> first | rfl | exact absurd rfl hy
      show HO.lst (vs (cli (setCli s z _) y).known) = _
      rw [this]
      rfl
    | mach y =>
      by_cases e : y = z
      · subst e
        show HO.ins _ _ (machF A y (cli (setCli s y _) y) _ _) = _
        rw [cli_setCli]
        rfl
      · have : cli (setCli s z { cli s z with known := l }) y = cli s y := by cases y <;> cases z <;> first | rfl | exact absurd rfl e
        show HO.ins _ _ (machF A y (cli (setCli s z _) y) _ _) = _
        rw [this]
        rfl
    | seat y => cases y <;> cases z <;> rfl
    | _ => cases z <;> rfl
  · by_cases e : y = z
    · subst e
      rw [cli_setCli]
      exact ⟨rfl, rfl, rfl, rfl⟩
    · have : cli (setCli s z { cli s z with known := l }) y = cli s y := by cases y <;> cases z <;> first | rfl | exact absurd rfl e
      rw [this]
      exact ⟨rfl, rfl, rfl, rfl⟩
/-- something of others is changed -/
theorem TabAt.aside (h : TabAt C A G s H) {g : Addr} {o : HO} (hg : A.av g) : TabAt C A G s (upd H g o) := by
  have im : ∀ {a : Addr} {u : HO}, Im A H a u → Im A (upd H g o) a u := fun {a u} i => ⟨i.1, by rw [upd_ne (fun e => i.1.2 (by rw [e]; exact hg))]; exact i.2⟩
  refine ⟨h.inj, h.cav, avs_upd h.avs, fun c => by rw [upd_ne (fun e => h.cav c (by rw [e]; exact hg))]; exact h.cell c, fun z => ?_, fun z => im (h.bank z), ?_⟩
  · have := h.req z
    unfold ReqAt at this ⊢
    revert this
    cases (cli s z).ask with
    | none => exact id
    | some a => rintro ⟨ad, dx, e, i⟩; exact ⟨ad, dx, e, im i⟩
  · refine Paired.mapP h.net fun x kv q => ⟨q.1, ?_⟩
    have := q.2
    revert this
    cases x.2 with
    | hello p e => rintro ⟨a, dx, e, i⟩; exact ⟨a, dx, e, im i⟩
    | req p e id ply move think => rintro ⟨a, dx, e, i⟩; exact ⟨a, dx, e, im i⟩
    | ack p e n => rintro ⟨a, dx, e, i⟩; exact ⟨a, dx, e, im i⟩
    | news p e f ms hd b0 b1 ov => rintro ⟨a, dx, l, t, e, i, j, k⟩; exact ⟨a, dx, l, t, e, im i, im j, im k⟩
theorem at_side {x y : V} {p : Nat} (hp : p < 2) : atI [x, y] (p : Int) = some (if p = 0 then x else y) := by
  have : p = 0 ∨ p = 1 := by omega
  rcases this with rfl | rfl <;> exact atI_nat rfl
theorem NetAt.len {l : List (Nat × Msg)} {kvs : List (Key × V)} (h : NetAt C A H l kvs) : l.length = kvs.length := Paired.length h
end
end Nd

set_option Elab.async false
set_option linter.all false
set_option maxRecDepth 100000
set_option maxHeartbeats 2000000
namespace Nd
open PySem PySem.Spec PyProof.Rows L2
open Vbdcas (State Msg Seat Client Ask)
/-- a tuple of the text -/
def KTup (K : PySem.W.Frag) (a : Addr) (xs : List V) : Prop := ∃ (o : Obj) (its : Array Value) (n : Nat), K.lookup a = some o ∧ o.cls = .type "tuple" ∧ o.data = .seq its n ∧ its.size ≤ sizeLine ∧ Vals xs its.toList
def top (i : Nat) : Stmt := PySem.Challenge.pw_netduel_s01_answers.main.body.getD i (.Pass ⟨0, 0, 0, 0⟩)
abbrev s_K_Hello : Stmt := inClass (top 5) 0
abbrev n_K_Hello : List Str := ["self", "side", "epoch"]
abbrev p_K_Hello : List Str := ["self", "side", "epoch"]
theorem sc_K_Hello : FnScope n_K_Hello p_K_Hello (defScope s_K_Hello) := ⟨rfl, rfl, rfl, by decide +kernel, rfl, by decide +kernel, by decide +kernel⟩
theorem ba_K_Hello : BA "__init__" "Hello.__init__" s_K_Hello p_K_Hello := fun _ _ _ _ _ _ us hl => by obtain ⟨_, _, _, rfl⟩ := len3 hl; rfl
abbrev s_M_Hello_told : Stmt := inClass (top 5) 1
abbrev n_M_Hello_told : List Str := ["self"]
abbrev p_M_Hello_told : List Str := ["self"]
theorem sc_M_Hello_told : FnScope n_M_Hello_told p_M_Hello_told (defScope s_M_Hello_told) := ⟨rfl, rfl, rfl, by decide +kernel, rfl, by decide +kernel, by decide +kernel⟩
theorem ba_M_Hello_told : BA "told" "Hello.told" s_M_Hello_told p_M_Hello_told := fun _ _ _ _ _ _ us hl => by obtain ⟨_, rfl⟩ := len1 hl; rfl
abbrev s_K_Request : Stmt := inClass (top 6) 0
abbrev n_K_Request : List Str := ["self", "side", "epoch", "number", "ply", "move", "thought"]
abbrev p_K_Request : List Str := ["self", "side", "epoch", "number", "ply", "move", "thought"]
theorem sc_K_Request : FnScope n_K_Request p_K_Request (defScope s_K_Request) := ⟨rfl, rfl, rfl, by decide +kernel, rfl, by decide +kernel, by decide +kernel⟩
theorem ba_K_Request : BA "__init__" "Request.__init__" s_K_Request p_K_Request := fun _ _ _ _ _ _ us hl => by obtain ⟨_, _, _, _, _, _, _, rfl⟩ := len7 hl; rfl
abbrev s_M_Request_told : Stmt := inClass (top 6) 1
abbrev n_M_Request_told : List Str := ["self"]
abbrev p_M_Request_told : List Str := ["self"]
theorem sc_M_Request_told : FnScope n_M_Request_told p_M_Request_told (defScope s_M_Request_told) := ⟨rfl, rfl, rfl, by decide +kernel, rfl, by decide +kernel, by decide +kernel⟩
theorem ba_M_Request_told : BA "told" "Request.told" s_M_Request_told p_M_Request_told := fun _ _ _ _ _ _ us hl => by obtain ⟨_, rfl⟩ := len1 hl; rfl
abbrev s_K_Ack : Stmt := inClass (top 7) 0
abbrev n_K_Ack : List Str := ["self", "side", "epoch", "known"]
abbrev p_K_Ack : List Str := ["self", "side", "epoch", "known"]
theorem sc_K_Ack : FnScope n_K_Ack p_K_Ack (defScope s_K_Ack) := ⟨rfl, rfl, rfl, by decide +kernel, rfl, by decide +kernel, by decide +kernel⟩
theorem ba_K_Ack : BA "__init__" "Ack.__init__" s_K_Ack p_K_Ack := fun _ _ _ _ _ _ us hl => by obtain ⟨_, _, _, _, rfl⟩ := len4 hl; rfl
abbrev s_M_Ack_told : Stmt := inClass (top 7) 1
abbrev n_M_Ack_told : List Str := ["self"]
abbrev p_M_Ack_told : List Str := ["self"]
theorem sc_M_Ack_told : FnScope n_M_Ack_told p_M_Ack_told (defScope s_M_Ack_told) := ⟨rfl, rfl, rfl, by decide +kernel, rfl, by decide +kernel, by decide +kernel⟩
theorem ba_M_Ack_told : BA "told" "Ack.told" s_M_Ack_told p_M_Ack_told := fun _ _ _ _ _ _ us hl => by obtain ⟨_, rfl⟩ := len1 hl; rfl
abbrev s_K_News : Stmt := inClass (top 8) 0
abbrev n_K_News : List Str := ["self", "side", "epoch", "place", "moves", "handled", "banks", "result"]
abbrev p_K_News : List Str := ["self", "side", "epoch", "place", "moves", "handled", "banks", "result"]
theorem sc_K_News : FnScope n_K_News p_K_News (defScope s_K_News) := ⟨rfl, rfl, rfl, by decide +kernel, rfl, by decide +kernel, by decide +kernel⟩
theorem ba_K_News : BA "__init__" "News.__init__" s_K_News p_K_News := fun _ _ _ _ _ _ us hl => by obtain ⟨_, _, _, _, _, _, _, _, rfl⟩ := len8 hl; rfl
abbrev s_M_News_told : Stmt := inClass (top 8) 1
abbrev n_M_News_told : List Str := ["self", "given"]
abbrev p_M_News_told : List Str := ["self"]
theorem sc_M_News_told : FnScope n_M_News_told p_M_News_told (defScope s_M_News_told) := ⟨rfl, rfl, rfl, by decide +kernel, rfl, by decide +kernel, by decide +kernel⟩
theorem ba_M_News_told : BA "told" "News.told" s_M_News_told p_M_News_told := fun _ _ _ _ _ _ us hl => by obtain ⟨_, rfl⟩ := len1 hl; rfl
abbrev s_K_Seat : Stmt := inClass (top 10) 0
abbrev n_K_Seat : List Str := ["self", "bank"]
abbrev p_K_Seat : List Str := ["self", "bank"]
theorem sc_K_Seat : FnScope n_K_Seat p_K_Seat (defScope s_K_Seat) := ⟨rfl, rfl, rfl, by decide +kernel, rfl, by decide +kernel, by decide +kernel⟩
theorem ba_K_Seat : BA "__init__" "Seat.__init__" s_K_Seat p_K_Seat := fun _ _ _ _ _ _ us hl => by obtain ⟨_, _, rfl⟩ := len2 hl; rfl
abbrev s_M_Seat_begin : Stmt := inClass (top 10) 1
abbrev n_M_Seat_begin : List Str := ["self", "epoch"]
abbrev p_M_Seat_begin : List Str := ["self", "epoch"]
theorem sc_M_Seat_begin : FnScope n_M_Seat_begin p_M_Seat_begin (defScope s_M_Seat_begin) := ⟨rfl, rfl, rfl, by decide +kernel, rfl, by decide +kernel, by decide +kernel⟩
theorem ba_M_Seat_begin : BA "begin" "Seat.begin" s_M_Seat_begin p_M_Seat_begin := fun _ _ _ _ _ _ us hl => by obtain ⟨_, _, rfl⟩ := len2 hl; rfl
abbrev s_M_Seat_pay : Stmt := inClass (top 10) 2
abbrev n_M_Seat_pay : List Str := ["self", "cost"]
abbrev p_M_Seat_pay : List Str := ["self", "cost"]
theorem sc_M_Seat_pay : FnScope n_M_Seat_pay p_M_Seat_pay (defScope s_M_Seat_pay) := ⟨rfl, rfl, rfl, by decide +kernel, rfl, by decide +kernel, by decide +kernel⟩
theorem ba_M_Seat_pay : BA "pay" "Seat.pay" s_M_Seat_pay p_M_Seat_pay := fun _ _ _ _ _ _ us hl => by obtain ⟨_, _, rfl⟩ := len2 hl; rfl
abbrev s_M_Seat_told : Stmt := inClass (top 10) 3
abbrev n_M_Seat_told : List Str := ["self"]
abbrev p_M_Seat_told : List Str := ["self"]
theorem sc_M_Seat_told : FnScope n_M_Seat_told p_M_Seat_told (defScope s_M_Seat_told) := ⟨rfl, rfl, rfl, by decide +kernel, rfl, by decide +kernel, by decide +kernel⟩
theorem ba_M_Seat_told : BA "told" "Seat.told" s_M_Seat_told p_M_Seat_told := fun _ _ _ _ _ _ us hl => by obtain ⟨_, rfl⟩ := len1 hl; rfl
abbrev s_K_House : Stmt := inClass (top 16) 0
abbrev n_K_House : List Str := ["self", "bank0", "bank1", "increment", "lag"]
abbrev p_K_House : List Str := ["self", "bank0", "bank1", "increment", "lag"]
theorem sc_K_House : FnScope n_K_House p_K_House (defScope s_K_House) := ⟨rfl, rfl, rfl, by decide +kernel, rfl, by decide +kernel, by decide +kernel⟩
theorem ba_K_House : BA "__init__" "House.__init__" s_K_House p_K_House := fun _ _ _ _ _ _ us hl => by obtain ⟨_, _, _, _, _, rfl⟩ := len5 hl; rfl
abbrev s_M_House_side_to_move : Stmt := inClass (top 16) 1
abbrev n_M_House_side_to_move : List Str := ["self"]
abbrev p_M_House_side_to_move : List Str := ["self"]
theorem sc_M_House_side_to_move : FnScope n_M_House_side_to_move p_M_House_side_to_move (defScope s_M_House_side_to_move) := ⟨rfl, rfl, rfl, by decide +kernel, rfl, by decide +kernel, by decide +kernel⟩
theorem ba_M_House_side_to_move : BA "side_to_move" "House.side_to_move" s_M_House_side_to_move p_M_House_side_to_move := fun _ _ _ _ _ _ us hl => by obtain ⟨_, rfl⟩ := len1 hl; rfl
abbrev s_M_House_has_had : Stmt := inClass (top 16) 2
abbrev n_M_House_has_had : List Str := ["self", "now"]
abbrev p_M_House_has_had : List Str := ["self", "now"]
theorem sc_M_House_has_had : FnScope n_M_House_has_had p_M_House_has_had (defScope s_M_House_has_had) := ⟨rfl, rfl, rfl, by decide +kernel, rfl, by decide +kernel, by decide +kernel⟩
theorem ba_M_House_has_had : BA "has_had" "House.has_had" s_M_House_has_had p_M_House_has_had := fun _ _ _ _ _ _ us hl => by obtain ⟨_, _, rfl⟩ := len2 hl; rfl
abbrev s_M_House_lose_on_time : Stmt := inClass (top 16) 3
abbrev n_M_House_lose_on_time : List Str := ["self", "side", "seat"]
abbrev p_M_House_lose_on_time : List Str := ["self", "side"]
theorem sc_M_House_lose_on_time : FnScope n_M_House_lose_on_time p_M_House_lose_on_time (defScope s_M_House_lose_on_time) := ⟨rfl, rfl, rfl, by decide +kernel, rfl, by decide +kernel, by decide +kernel⟩
theorem ba_M_House_lose_on_time : BA "lose_on_time" "House.lose_on_time" s_M_House_lose_on_time p_M_House_lose_on_time := fun _ _ _ _ _ _ us hl => by obtain ⟨_, _, rfl⟩ := len2 hl; rfl
abbrev s_M_House_check_clock : Stmt := inClass (top 16) 4
abbrev n_M_House_check_clock : List Str := ["self", "now", "side"]
abbrev p_M_House_check_clock : List Str := ["self", "now"]
theorem sc_M_House_check_clock : FnScope n_M_House_check_clock p_M_House_check_clock (defScope s_M_House_check_clock) := ⟨rfl, rfl, rfl, by decide +kernel, rfl, by decide +kernel, by decide +kernel⟩
theorem ba_M_House_check_clock : BA "check_clock" "House.check_clock" s_M_House_check_clock p_M_House_check_clock := fun _ _ _ _ _ _ us hl => by obtain ⟨_, _, rfl⟩ := len2 hl; rfl
abbrev s_M_House_restart : Stmt := inClass (top 16) 5
abbrev n_M_House_restart : List Str := ["self", "now", "mover", "seat"]
abbrev p_M_House_restart : List Str := ["self", "now"]
theorem sc_M_House_restart : FnScope n_M_House_restart p_M_House_restart (defScope s_M_House_restart) := ⟨rfl, rfl, rfl, by decide +kernel, rfl, by decide +kernel, by decide +kernel⟩
theorem ba_M_House_restart : BA "restart" "House.restart" s_M_House_restart p_M_House_restart := fun _ _ _ _ _ _ us hl => by obtain ⟨_, _, rfl⟩ := len2 hl; rfl
abbrev s_M_House_tell : Stmt := inClass (top 16) 6
abbrev n_M_House_tell : List Str := ["self", "side", "net", "seat", "place", "moves", "banks"]
abbrev p_M_House_tell : List Str := ["self", "side", "net"]
theorem sc_M_House_tell : FnScope n_M_House_tell p_M_House_tell (defScope s_M_House_tell) := ⟨rfl, rfl, rfl, by decide +kernel, rfl, by decide +kernel, by decide +kernel⟩
theorem ba_M_House_tell : BA "tell" "House.tell" s_M_House_tell p_M_House_tell := fun _ _ _ _ _ _ us hl => by obtain ⟨_, _, _, rfl⟩ := len3 hl; rfl
abbrev s_M_House_tell_both : Stmt := inClass (top 16) 7
abbrev n_M_House_tell_both : List Str := ["self", "net"]
abbrev p_M_House_tell_both : List Str := ["self", "net"]
theorem sc_M_House_tell_both : FnScope n_M_House_tell_both p_M_House_tell_both (defScope s_M_House_tell_both) := ⟨rfl, rfl, rfl, by decide +kernel, rfl, by decide +kernel, by decide +kernel⟩
theorem ba_M_House_tell_both : BA "tell_both" "House.tell_both" s_M_House_tell_both p_M_House_tell_both := fun _ _ _ _ _ _ us hl => by obtain ⟨_, _, rfl⟩ := len2 hl; rfl
abbrev s_M_House_hear : Stmt := inClass (top 16) 8
abbrev n_M_House_hear : List Str := ["self", "side", "now", "seat"]
abbrev p_M_House_hear : List Str := ["self", "side", "now"]
theorem sc_M_House_hear : FnScope n_M_House_hear p_M_House_hear (defScope s_M_House_hear) := ⟨rfl, rfl, rfl, by decide +kernel, rfl, by decide +kernel, by decide +kernel⟩
theorem ba_M_House_hear : BA "hear" "House.hear" s_M_House_hear p_M_House_hear := fun _ _ _ _ _ _ us hl => by obtain ⟨_, _, _, rfl⟩ := len3 hl; rfl
abbrev s_M_House_arrive : Stmt := inClass (top 16) 9
abbrev n_M_House_arrive : List Str := ["self", "message", "now", "net"]
abbrev p_M_House_arrive : List Str := ["self", "message", "now", "net"]
theorem sc_M_House_arrive : FnScope n_M_House_arrive p_M_House_arrive (defScope s_M_House_arrive) := ⟨rfl, rfl, rfl, by decide +kernel, rfl, by decide +kernel, by decide +kernel⟩
theorem ba_M_House_arrive : BA "arrive" "House.arrive" s_M_House_arrive p_M_House_arrive := fun _ _ _ _ _ _ us hl => by obtain ⟨_, _, _, _, rfl⟩ := len4 hl; rfl
abbrev s_M_House_take_hello : Stmt := inClass (top 16) 10
abbrev n_M_House_take_hello : List Str := ["self", "hello", "now", "net", "seat"]
abbrev p_M_House_take_hello : List Str := ["self", "hello", "now", "net"]
theorem sc_M_House_take_hello : FnScope n_M_House_take_hello p_M_House_take_hello (defScope s_M_House_take_hello) := ⟨rfl, rfl, rfl, by decide +kernel, rfl, by decide +kernel, by decide +kernel⟩
theorem ba_M_House_take_hello : BA "take_hello" "House.take_hello" s_M_House_take_hello p_M_House_take_hello := fun _ _ _ _ _ _ us hl => by obtain ⟨_, _, _, _, rfl⟩ := len4 hl; rfl
abbrev s_M_House_take_request : Stmt := inClass (top 16) 11
abbrev n_M_House_take_request : List Str := ["self", "request", "now", "net", "seat"]
abbrev p_M_House_take_request : List Str := ["self", "request", "now", "net"]
theorem sc_M_House_take_request : FnScope n_M_House_take_request p_M_House_take_request (defScope s_M_House_take_request) := ⟨rfl, rfl, rfl, by decide +kernel, rfl, by decide +kernel, by decide +kernel⟩
theorem ba_M_House_take_request : BA "take_request" "House.take_request" s_M_House_take_request p_M_House_take_request := fun _ _ _ _ _ _ us hl => by obtain ⟨_, _, _, _, rfl⟩ := len4 hl; rfl
abbrev s_M_House_take_ack : Stmt := inClass (top 16) 12
abbrev n_M_House_take_ack : List Str := ["self", "ack", "now", "net", "seat"]
abbrev p_M_House_take_ack : List Str := ["self", "ack", "now", "net"]
theorem sc_M_House_take_ack : FnScope n_M_House_take_ack p_M_House_take_ack (defScope s_M_House_take_ack) := ⟨rfl, rfl, rfl, by decide +kernel, rfl, by decide +kernel, by decide +kernel⟩
theorem ba_M_House_take_ack : BA "take_ack" "House.take_ack" s_M_House_take_ack p_M_House_take_ack := fun _ _ _ _ _ _ us hl => by obtain ⟨_, _, _, _, rfl⟩ := len4 hl; rfl
abbrev s_M_House_allows : Stmt := inClass (top 16) 13
abbrev n_M_House_allows : List Str := ["self", "request"]
abbrev p_M_House_allows : List Str := ["self", "request"]
theorem sc_M_House_allows : FnScope n_M_House_allows p_M_House_allows (defScope s_M_House_allows) := ⟨rfl, rfl, rfl, by decide +kernel, rfl, by decide +kernel, by decide +kernel⟩
theorem ba_M_House_allows : BA "allows" "House.allows" s_M_House_allows p_M_House_allows := fun _ _ _ _ _ _ us hl => by obtain ⟨_, _, rfl⟩ := len2 hl; rfl
abbrev s_M_House_cost_of : Stmt := inClass (top 16) 14
abbrev n_M_House_cost_of : List Str := ["self", "thought", "now", "had"]
abbrev p_M_House_cost_of : List Str := ["self", "thought", "now"]
theorem sc_M_House_cost_of : FnScope n_M_House_cost_of p_M_House_cost_of (defScope s_M_House_cost_of) := ⟨rfl, rfl, rfl, by decide +kernel, rfl, by decide +kernel, by decide +kernel⟩
theorem ba_M_House_cost_of : BA "cost_of" "House.cost_of" s_M_House_cost_of p_M_House_cost_of := fun _ _ _ _ _ _ us hl => by obtain ⟨_, _, _, rfl⟩ := len3 hl; rfl
abbrev s_M_House_look_at : Stmt := inClass (top 16) 15
abbrev n_M_House_look_at : List Str := ["self", "request", "now", "seat", "cost"]
abbrev p_M_House_look_at : List Str := ["self", "request", "now"]
theorem sc_M_House_look_at : FnScope n_M_House_look_at p_M_House_look_at (defScope s_M_House_look_at) := ⟨rfl, rfl, rfl, by decide +kernel, rfl, by decide +kernel, by decide +kernel⟩
theorem ba_M_House_look_at : BA "look_at" "House.look_at" s_M_House_look_at p_M_House_look_at := fun _ _ _ _ _ _ us hl => by obtain ⟨_, _, _, rfl⟩ := len3 hl; rfl
abbrev s_K_Machine : Stmt := inClass (top 18) 0
abbrev n_K_Machine : List Str := ["self", "side", "epoch"]
abbrev p_K_Machine : List Str := ["self", "side", "epoch"]
theorem sc_K_Machine : FnScope n_K_Machine p_K_Machine (defScope s_K_Machine) := ⟨rfl, rfl, rfl, by decide +kernel, rfl, by decide +kernel, by decide +kernel⟩
theorem ba_K_Machine : BA "__init__" "Machine.__init__" s_K_Machine p_K_Machine := fun _ _ _ _ _ _ us hl => by obtain ⟨_, _, _, rfl⟩ := len3 hl; rfl
abbrev s_M_Machine_is_to_move : Stmt := inClass (top 18) 1
abbrev n_M_Machine_is_to_move : List Str := ["self"]
abbrev p_M_Machine_is_to_move : List Str := ["self"]
theorem sc_M_Machine_is_to_move : FnScope n_M_Machine_is_to_move p_M_Machine_is_to_move (defScope s_M_Machine_is_to_move) := ⟨rfl, rfl, rfl, by decide +kernel, rfl, by decide +kernel, by decide +kernel⟩
theorem ba_M_Machine_is_to_move : BA "is_to_move" "Machine.is_to_move" s_M_Machine_is_to_move p_M_Machine_is_to_move := fun _ _ _ _ _ _ us hl => by obtain ⟨_, rfl⟩ := len1 hl; rfl
abbrev s_M_Machine_can_press : Stmt := inClass (top 18) 2
abbrev n_M_Machine_can_press : List Str := ["self"]
abbrev p_M_Machine_can_press : List Str := ["self"]
theorem sc_M_Machine_can_press : FnScope n_M_Machine_can_press p_M_Machine_can_press (defScope s_M_Machine_can_press) := ⟨rfl, rfl, rfl, by decide +kernel, rfl, by decide +kernel, by decide +kernel⟩
theorem ba_M_Machine_can_press : BA "can_press" "Machine.can_press" s_M_Machine_can_press p_M_Machine_can_press := fun _ _ _ _ _ _ us hl => by obtain ⟨_, rfl⟩ := len1 hl; rfl
abbrev s_M_Machine_is_last_move : Stmt := inClass (top 18) 3
abbrev n_M_Machine_is_last_move : List Str := ["self", "move"]
abbrev p_M_Machine_is_last_move : List Str := ["self", "move"]
theorem sc_M_Machine_is_last_move : FnScope n_M_Machine_is_last_move p_M_Machine_is_last_move (defScope s_M_Machine_is_last_move) := ⟨rfl, rfl, rfl, by decide +kernel, rfl, by decide +kernel, by decide +kernel⟩
theorem ba_M_Machine_is_last_move : BA "is_last_move" "Machine.is_last_move" s_M_Machine_is_last_move p_M_Machine_is_last_move := fun _ _ _ _ _ _ us hl => by obtain ⟨_, _, rfl⟩ := len2 hl; rfl
abbrev s_M_Machine_press : Stmt := inClass (top 18) 4
abbrev n_M_Machine_press : List Str := ["self", "move", "now", "net", "thought", "request"]
abbrev p_M_Machine_press : List Str := ["self", "move", "now", "net"]
theorem sc_M_Machine_press : FnScope n_M_Machine_press p_M_Machine_press (defScope s_M_Machine_press) := ⟨rfl, rfl, rfl, by decide +kernel, rfl, by decide +kernel, by decide +kernel⟩
theorem ba_M_Machine_press : BA "press" "Machine.press" s_M_Machine_press p_M_Machine_press := fun _ _ _ _ _ _ us hl => by obtain ⟨_, _, _, _, rfl⟩ := len4 hl; rfl
abbrev s_M_Machine_send_ack : Stmt := inClass (top 18) 5
abbrev n_M_Machine_send_ack : List Str := ["self", "net"]
abbrev p_M_Machine_send_ack : List Str := ["self", "net"]
theorem sc_M_Machine_send_ack : FnScope n_M_Machine_send_ack p_M_Machine_send_ack (defScope s_M_Machine_send_ack) := ⟨rfl, rfl, rfl, by decide +kernel, rfl, by decide +kernel, by decide +kernel⟩
theorem ba_M_Machine_send_ack : BA "send_ack" "Machine.send_ack" s_M_Machine_send_ack p_M_Machine_send_ack := fun _ _ _ _ _ _ us hl => by obtain ⟨_, _, rfl⟩ := len2 hl; rfl
abbrev s_M_Machine_timer : Stmt := inClass (top 18) 6
abbrev n_M_Machine_timer : List Str := ["self", "net"]
abbrev p_M_Machine_timer : List Str := ["self", "net"]
theorem sc_M_Machine_timer : FnScope n_M_Machine_timer p_M_Machine_timer (defScope s_M_Machine_timer) := ⟨rfl, rfl, rfl, by decide +kernel, rfl, by decide +kernel, by decide +kernel⟩
theorem ba_M_Machine_timer : BA "timer" "Machine.timer" s_M_Machine_timer p_M_Machine_timer := fun _ _ _ _ _ _ us hl => by obtain ⟨_, _, rfl⟩ := len2 hl; rfl
abbrev s_M_Machine_take_news : Stmt := inClass (top 18) 7
abbrev n_M_Machine_take_news : List Str := ["self", "news", "now", "net", "was_on", "known"]
abbrev p_M_Machine_take_news : List Str := ["self", "news", "now", "net"]
theorem sc_M_Machine_take_news : FnScope n_M_Machine_take_news p_M_Machine_take_news (defScope s_M_Machine_take_news) := ⟨rfl, rfl, rfl, by decide +kernel, rfl, by decide +kernel, by decide +kernel⟩
theorem ba_M_Machine_take_news : BA "take_news" "Machine.take_news" s_M_Machine_take_news p_M_Machine_take_news := fun _ _ _ _ _ _ us hl => by obtain ⟨_, _, _, _, rfl⟩ := len4 hl; rfl
abbrev s_M_Machine_add_moves : Stmt := inClass (top 18) 8
abbrev n_M_Machine_add_moves : List Str := ["self", "news", "known"]
abbrev p_M_Machine_add_moves : List Str := ["self", "news"]
theorem sc_M_Machine_add_moves : FnScope n_M_Machine_add_moves p_M_Machine_add_moves (defScope s_M_Machine_add_moves) := ⟨rfl, rfl, rfl, by decide +kernel, rfl, by decide +kernel, by decide +kernel⟩
theorem ba_M_Machine_add_moves : BA "add_moves" "Machine.add_moves" s_M_Machine_add_moves p_M_Machine_add_moves := fun _ _ _ _ _ _ us hl => by obtain ⟨_, _, rfl⟩ := len2 hl; rfl
abbrev s_M_Machine_forget_request : Stmt := inClass (top 18) 9
abbrev n_M_Machine_forget_request : List Str := ["self", "handled"]
abbrev p_M_Machine_forget_request : List Str := ["self", "handled"]
theorem sc_M_Machine_forget_request : FnScope n_M_Machine_forget_request p_M_Machine_forget_request (defScope s_M_Machine_forget_request) := ⟨rfl, rfl, rfl, by decide +kernel, rfl, by decide +kernel, by decide +kernel⟩
theorem ba_M_Machine_forget_request : BA "forget_request" "Machine.forget_request" s_M_Machine_forget_request p_M_Machine_forget_request := fun _ _ _ _ _ _ us hl => by obtain ⟨_, _, rfl⟩ := len2 hl; rfl
abbrev s_M_Machine_told : Stmt := inClass (top 18) 10
abbrev n_M_Machine_told : List Str := ["self", "waits", "given"]
abbrev p_M_Machine_told : List Str := ["self"]
theorem sc_M_Machine_told : FnScope n_M_Machine_told p_M_Machine_told (defScope s_M_Machine_told) := ⟨rfl, rfl, rfl, by decide +kernel, rfl, by decide +kernel, by decide +kernel⟩
theorem ba_M_Machine_told : BA "told" "Machine.told" s_M_Machine_told p_M_Machine_told := fun _ _ _ _ _ _ us hl => by obtain ⟨_, rfl⟩ := len1 hl; rfl
abbrev s_K_Net : Stmt := inClass (top 21) 0
abbrev n_K_Net : List Str := ["self"]
abbrev p_K_Net : List Str := ["self"]
theorem sc_K_Net : FnScope n_K_Net p_K_Net (defScope s_K_Net) := ⟨rfl, rfl, rfl, by decide +kernel, rfl, by decide +kernel, by decide +kernel⟩
theorem ba_K_Net : BA "__init__" "Net.__init__" s_K_Net p_K_Net := fun _ _ _ _ _ _ us hl => by obtain ⟨_, rfl⟩ := len1 hl; rfl
abbrev s_M_Net_is_empty : Stmt := inClass (top 21) 1
abbrev n_M_Net_is_empty : List Str := ["self"]
abbrev p_M_Net_is_empty : List Str := ["self"]
theorem sc_M_Net_is_empty : FnScope n_M_Net_is_empty p_M_Net_is_empty (defScope s_M_Net_is_empty) := ⟨rfl, rfl, rfl, by decide +kernel, rfl, by decide +kernel, by decide +kernel⟩
theorem ba_M_Net_is_empty : BA "is_empty" "Net.is_empty" s_M_Net_is_empty p_M_Net_is_empty := fun _ _ _ _ _ _ us hl => by obtain ⟨_, rfl⟩ := len1 hl; rfl
abbrev s_M_Net_is_full : Stmt := inClass (top 21) 2
abbrev n_M_Net_is_full : List Str := ["self"]
abbrev p_M_Net_is_full : List Str := ["self"]
theorem sc_M_Net_is_full : FnScope n_M_Net_is_full p_M_Net_is_full (defScope s_M_Net_is_full) := ⟨rfl, rfl, rfl, by decide +kernel, rfl, by decide +kernel, by decide +kernel⟩
theorem ba_M_Net_is_full : BA "is_full" "Net.is_full" s_M_Net_is_full p_M_Net_is_full := fun _ _ _ _ _ _ us hl => by obtain ⟨_, rfl⟩ := len1 hl; rfl
abbrev s_M_Net_holds : Stmt := inClass (top 21) 3
abbrev n_M_Net_holds : List Str := ["self", "number"]
abbrev p_M_Net_holds : List Str := ["self", "number"]
theorem sc_M_Net_holds : FnScope n_M_Net_holds p_M_Net_holds (defScope s_M_Net_holds) := ⟨rfl, rfl, rfl, by decide +kernel, rfl, by decide +kernel, by decide +kernel⟩
theorem ba_M_Net_holds : BA "holds" "Net.holds" s_M_Net_holds p_M_Net_holds := fun _ _ _ _ _ _ us hl => by obtain ⟨_, _, rfl⟩ := len2 hl; rfl
abbrev s_M_Net_look : Stmt := inClass (top 21) 4
abbrev n_M_Net_look : List Str := ["self", "number"]
abbrev p_M_Net_look : List Str := ["self", "number"]
theorem sc_M_Net_look : FnScope n_M_Net_look p_M_Net_look (defScope s_M_Net_look) := ⟨rfl, rfl, rfl, by decide +kernel, rfl, by decide +kernel, by decide +kernel⟩
theorem ba_M_Net_look : BA "look" "Net.look" s_M_Net_look p_M_Net_look := fun _ _ _ _ _ _ us hl => by obtain ⟨_, _, rfl⟩ := len2 hl; rfl
abbrev s_M_Net_send : Stmt := inClass (top 21) 5
abbrev n_M_Net_send : List Str := ["self", "message", "number"]
abbrev p_M_Net_send : List Str := ["self", "message"]
theorem sc_M_Net_send : FnScope n_M_Net_send p_M_Net_send (defScope s_M_Net_send) := ⟨rfl, rfl, rfl, by decide +kernel, rfl, by decide +kernel, by decide +kernel⟩
theorem ba_M_Net_send : BA "send" "Net.send" s_M_Net_send p_M_Net_send := fun _ _ _ _ _ _ us hl => by obtain ⟨_, _, rfl⟩ := len2 hl; rfl
abbrev s_M_Net_take : Stmt := inClass (top 21) 6
abbrev n_M_Net_take : List Str := ["self", "number"]
abbrev p_M_Net_take : List Str := ["self", "number"]
theorem sc_M_Net_take : FnScope n_M_Net_take p_M_Net_take (defScope s_M_Net_take) := ⟨rfl, rfl, rfl, by decide +kernel, rfl, by decide +kernel, by decide +kernel⟩
theorem ba_M_Net_take : BA "take" "Net.take" s_M_Net_take p_M_Net_take := fun _ _ _ _ _ _ us hl => by obtain ⟨_, _, rfl⟩ := len2 hl; rfl
abbrev s_M_Net_take_oldest : Stmt := inClass (top 21) 7
abbrev n_M_Net_take_oldest : List Str := ["self"]
abbrev p_M_Net_take_oldest : List Str := ["self"]
theorem sc_M_Net_take_oldest : FnScope n_M_Net_take_oldest p_M_Net_take_oldest (defScope s_M_Net_take_oldest) := ⟨rfl, rfl, rfl, by decide +kernel, rfl, by decide +kernel, by decide +kernel⟩
theorem ba_M_Net_take_oldest : BA "take_oldest" "Net.take_oldest" s_M_Net_take_oldest p_M_Net_take_oldest := fun _ _ _ _ _ _ us hl => by obtain ⟨_, rfl⟩ := len1 hl; rfl
abbrev s_M_Net_told : Stmt := inClass (top 21) 8
abbrev n_M_Net_told : List Str := ["self", "given", "number", "message"]
abbrev p_M_Net_told : List Str := ["self"]
theorem sc_M_Net_told : FnScope n_M_Net_told p_M_Net_told (defScope s_M_Net_told) := ⟨rfl, rfl, rfl, by decide +kernel, rfl, by decide +kernel, by decide +kernel⟩
theorem ba_M_Net_told : BA "told" "Net.told" s_M_Net_told p_M_Net_told := fun _ _ _ _ _ _ us hl => by obtain ⟨_, rfl⟩ := len1 hl; rfl
abbrev s_K_Table : Stmt := inClass (top 24) 0
abbrev n_K_Table : List Str := ["self", "bank0", "bank1", "increment", "lag"]
abbrev p_K_Table : List Str := ["self", "bank0", "bank1", "increment", "lag"]
theorem sc_K_Table : FnScope n_K_Table p_K_Table (defScope s_K_Table) := ⟨rfl, rfl, rfl, by decide +kernel, rfl, by decide +kernel, by decide +kernel⟩
theorem ba_K_Table : BA "__init__" "Table.__init__" s_K_Table p_K_Table := fun _ _ _ _ _ _ us hl => by obtain ⟨_, _, _, _, _, rfl⟩ := len5 hl; rfl
abbrev s_M_Table_arrive : Stmt := inClass (top 24) 1
abbrev n_M_Table_arrive : List Str := ["self", "message"]
abbrev p_M_Table_arrive : List Str := ["self", "message"]
theorem sc_M_Table_arrive : FnScope n_M_Table_arrive p_M_Table_arrive (defScope s_M_Table_arrive) := ⟨rfl, rfl, rfl, by decide +kernel, rfl, by decide +kernel, by decide +kernel⟩
theorem ba_M_Table_arrive : BA "arrive" "Table.arrive" s_M_Table_arrive p_M_Table_arrive := fun _ _ _ _ _ _ us hl => by obtain ⟨_, _, rfl⟩ := len2 hl; rfl
abbrev s_M_Table_crash : Stmt := inClass (top 24) 2
abbrev n_M_Table_crash : List Str := ["self", "side", "epoch"]
abbrev p_M_Table_crash : List Str := ["self", "side"]
theorem sc_M_Table_crash : FnScope n_M_Table_crash p_M_Table_crash (defScope s_M_Table_crash) := ⟨rfl, rfl, rfl, by decide +kernel, rfl, by decide +kernel, by decide +kernel⟩
theorem ba_M_Table_crash : BA "crash" "Table.crash" s_M_Table_crash p_M_Table_crash := fun _ _ _ _ _ _ us hl => by obtain ⟨_, _, rfl⟩ := len2 hl; rfl
abbrev s_M_Table_restart : Stmt := inClass (top 24) 3
abbrev n_M_Table_restart : List Str := ["self"]
abbrev p_M_Table_restart : List Str := ["self"]
theorem sc_M_Table_restart : FnScope n_M_Table_restart p_M_Table_restart (defScope s_M_Table_restart) := ⟨rfl, rfl, rfl, by decide +kernel, rfl, by decide +kernel, by decide +kernel⟩
theorem ba_M_Table_restart : BA "restart" "Table.restart" s_M_Table_restart p_M_Table_restart := fun _ _ _ _ _ _ us hl => by obtain ⟨_, rfl⟩ := len1 hl; rfl
abbrev s_M_Table_go_round : Stmt := inClass (top 24) 4
abbrev n_M_Table_go_round : List Str := ["self", "machine"]
abbrev p_M_Table_go_round : List Str := ["self"]
theorem sc_M_Table_go_round : FnScope n_M_Table_go_round p_M_Table_go_round (defScope s_M_Table_go_round) := ⟨rfl, rfl, rfl, by decide +kernel, rfl, by decide +kernel, by decide +kernel⟩
theorem ba_M_Table_go_round : BA "go_round" "Table.go_round" s_M_Table_go_round p_M_Table_go_round := fun _ _ _ _ _ _ us hl => by obtain ⟨_, rfl⟩ := len1 hl; rfl
abbrev s_K_Desk : Stmt := inClass (top 72) 0
abbrev n_K_Desk : List Str := ["self"]
abbrev p_K_Desk : List Str := ["self"]
theorem sc_K_Desk : FnScope n_K_Desk p_K_Desk (defScope s_K_Desk) := ⟨rfl, rfl, rfl, by decide +kernel, rfl, by decide +kernel, by decide +kernel⟩
theorem ba_K_Desk : BA "__init__" "Desk.__init__" s_K_Desk p_K_Desk := fun _ _ _ _ _ _ us hl => by obtain ⟨_, rfl⟩ := len1 hl; rfl
abbrev s_M_Desk_answer : Stmt := inClass (top 72) 1
abbrev n_M_Desk_answer : List Str := ["self", "call", "numbers"]
abbrev p_M_Desk_answer : List Str := ["self", "call", "numbers"]
theorem sc_M_Desk_answer : FnScope n_M_Desk_answer p_M_Desk_answer (defScope s_M_Desk_answer) := ⟨rfl, rfl, rfl, by decide +kernel, rfl, by decide +kernel, by decide +kernel⟩
theorem ba_M_Desk_answer : BA "answer" "Desk.answer" s_M_Desk_answer p_M_Desk_answer := fun _ _ _ _ _ _ us hl => by obtain ⟨_, _, _, rfl⟩ := len3 hl; rfl
abbrev s_M_Desk_set_table : Stmt := inClass (top 72) 2
abbrev n_M_Desk_set_table : List Str := ["self", "numbers", "table"]
abbrev p_M_Desk_set_table : List Str := ["self", "numbers"]
theorem sc_M_Desk_set_table : FnScope n_M_Desk_set_table p_M_Desk_set_table (defScope s_M_Desk_set_table) := ⟨rfl, rfl, rfl, by decide +kernel, rfl, by decide +kernel, by decide +kernel⟩
theorem ba_M_Desk_set_table : BA "set_table" "Desk.set_table" s_M_Desk_set_table p_M_Desk_set_table := fun _ _ _ _ _ _ us hl => by obtain ⟨_, _, rfl⟩ := len2 hl; rfl
abbrev s_F_within : Stmt := top 38
abbrev n_F_within : List Str := ["number", "least", "most"]
abbrev p_F_within : List Str := ["number", "least", "most"]
theorem sc_F_within : FnScope n_F_within p_F_within (defScope s_F_within) := ⟨rfl, rfl, rfl, by decide +kernel, rfl, by decide +kernel, by decide +kernel⟩
theorem ba_F_within : BA "within" "within" s_F_within p_F_within := fun _ _ _ _ _ _ us hl => by obtain ⟨_, _, _, rfl⟩ := len3 hl; rfl
abbrev s_F_is_side : Stmt := top 39
abbrev n_F_is_side : List Str := ["number"]
abbrev p_F_is_side : List Str := ["number"]
theorem sc_F_is_side : FnScope n_F_is_side p_F_is_side (defScope s_F_is_side) := ⟨rfl, rfl, rfl, by decide +kernel, rfl, by decide +kernel, by decide +kernel⟩
theorem ba_F_is_side : BA "is_side" "is_side" s_F_is_side p_F_is_side := fun _ _ _ _ _ _ us hl => by obtain ⟨_, rfl⟩ := len1 hl; rfl
abbrev s_F_new_table : Stmt := top 40
abbrev n_F_new_table : List Str := ["bank0", "bank1", "increment", "lag"]
abbrev p_F_new_table : List Str := ["bank0", "bank1", "increment", "lag"]
theorem sc_F_new_table : FnScope n_F_new_table p_F_new_table (defScope s_F_new_table) := ⟨rfl, rfl, rfl, by decide +kernel, rfl, by decide +kernel, by decide +kernel⟩
theorem ba_F_new_table : BA "new_table" "new_table" s_F_new_table p_F_new_table := fun _ _ _ _ _ _ us hl => by obtain ⟨_, _, _, _, rfl⟩ := len4 hl; rfl
abbrev s_F_tick : Stmt := top 41
abbrev n_F_tick : List Str := ["table", "ms"]
abbrev p_F_tick : List Str := ["table", "ms"]
theorem sc_F_tick : FnScope n_F_tick p_F_tick (defScope s_F_tick) := ⟨rfl, rfl, rfl, by decide +kernel, rfl, by decide +kernel, by decide +kernel⟩
theorem ba_F_tick : BA "tick" "tick" s_F_tick p_F_tick := fun _ _ _ _ _ _ us hl => by obtain ⟨_, _, rfl⟩ := len2 hl; rfl
abbrev s_F_press : Stmt := top 42
abbrev n_F_press : List Str := ["table", "side", "move", "machine", "request"]
abbrev p_F_press : List Str := ["table", "side", "move"]
theorem sc_F_press : FnScope n_F_press p_F_press (defScope s_F_press) := ⟨rfl, rfl, rfl, by decide +kernel, rfl, by decide +kernel, by decide +kernel⟩
theorem ba_F_press : BA "press" "press" s_F_press p_F_press := fun _ _ _ _ _ _ us hl => by obtain ⟨_, _, _, rfl⟩ := len3 hl; rfl
abbrev s_F_again : Stmt := top 43
abbrev n_F_again : List Str := ["table", "side"]
abbrev p_F_again : List Str := ["table", "side"]
theorem sc_F_again : FnScope n_F_again p_F_again (defScope s_F_again) := ⟨rfl, rfl, rfl, by decide +kernel, rfl, by decide +kernel, by decide +kernel⟩
theorem ba_F_again : BA "again" "again" s_F_again p_F_again := fun _ _ _ _ _ _ us hl => by obtain ⟨_, _, rfl⟩ := len2 hl; rfl
abbrev s_F_nudge : Stmt := top 44
abbrev n_F_nudge : List Str := ["table"]
abbrev p_F_nudge : List Str := ["table"]
theorem sc_F_nudge : FnScope n_F_nudge p_F_nudge (defScope s_F_nudge) := ⟨rfl, rfl, rfl, by decide +kernel, rfl, by decide +kernel, by decide +kernel⟩
theorem ba_F_nudge : BA "nudge" "nudge" s_F_nudge p_F_nudge := fun _ _ _ _ _ _ us hl => by obtain ⟨_, rfl⟩ := len1 hl; rfl
abbrev s_F_deliver : Stmt := top 45
abbrev n_F_deliver : List Str := ["table", "number", "message"]
abbrev p_F_deliver : List Str := ["table", "number"]
theorem sc_F_deliver : FnScope n_F_deliver p_F_deliver (defScope s_F_deliver) := ⟨rfl, rfl, rfl, by decide +kernel, rfl, by decide +kernel, by decide +kernel⟩
theorem ba_F_deliver : BA "deliver" "deliver" s_F_deliver p_F_deliver := fun _ _ _ _ _ _ us hl => by obtain ⟨_, _, rfl⟩ := len2 hl; rfl
abbrev s_F_drop : Stmt := top 46
abbrev n_F_drop : List Str := ["table", "number"]
abbrev p_F_drop : List Str := ["table", "number"]
theorem sc_F_drop : FnScope n_F_drop p_F_drop (defScope s_F_drop) := ⟨rfl, rfl, rfl, by decide +kernel, rfl, by decide +kernel, by decide +kernel⟩
theorem ba_F_drop : BA "drop" "drop" s_F_drop p_F_drop := fun _ _ _ _ _ _ us hl => by obtain ⟨_, _, rfl⟩ := len2 hl; rfl
abbrev s_F_double : Stmt := top 47
abbrev n_F_double : List Str := ["table", "number"]
abbrev p_F_double : List Str := ["table", "number"]
theorem sc_F_double : FnScope n_F_double p_F_double (defScope s_F_double) := ⟨rfl, rfl, rfl, by decide +kernel, rfl, by decide +kernel, by decide +kernel⟩
theorem ba_F_double : BA "double" "double" s_F_double p_F_double := fun _ _ _ _ _ _ us hl => by obtain ⟨_, _, rfl⟩ := len2 hl; rfl
abbrev s_F_crash : Stmt := top 48
abbrev n_F_crash : List Str := ["table", "side"]
abbrev p_F_crash : List Str := ["table", "side"]
theorem sc_F_crash : FnScope n_F_crash p_F_crash (defScope s_F_crash) := ⟨rfl, rfl, rfl, by decide +kernel, rfl, by decide +kernel, by decide +kernel⟩
theorem ba_F_crash : BA "crash" "crash" s_F_crash p_F_crash := fun _ _ _ _ _ _ us hl => by obtain ⟨_, _, rfl⟩ := len2 hl; rfl
abbrev s_F_restart : Stmt := top 49
abbrev n_F_restart : List Str := ["table"]
abbrev p_F_restart : List Str := ["table"]
theorem sc_F_restart : FnScope n_F_restart p_F_restart (defScope s_F_restart) := ⟨rfl, rfl, rfl, by decide +kernel, rfl, by decide +kernel, by decide +kernel⟩
theorem ba_F_restart : BA "restart" "restart" s_F_restart p_F_restart := fun _ _ _ _ _ _ us hl => by obtain ⟨_, rfl⟩ := len1 hl; rfl
abbrev s_F_rounds : Stmt := top 50
abbrev n_F_rounds : List Str := ["table", "many", "done"]
abbrev p_F_rounds : List Str := ["table", "many"]
theorem sc_F_rounds : FnScope n_F_rounds p_F_rounds (defScope s_F_rounds) := ⟨rfl, rfl, rfl, by decide +kernel, rfl, by decide +kernel, by decide +kernel⟩
theorem ba_F_rounds : BA "rounds" "rounds" s_F_rounds p_F_rounds := fun _ _ _ _ _ _ us hl => by obtain ⟨_, _, rfl⟩ := len2 hl; rfl
abbrev s_F_show_net : Stmt := top 51
abbrev n_F_show_net : List Str := ["table"]
abbrev p_F_show_net : List Str := ["table"]
theorem sc_F_show_net : FnScope n_F_show_net p_F_show_net (defScope s_F_show_net) := ⟨rfl, rfl, rfl, by decide +kernel, rfl, by decide +kernel, by decide +kernel⟩
theorem ba_F_show_net : BA "show_net" "show_net" s_F_show_net p_F_show_net := fun _ _ _ _ _ _ us hl => by obtain ⟨_, rfl⟩ := len1 hl; rfl
abbrev s_F_show_house : Stmt := top 52
abbrev n_F_show_house : List Str := ["table", "house", "now", "runs", "given", "seat"]
abbrev p_F_show_house : List Str := ["table"]
theorem sc_F_show_house : FnScope n_F_show_house p_F_show_house (defScope s_F_show_house) := ⟨rfl, rfl, rfl, by decide +kernel, rfl, by decide +kernel, by decide +kernel⟩
theorem ba_F_show_house : BA "show_house" "show_house" s_F_show_house p_F_show_house := fun _ _ _ _ _ _ us hl => by obtain ⟨_, rfl⟩ := len1 hl; rfl
abbrev s_F_show_machine : Stmt := top 53
abbrev n_F_show_machine : List Str := ["table", "side"]
abbrev p_F_show_machine : List Str := ["table", "side"]
theorem sc_F_show_machine : FnScope n_F_show_machine p_F_show_machine (defScope s_F_show_machine) := ⟨rfl, rfl, rfl, by decide +kernel, rfl, by decide +kernel, by decide +kernel⟩
theorem ba_F_show_machine : BA "show_machine" "show_machine" s_F_show_machine p_F_show_machine := fun _ _ _ _ _ _ us hl => by obtain ⟨_, _, rfl⟩ := len2 hl; rfl
abbrev s_F_show_log : Stmt := top 54
abbrev n_F_show_log : List Str := ["table"]
abbrev p_F_show_log : List Str := ["table"]
theorem sc_F_show_log : FnScope n_F_show_log p_F_show_log (defScope s_F_show_log) := ⟨rfl, rfl, rfl, by decide +kernel, rfl, by decide +kernel, by decide +kernel⟩
theorem ba_F_show_log : BA "show_log" "show_log" s_F_show_log p_F_show_log := fun _ _ _ _ _ _ us hl => by obtain ⟨_, rfl⟩ := len1 hl; rfl
abbrev s_F_ask : Stmt := top 73
abbrev n_F_ask : List Str := ["table", "call", "numbers"]
abbrev p_F_ask : List Str := ["table", "call", "numbers"]
theorem sc_F_ask : FnScope n_F_ask p_F_ask (defScope s_F_ask) := ⟨rfl, rfl, rfl, by decide +kernel, rfl, by decide +kernel, by decide +kernel⟩
theorem ba_F_ask : BA "ask" "ask" s_F_ask p_F_ask := fun _ _ _ _ _ _ us hl => by obtain ⟨_, _, _, rfl⟩ := len3 hl; rfl
abbrev s_F_answers : Stmt := top 74
abbrev n_F_answers : List Str := ["calls", "desk", "given", "at", "call", "end", "answer"]
abbrev p_F_answers : List Str := ["calls"]
theorem sc_F_answers : FnScope n_F_answers p_F_answers (defScope s_F_answers) := ⟨rfl, rfl, rfl, by decide +kernel, rfl, by decide +kernel, by decide +kernel⟩
theorem ba_F_answers : BA "answers" "answers" s_F_answers p_F_answers := fun _ _ _ _ _ _ us hl => by obtain ⟨_, rfl⟩ := len1 hl; rfl
structure Txt (K : PySem.W.Frag) (mg : Str → Option Value) (C : Cs) : Prop where
  c_Hello : Cls K C.hello
  n_Hello_kind : NoAttr K C.hello "kind"
  n_Hello_side : NoAttr K C.hello "side"
  n_Hello_epoch : NoAttr K C.hello "epoch"
  c_Request : Cls K C.req
  n_Request_kind : NoAttr K C.req "kind"
  n_Request_side : NoAttr K C.req "side"
  n_Request_epoch : NoAttr K C.req "epoch"
  n_Request_number : NoAttr K C.req "number"
  n_Request_ply : NoAttr K C.req "ply"
  n_Request_move : NoAttr K C.req "move"
  n_Request_thought : NoAttr K C.req "thought"
  c_Ack : Cls K C.ack
  n_Ack_kind : NoAttr K C.ack "kind"
  n_Ack_side : NoAttr K C.ack "side"
  n_Ack_epoch : NoAttr K C.ack "epoch"
  n_Ack_known : NoAttr K C.ack "known"
  c_News : Cls K C.news
  n_News_kind : NoAttr K C.news "kind"
  n_News_side : NoAttr K C.news "side"
  n_News_epoch : NoAttr K C.news "epoch"
  n_News_place : NoAttr K C.news "place"
  n_News_moves : NoAttr K C.news "moves"
  n_News_handled : NoAttr K C.news "handled"
  n_News_banks : NoAttr K C.news "banks"
  n_News_result : NoAttr K C.news "result"
  c_Seat : Cls K C.seat
  n_Seat_epoch : NoAttr K C.seat "epoch"
  n_Seat_handled : NoAttr K C.seat "handled"
  n_Seat_acked : NoAttr K C.seat "acked"
  n_Seat_here : NoAttr K C.seat "here"
  n_Seat_bank : NoAttr K C.seat "bank"
  n_Seat_spent : NoAttr K C.seat "spent"
  c_House : Cls K C.house
  n_House_log : NoAttr K C.house "log"
  n_House_result : NoAttr K C.house "result"
  n_House_runs : NoAttr K C.house "runs"
  n_House_since : NoAttr K C.house "since"
  n_House_increment : NoAttr K C.house "increment"
  n_House_lag : NoAttr K C.house "lag"
  n_House_seats : NoAttr K C.house "seats"
  c_Machine : Cls K C.mach
  n_Machine_side : NoAttr K C.mach "side"
  n_Machine_epoch : NoAttr K C.mach "epoch"
  n_Machine_on : NoAttr K C.mach "on"
  n_Machine_moves : NoAttr K C.mach "moves"
  n_Machine_next_request : NoAttr K C.mach "next_request"
  n_Machine_request : NoAttr K C.mach "request"
  n_Machine_learned : NoAttr K C.mach "learned"
  n_Machine_banks : NoAttr K C.mach "banks"
  n_Machine_result : NoAttr K C.mach "result"
  c_Net : Cls K C.net
  n_Net_waiting : NoAttr K C.net "waiting"
  n_Net_next_number : NoAttr K C.net "next_number"
  n_Net_lost : NoAttr K C.net "lost"
  c_Table : Cls K C.table
  n_Table_time : NoAttr K C.table "time"
  n_Table_house : NoAttr K C.table "house"
  n_Table_machines : NoAttr K C.table "machines"
  n_Table_net : NoAttr K C.table "net"
  c_Desk : Cls K C.desk
  n_Desk_table : NoAttr K C.desk "table"
  g_HELLO : GI mg "HELLO" (0)
  g_REQUEST : GI mg "REQUEST" (1)
  g_ACK : GI mg "ACK" (2)
  g_NEWS : GI mg "NEWS" (3)
  g_GOES_ON : GI mg "GOES_ON" (0)
  g_EVEN : GI mg "EVEN" (3)
  g_FULL_LOG : GI mg "FULL_LOG" (60)
  g_MOVES_IN_NEWS : GI mg "MOVES_IN_NEWS" (4)
  g_MOST_MESSAGES : GI mg "MOST_MESSAGES" (64)
  g_FIRST_EPOCH : GI mg "FIRST_EPOCH" (1)
  g_DONE : GI mg "DONE" (0)
  g_OUT_OF_RANGE : GI mg "OUT_OF_RANGE" (-1)
  g_NO_SUCH_MESSAGE : GI mg "NO_SUCH_MESSAGE" (-2)
  g_NOT_NOW : GI mg "NOT_NOW" (-3)
  g_NET_IS_FULL : GI mg "NET_IS_FULL" (-4)
  g_SAME_MOVE : GI mg "SAME_MOVE" (-6)
  g_MOST_BANK : GI mg "MOST_BANK" (1000000000)
  g_MOST_INCREMENT : GI mg "MOST_INCREMENT" (1000000)
  g_MOST_LAG : GI mg "MOST_LAG" (100000)
  g_MOST_MS : GI mg "MOST_MS" (1000000000)
  g_MOST_MOVE : GI mg "MOST_MOVE" (999)
  g_MOST_ROUNDS : GI mg "MOST_ROUNDS" (10)
  g_NOT_SET : GI mg "NOT_SET" (-5)
  g_SET : GI mg "SET" (0)
  g_TICK : GI mg "TICK" (1)
  g_PRESS : GI mg "PRESS" (2)
  g_AGAIN : GI mg "AGAIN" (3)
  g_NUDGE : GI mg "NUDGE" (4)
  g_DELIVER : GI mg "DELIVER" (5)
  g_DROP : GI mg "DROP" (6)
  g_DOUBLE : GI mg "DOUBLE" (7)
  g_CRASH : GI mg "CRASH" (8)
  g_RESTART : GI mg "RESTART" (9)
  g_ROUNDS : GI mg "ROUNDS" (10)
  g_NET : GI mg "NET" (11)
  g_HOUSE : GI mg "HOUSE" (12)
  g_MACHINE : GI mg "MACHINE" (13)
  a_HOW_MANY : ∃ a, mg "HOW_MANY" = some (.ref a) ∧ KTup K a [.int (4), .int (1), .int (2), .int (1), .int (0), .int (1), .int (1), .int (1), .int (1), .int (0), .int (1), .int (0), .int (0), .int (1), .int (0)]
  b_len : mg "len" = none
  b_max : mg "max" = none
  b_min : mg "min" = none
  b_list : mg "list" = none
  b_range : mg "range" = none
  f_K_Hello : KF K mg "Hello" C.hello "Hello.__init__" s_K_Hello
  f_M_Hello_told : MF K C.hello "told" "Hello.told" s_M_Hello_told
  f_K_Request : KF K mg "Request" C.req "Request.__init__" s_K_Request
  f_M_Request_told : MF K C.req "told" "Request.told" s_M_Request_told
  f_K_Ack : KF K mg "Ack" C.ack "Ack.__init__" s_K_Ack
  f_M_Ack_told : MF K C.ack "told" "Ack.told" s_M_Ack_told
  f_K_News : KF K mg "News" C.news "News.__init__" s_K_News
  f_M_News_told : MF K C.news "told" "News.told" s_M_News_told
  f_K_Seat : KF K mg "Seat" C.seat "Seat.__init__" s_K_Seat
  f_M_Seat_begin : MF K C.seat "begin" "Seat.begin" s_M_Seat_begin
  f_M_Seat_pay : MF K C.seat "pay" "Seat.pay" s_M_Seat_pay
  f_M_Seat_told : MF K C.seat "told" "Seat.told" s_M_Seat_told
  f_K_House : KF K mg "House" C.house "House.__init__" s_K_House
  f_M_House_side_to_move : MF K C.house "side_to_move" "House.side_to_move" s_M_House_side_to_move
  f_M_House_has_had : MF K C.house "has_had" "House.has_had" s_M_House_has_had
  f_M_House_lose_on_time : MF K C.house "lose_on_time" "House.lose_on_time" s_M_House_lose_on_time
  f_M_House_check_clock : MF K C.house "check_clock" "House.check_clock" s_M_House_check_clock
  f_M_House_restart : MF K C.house "restart" "House.restart" s_M_House_restart
  f_M_House_tell : MF K C.house "tell" "House.tell" s_M_House_tell
  f_M_House_tell_both : MF K C.house "tell_both" "House.tell_both" s_M_House_tell_both
  f_M_House_hear : MF K C.house "hear" "House.hear" s_M_House_hear
  f_M_House_arrive : MF K C.house "arrive" "House.arrive" s_M_House_arrive
  f_M_House_take_hello : MF K C.house "take_hello" "House.take_hello" s_M_House_take_hello
  f_M_House_take_request : MF K C.house "take_request" "House.take_request" s_M_House_take_request
  f_M_House_take_ack : MF K C.house "take_ack" "House.take_ack" s_M_House_take_ack
  f_M_House_allows : MF K C.house "allows" "House.allows" s_M_House_allows
  f_M_House_cost_of : MF K C.house "cost_of" "House.cost_of" s_M_House_cost_of
  f_M_House_look_at : MF K C.house "look_at" "House.look_at" s_M_House_look_at
  f_K_Machine : KF K mg "Machine" C.mach "Machine.__init__" s_K_Machine
  f_M_Machine_is_to_move : MF K C.mach "is_to_move" "Machine.is_to_move" s_M_Machine_is_to_move
  f_M_Machine_can_press : MF K C.mach "can_press" "Machine.can_press" s_M_Machine_can_press
  f_M_Machine_is_last_move : MF K C.mach "is_last_move" "Machine.is_last_move" s_M_Machine_is_last_move
  f_M_Machine_press : MF K C.mach "press" "Machine.press" s_M_Machine_press
  f_M_Machine_send_ack : MF K C.mach "send_ack" "Machine.send_ack" s_M_Machine_send_ack
  f_M_Machine_timer : MF K C.mach "timer" "Machine.timer" s_M_Machine_timer
  f_M_Machine_take_news : MF K C.mach "take_news" "Machine.take_news" s_M_Machine_take_news
  f_M_Machine_add_moves : MF K C.mach "add_moves" "Machine.add_moves" s_M_Machine_add_moves
  f_M_Machine_forget_request : MF K C.mach "forget_request" "Machine.forget_request" s_M_Machine_forget_request
  f_M_Machine_told : MF K C.mach "told" "Machine.told" s_M_Machine_told
  f_K_Net : KF K mg "Net" C.net "Net.__init__" s_K_Net
  f_M_Net_is_empty : MF K C.net "is_empty" "Net.is_empty" s_M_Net_is_empty
  f_M_Net_is_full : MF K C.net "is_full" "Net.is_full" s_M_Net_is_full
  f_M_Net_holds : MF K C.net "holds" "Net.holds" s_M_Net_holds
  f_M_Net_look : MF K C.net "look" "Net.look" s_M_Net_look
  f_M_Net_send : MF K C.net "send" "Net.send" s_M_Net_send
  f_M_Net_take : MF K C.net "take" "Net.take" s_M_Net_take
  f_M_Net_take_oldest : MF K C.net "take_oldest" "Net.take_oldest" s_M_Net_take_oldest
  f_M_Net_told : MF K C.net "told" "Net.told" s_M_Net_told
  f_K_Table : KF K mg "Table" C.table "Table.__init__" s_K_Table
  f_M_Table_arrive : MF K C.table "arrive" "Table.arrive" s_M_Table_arrive
  f_M_Table_crash : MF K C.table "crash" "Table.crash" s_M_Table_crash
  f_M_Table_restart : MF K C.table "restart" "Table.restart" s_M_Table_restart
  f_M_Table_go_round : MF K C.table "go_round" "Table.go_round" s_M_Table_go_round
  f_K_Desk : KF K mg "Desk" C.desk "Desk.__init__" s_K_Desk
  f_M_Desk_answer : MF K C.desk "answer" "Desk.answer" s_M_Desk_answer
  f_M_Desk_set_table : MF K C.desk "set_table" "Desk.set_table" s_M_Desk_set_table
  f_F_within : FF K mg "within" s_F_within
  f_F_is_side : FF K mg "is_side" s_F_is_side
  f_F_new_table : FF K mg "new_table" s_F_new_table
  f_F_tick : FF K mg "tick" s_F_tick
  f_F_press : FF K mg "press" s_F_press
  f_F_again : FF K mg "again" s_F_again
  f_F_nudge : FF K mg "nudge" s_F_nudge
  f_F_deliver : FF K mg "deliver" s_F_deliver
  f_F_drop : FF K mg "drop" s_F_drop
  f_F_double : FF K mg "double" s_F_double
  f_F_crash : FF K mg "crash" s_F_crash
  f_F_restart : FF K mg "restart" s_F_restart
  f_F_rounds : FF K mg "rounds" s_F_rounds
  f_F_show_net : FF K mg "show_net" s_F_show_net
  f_F_show_house : FF K mg "show_house" s_F_show_house
  f_F_show_machine : FF K mg "show_machine" s_F_show_machine
  f_F_show_log : FF K mg "show_log" s_F_show_log
  f_F_ask : FF K mg "ask" s_F_ask
  f_F_answers : FF K mg "answers" s_F_answers
end Nd

set_option Elab.async false
set_option linter.all false
set_option maxRecDepth 100000
set_option maxHeartbeats 2000000
namespace Nd
open PySem PySem.Spec PyProof.Rows L2
open Vbdcas (State Msg Seat Client Ask)
section
variable {K : PySem.W.Frag} {D : Ends} {σ : L2.St} {H : Hp} {Q : VK} {B : Bool → Hp → Prop} {L : List V → Hp → Prop}
theorem r_seq {t u : TS} (h : t { D with nx := u D } σ H) : tSeq t u D σ H := h
theorem r_ifS {c : TT} {t u : TS} (h : c σ H fun b H1 => if b = true then t D σ H1 else u D σ H1) : tIfS c t u D σ H := h
theorem r_ret {te : TE} (h : te σ H D.rt) : tRet te D σ H := h
theorem r_retN (h : D.rt .non H) : tRetN D σ H := h
theorem r_drop {te : TE} (h : te σ H fun _ H1 => D.nx σ H1) : tDrop te D σ H := h
theorem r_next (h : D.nx σ H) : tNext D σ H := h
theorem r_asg {te : TE} {i : Nat} (h : te σ H fun v H1 => D.nx (σ.set i (some v)) H1) : tAsg te (gName i) D σ H := h
theorem r_asg' {te : TE} {g : TG} (h : te σ H fun v H1 => g v σ H1 D.nx) : tAsg te g D σ H := h
theorem r_var {i : Nat} {v : V} (e : σ[i]? = some (some v)) (h : Q v H) : tVar i σ H Q := ⟨v, e, h⟩
theorem r_C {v : V} (h : Q v H) : tC v σ H Q := h
theorem r_fld {ta : TE} {f : Str} (h : ta σ H fun x H1 => ∃ a C dx fs v, x = V.ref a ∧ H1 a = some (HO.ins C dx fs) ∧ Cls K C ∧ NoAttr K C f ∧ fs.lookup f = some v ∧ Q v H1) : tFld K ta f σ H Q := h
theorem r_op {r : R2} {ta tb : TE} (h : ta σ H fun x H1 => tb σ H1 fun y H2 => r x y H2 Q) : tOp r ta tb σ H Q := h
theorem r_un {r : V → Hp → VK → Prop} {ta : TE} (h : ta σ H fun x H1 => r x H1 Q) : tUn r ta σ H Q := h
theorem r_cb {r : List V → Hp → VK → Prop} {t : TA} (h : t σ H fun vs H1 => r vs H1 Q) : tCB r t σ H Q := h
theorem r_cons {ta : TE} {t : TA} (h : ta σ H fun x H1 => t σ H1 fun xs H2 => L (x :: xs) H2) : tCons ta t σ H L := h
theorem r_nil (h : L [] H) : tNil σ H L := h
theorem r_meth {C : Addr} {m : Str} {sp : Sp} {ta : TE} {t : TA} {E : XK} (h : ta σ H fun x H1 => ∃ a dx fs, x = V.ref a ∧ H1 a = some (HO.ins C dx fs) ∧ fs.lookup m = none ∧ t σ H1 fun vs H2 => sp (x :: (vs ++ [])) H2 Q E) : tMeth C m sp [] E ta t σ H Q := h
theorem r_call {sp : Sp} {t : TA} {E : XK} (h : t σ H fun vs H1 => sp vs H1 Q E) : tCall sp [] E t σ H Q := by
  show t σ H fun vs H1 => sp (vs ++ []) H1 Q E
  simpa only [List.append_nil] using h
theorem r_make {C : Addr} {sp : Sp} {t : TA} {E : XK} (h : t σ H fun vs H1 => ∀ x dx, H1 x = none → H1 dx = none → dx ≠ x → sp (V.ref x :: vs) (upd (upd H1 dx (.own x)) x (.ins C dx [])) (fun v H2 => v = .non ∧ Q (.ref x) H2) E) : tMake C sp [] E t σ H Q := by
  show t σ H fun vs H1 => ∀ x dx, H1 x = none → H1 dx = none → dx ≠ x → sp (V.ref x :: (vs ++ [])) (upd (upd H1 dx (.own x)) x (.ins C dx [])) (fun v H2 => v = .non ∧ Q (.ref x) H2) E
  simpa only [List.append_nil] using h
theorem r_lst {t : TA} (h : t σ H fun xs H1 => xs.length ≤ sizeLine ∧ ∀ p, H1 p = none → Q (.ref p) (upd H1 p (.lst xs))) : tLst t σ H Q := h
theorem r_tup {t : TA} (h : t σ H fun xs H1 => xs.length ≤ sizeLine ∧ ∀ p, H1 p = none → Q (.ref p) (upd H1 p (.tup xs))) : tTup t σ H Q := h
theorem r_test {t : TE} (h : t σ H fun x H' => ∃ k, x = V.bl k ∧ B k H') : tTest t σ H B := h
theorem r_tB {t : TE} (h : t σ H fun x H' => ∃ k, x = V.bl k ∧ B k H') : tB t σ H B := h
theorem r_not {t : TT} (h : t σ H fun c H1 => B (!c) H1) : tNot t σ H B := h
theorem r_and {t u : TT} (h : t σ H fun c H1 => if c = true then u σ H1 B else B false H1) : tAnd t u σ H B := h
theorem r_or {t u : TT} (h : t σ H fun c H1 => if c = true then B true H1 else u σ H1 B) : tOr t u σ H B := h
theorem r_notV {ta : TE} (h : ta σ H fun x H1 => ∃ c, x = V.bl c ∧ Q (.bl (!c)) H1) : tNotV ta σ H Q := h
theorem r_andV {ta tb : TE} (h : ta σ H fun x H1 => ∃ c, x = V.bl c ∧ if c = true then tb σ H1 Q else Q (.bl false) H1) : tAndV ta tb σ H Q := h
theorem r_orV {ta tb : TE} (h : ta σ H fun x H1 => ∃ c, x = V.bl c ∧ if c = true then Q (.bl true) H1 else tb σ H1 Q) : tOrV ta tb σ H Q := h
theorem r_ife {c : TT} {ta tb : TE} (h : c σ H fun b H1 => if b = true then ta σ H1 Q else tb σ H1 Q) : tIf c ta tb σ H Q := h
theorem r_sl {r : V → Option Int → Option Int → Hp → VK → Prop} {te : TE} {tl th : TO} (h : te σ H fun x H1 => tl σ H1 fun l H2 => th σ H2 fun u H3 => r x l u H3 Q) : tSl r te tl th σ H Q := h
theorem r_part {t : TE} {R : Option Int → Hp → Prop} (h : t σ H fun x H1 => ∃ i, x = V.int i ∧ R (some i) H1) : tPart t σ H R := h
theorem r_nopart {R : Option Int → Hp → Prop} (h : R none H) : tNoPart σ H R := h
theorem r_sfld {ta tv : TE} {f : Str} (h : tv σ H fun y H1 => ta σ H1 fun x H2 => ∃ a C dx fs, x = V.ref a ∧ H2 a = some (HO.ins C dx fs) ∧ Cls K C ∧ NoAttr K C f ∧ fs.length < 1000 ∧ D.nx σ (upd H2 a (.ins C dx (putF f y fs)))) : sFld K ta tv f D σ H := h
theorem r_sfa {ta tv : TE} {rd : V → V → Hp → VK → Prop} {f : Str} (h : ta σ H fun x H1 => ∃ a C dx fs v, x = V.ref a ∧ H1 a = some (HO.ins C dx fs) ∧ Cls K C ∧ NoAttr K C f ∧ fs.lookup f = some v ∧
  tv σ H1 fun y H2 => rd v y H2 fun z H3 => ∃ dx' fs', H3 a = some (HO.ins C dx' fs') ∧ fs'.length < 1000 ∧ D.nx σ (upd H3 a (.ins C dx' (putF f z fs')))) : sFldAug K ta tv rd f D σ H := h
theorem r_aug {i : Nat} {te : TE} {ti : TIp} {x : V} (e : σ[i]? = some (some x)) (h : te σ H fun y H1 => ti x y H1 fun z H2 => D.nx (σ.set i (some z)) H2) : tAug i te ti D σ H := ⟨x, e, h⟩
theorem r_dnew (h : ∀ p, H p = none → Q (.ref p) (upd H p (.dK []))) : tDNewK σ H Q := h
theorem r_dget {td ty : TE} (h : td σ H fun x H1 => ty σ H1 fun y H2 => ∃ a v, x = V.ref a ∧ DGet H2 a y (some v) ∧ Q v H2) : tDGet td ty σ H Q := h
theorem r_din {td ty : TE} (h : ty σ H fun y H1 => td σ H1 fun x H2 => ∃ a o, x = V.ref a ∧ DGet H2 a y o ∧ Q (.bl o.isSome) H2) : tDIn ty td σ H Q := h
theorem r_dput {td ty tv : TE} (h : tv σ H fun v H1 => td σ H1 fun x H2 => ty σ H2 fun y H3 => ∃ a H4, x = V.ref a ∧ DPut H3 a y v H4 ∧ D.nx σ H4) : sDPut td ty tv D σ H := h
theorem r_dpop {td ty : TE} (h : td σ H fun x H1 => ∃ a, x = V.ref a ∧ IsD H1 a ∧ ty σ H1 fun y H2 => ∃ kvs k v, H2 a = some (.dK kvs) ∧ y = kV k ∧ valV kvs k = some v ∧ Q v (upd H2 a (.dK (dropK kvs k)))) : tDPop1 td ty σ H Q := h
theorem r_bm {T : String} {r : V → List V → Hp → VK → Prop} {to : TE} {t : TA} (h : to σ H fun x H1 => tyV K T x H1 ∧ t σ H1 fun xs H2 => r x xs H2 Q) : tBM K T r to t σ H Q := h
/-! values -/
theorem k_bl {b : Bool} {R : Bool → Prop} (h : R b) : ∃ c, V.bl b = V.bl c ∧ R c := ⟨b, rfl, h⟩
theorem k_int {b : Int} {R : Int → Prop} (h : R b) : ∃ c, V.int b = V.int c ∧ R c := ⟨b, rfl, h⟩
theorem k_i0 {g : Int → Int → V} {i j : Int} (h : Q (g i j) H) : rI0 g (.int i) (.int j) H Q := ⟨i, j, rfl, rfl, h⟩
theorem k_add {i j : Int} (h : Q (.int (i + j)) H) : rAdd (.int i) (.int j) H Q := ⟨i, j, rfl, rfl, h⟩
theorem k_sub {i j : Int} (h : Q (.int (i - j)) H) : rSub (.int i) (.int j) H Q := ⟨i, j, rfl, rfl, h⟩
theorem k_ipI {g : Int → Int → Int} {i j : Int} (h : Q (.int (g i j)) H) : ipI g (.int i) (.int j) H Q := ⟨i, j, rfl, rfl, h⟩
theorem k_mod2 {g : Int → Int → V} {i : Int} (h : Q (g i 2) H) : rI (fun _ j => 0 < j) g (.int i) (.int 2) H Q := ⟨i, 2, rfl, rfl, by show (0 : Int) < 2; decide, h⟩
theorem k_u {g : Int → V} {i : Int} (h : Q (g i) H) : rU g (.int i) H Q := ⟨i, rfl, h⟩
theorem k_eqI {i j : Int} (h : Q (.bl (decide (i = j))) H) : rEq (.int i) (.int j) H Q := ⟨rfl, by rw [show decide (V.int i = V.int j) = decide (i = j) from by by_cases e : i = j <;> simp [e]]; exact h⟩
theorem k_neI {i j : Int} (h : Q (.bl (!decide (i = j))) H) : rNe (.int i) (.int j) H Q := ⟨rfl, by rw [show decide (V.int i = V.int j) = decide (i = j) from by by_cases e : i = j <;> simp [e]]; exact h⟩
theorem k_len {p : Addr} {ys : List V} {R : List V → Prop} (hs : H p = some (.lst ys)) (h : R ys) : ∃ (p' : Addr) (ys' : List V), [V.ref p] = [V.ref p'] ∧ (SqL K H p' ys' ∨ SqT K H p' ys') ∧ R ys' := ⟨p, ys, rfl, .inl (.inl (.inl hs)), h⟩
theorem k_lenS {p : Addr} {ys : List V} {R : List V → Prop} (hs : SqL K H p ys) (h : R ys) : ∃ (p' : Addr) (ys' : List V), [V.ref p] = [V.ref p'] ∧ (SqL K H p' ys' ∨ SqT K H p' ys') ∧ R ys' := ⟨p, ys, rfl, .inl hs, h⟩
theorem k_lenD {p : Addr} {kvs : List (Key × V)} {R : List (Key × V) → Prop} (hs : H p = some (.dK kvs)) (h : R kvs) : ∃ (p' : Addr) (ys' : List (Key × V)), [V.ref p] = [V.ref p'] ∧ H p' = some (.dK ys') ∧ R ys' := ⟨p, kvs, rfl, hs, h⟩
theorem k_ixL {p : Addr} {xs : List V} {i : Int} {v : V} (hs : H p = some (.lst xs)) (ha : atI xs i = some v) (h : Q v H) : rIxL K (.ref p) (.int i) H Q := ⟨p, xs, i, v, rfl, rfl, .inl (.inl hs), ha, h⟩
theorem k_ixS {p : Addr} {xs : List V} {i : Int} {v : V} (hs : SqL K H p xs) (ha : atI xs i = some v) (h : Q v H) : rIxL K (.ref p) (.int i) H Q := ⟨p, xs, i, v, rfl, rfl, hs, ha, h⟩
theorem k_seats {C : Cs} {A : Ad} {G : Gh} {s : State} (hT : TabAt C A G s H) {p : Nat} (hp : p < 2) (h : Q (.ref (A.at_ (.seat (zb p)))) H) : rIxL K (.ref (A.at_ .seats)) (.int p) H Q := by
  refine ⟨_, _, _, _, rfl, rfl, .inl (.inl hT.seats), at_side hp, ?_⟩
  have : p = 0 ∨ p = 1 := by omega
  rcases this with rfl | rfl <;> exact h
theorem k_machs {C : Cs} {A : Ad} {G : Gh} {s : State} (hT : TabAt C A G s H) {p : Nat} (hp : p < 2) (h : Q (.ref (A.at_ (.mach (zb p)))) H) : rIxL K (.ref (A.at_ .machs)) (.int p) H Q := by
  refine ⟨_, _, _, _, rfl, rfl, .inl (.inl hT.machs), at_side hp, ?_⟩
  have : p = 0 ∨ p = 1 := by omega
  rcases this with rfl | rfl <;> exact h
theorem k_slL {p : Addr} {xs : List V} {lo hi : Option Int} (hs : H p = some (.lst xs)) (h : ∀ q, H q = none → Q (.ref q) (upd H q (.lst (cutV xs lo hi)))) : rSlL K (.ref p) lo hi H Q := ⟨p, xs, rfl, .inl (.inl hs), h⟩
theorem k_slS {p : Addr} {xs : List V} {lo hi : Option Int} (hs : SqL K H p xs) (h : ∀ q, H q = none → Q (.ref q) (upd H q (.lst (cutV xs lo hi)))) : rSlL K (.ref p) lo hi H Q := ⟨p, xs, rfl, hs, h⟩
theorem k_iteT {A B : Prop} (h : A) : if true = true then A else B := iteT h
theorem k_iteF {A B : Prop} (h : B) : if false = true then A else B := iteF h
theorem k_meth {a C dx : Addr} {fs : List (Str × V)} {m : Str} {R : Prop} (h : H a = some (HO.ins C dx fs)) (l : fs.lookup m = none) (q : R) : ∃ a' dx' fs', V.ref a = V.ref a' ∧ H a' = some (HO.ins C dx' fs') ∧ fs'.lookup m = none ∧ R := ⟨a, dx, fs, rfl, h, l, q⟩
theorem k_fld {a C dx : Addr} {fs : List (Str × V)} {f : Str} {v : V} {R : Addr → Addr → V → Prop} (h : H a = some (HO.ins C dx fs)) (c : Cls K C) (n : NoAttr K C f) (l : fs.lookup f = some v) (q : R a C v) : ∃ a' C' dx' fs' v', V.ref a = V.ref a' ∧ H a' = some (HO.ins C' dx' fs') ∧ Cls K C' ∧ NoAttr K C' f ∧ fs'.lookup f = some v' ∧ R a' C' v' := ⟨a, C, dx, fs, v, rfl, h, c, n, l, q⟩
theorem k_sfld {a C dx : Addr} {fs : List (Str × V)} {f : Str} {R : Addr → Addr → Addr → List (Str × V) → Prop} (h : H a = some (HO.ins C dx fs)) (c : Cls K C) (n : NoAttr K C f) (l : fs.length < 1000) (q : R a C dx fs) : ∃ a' C' dx' fs', V.ref a = V.ref a' ∧ H a' = some (HO.ins C' dx' fs') ∧ Cls K C' ∧ NoAttr K C' f ∧ fs'.length < 1000 ∧ R a' C' dx' fs' := ⟨a, C, dx, fs, rfl, h, c, n, l, q⟩
theorem k_sfa {a C dx : Addr} {fs : List (Str × V)} {R : Addr → List (Str × V) → Prop} (h : H a = some (HO.ins C dx fs)) (l : fs.length < 1000) (q : R dx fs) : ∃ dx' fs', H a = some (HO.ins C dx' fs') ∧ fs'.length < 1000 ∧ R dx' fs' := ⟨dx, fs, h, l, q⟩
theorem k_append {l : Addr} {xs : List V} {y : V} (h : H l = some (.lst xs)) (hl : xs.length < sizeLine) (q : Q .non (upd H l (.lst (xs ++ [y])))) : tyV K "list" (.ref l) H ∧ rAppend (.ref l) [y] H Q := ⟨.inl ⟨rfl, _, .inl (.inl h)⟩, l, xs, y, rfl, rfl, h, hl, q⟩
end
end Nd

set_option Elab.async false
set_option linter.all false
set_option maxRecDepth 100000
set_option maxHeartbeats 2000000
namespace Nd
open PySem PySem.Spec PyProof.Rows L2
open Vbdcas (State Msg Seat Client Ask)

section
variable {P : Program} {w : World} {K : PySem.W.Frag} {mg : Str → Option Value} {base : Heap} {C : Cs}
theorem upd_old {H : Hp} {p a : Addr} {o u : HO} (hp : H p = none) (h : H a = some o) : upd H p u a = some o := by
  rw [upd_ne (ne_of_none h hp)]
  exact h
theorem cut_news (l : List Nat) (a : Nat) : cutV (vs l) (some (a : Int)) (some ((a : Int) + 4)) = vs ((l.drop a).take 4) := by
  unfold cutV
  rw [show ((a : Int) + 4) = ((a + 4 : Nat) : Int) by omega, HT.sIx_nat, HT.sIx_nat, List.length_map]
  simp only [vs, ← List.map_drop, ← List.map_take]
  by_cases h : a ≤ l.length
  · rw [show min a l.length = a by omega]
    congr 1
    by_cases h4 : a + 4 ≤ l.length
    · rw [show min (a + 4) l.length - a = 4 by omega]
    · rw [show min (a + 4) l.length - a = l.length - a by omega, List.take_of_length_le (by simp), List.take_of_length_le (by simp; omega)]
  · rw [show min a l.length = l.length by omega, show min (a + 4) l.length = l.length by omega]
    rw [List.drop_of_length_le (Nat.le_refl _), List.drop_of_length_le (by omega)]
    simp
theorem drop_last : ∀ l : List Nat, l.drop (l.length - 1) = l.getLast?.toList
  | [] => rfl
  | [a] => rfl
  | a :: b :: r => by
    have ih := drop_last (b :: r)
    show (a :: b :: r).drop (r.length + 1) = _
    rw [List.drop_succ_cons, List.getLast?_cons_cons]
    exact ih
theorem cut_last (l : List Nat) : cutV (vs l) (some (-1)) none = vs l.getLast?.toList := by
  unfold cutV
  rw [List.length_map, HT.sIx_none]
  have e : HT.sIx l.length 0 (some (-1)) = l.length - 1 := by
    unfold HT.sIx
    dsimp only
    rw [if_pos (show (-1 : Int) < 0 by decide)]
    omega
  rw [e, ← drop_last l]
  simp only [vs, ← List.map_drop, ← List.map_take]
  rw [List.take_of_length_le (by simp)]
theorem cut_from (l : List Nat) (a : Nat) : cutV (vs l) (some (a : Int)) none = vs (l.drop a) := by
  unfold cutV
  rw [HT.sIx_nat, HT.sIx_none, List.length_map]
  simp only [vs, ← List.map_drop, ← List.map_take]
  congr 1
  by_cases h : a ≤ l.length
  · rw [show min a l.length = a by omega, List.take_of_length_le (by simp)]
  · rw [show min a l.length = l.length by omega, List.drop_of_length_le (Nat.le_refl _), List.drop_of_length_le (by omega)]
    simp
def dI (l : List Nat) : PyData := .list (l.map fun (n : Nat) => .int n)
theorem dp_all {H : Hp} : ∀ l : List Nat, DpAll K H (vs l) (l.map fun (n : Nat) => PyData.int n)
  | [] => .nil
  | n :: l => .cons (.int n) (dp_all l)
theorem dp_lst {H : Hp} {a : Addr} {l : List Nat} (h : H a = some (.lst (vs l))) : Dp K H (.ref a) (dI l) := .lst (.inl (.inl h)) (dp_all l)
theorem eqv_last (o : Option Nat) (m : Nat) : PyData.eqv (dI o.toList) (dI [m]) = decide (o = some m) := by
  cases o with
  | none => rfl
  | some n =>
    show (PyData.eqv (.int n) (.int m) && true) = _
    have : PyData.eqv (.int (n : Int)) (.int (m : Int)) = decide ((n : Int) = (m : Int)) := by
      first | rfl | (unfold PyData.eqv; simp) | simp [PyData.eqv]
    rw [this]
    by_cases e : n = m <;> simp [e] <;> omega
theorem shaped_last (o : Option Nat) : SeqAt.shaped (dI o.toList) = true := by cases o <;> rfl
theorem k_neL {H : Hp} {Q : VK} {a b : Addr} {o : Option Nat} {m : Nat} (h1 : H a = some (.lst (vs o.toList))) (h2 : H b = some (.lst [nV m])) (q : Q (.bl (!decide (o = some m))) H) : rNeD K (.ref a) (.ref b) H Q := by
  refine ⟨_, _, dp_lst h1, dp_lst (l := [m]) h2, shaped_last o, shaped_last (some m), ?_⟩
  rw [eqv_last]
  exact q
theorem k_eqL {H : Hp} {Q : VK} {a b : Addr} {o : Option Nat} {m : Nat} (h1 : H a = some (.lst (vs o.toList))) (h2 : H b = some (.lst [nV m])) (q : Q (.bl (decide (o = some m))) H) : rEqD K (.ref a) (.ref b) H Q := by
  refine ⟨_, _, dp_lst h1, dp_lst (l := [m]) h2, shaped_last o, shaped_last (some m), ?_⟩
  rw [eqv_last]
  exact q
theorem k_new {C : Cs} {A : Ad} {G : Gh} {s : State} {H : Hp} {R : Addr → Prop} {o : HO} (hT : TabAt C A G s H) (h : ∀ p, H p = none → TabAt C A G s (upd H p o) → R p) : ∀ p, H p = none → R p := fun p hp => h p hp (hT.new hp)

theorem k_seats0 {C : Cs} {A : Ad} {G : Gh} {s : State} {H : Hp} {Q : VK} (hT : TabAt C A G s H) (h : Q (.ref (A.at_ (.seat true))) H) : rIxL K (.ref (A.at_ .seats)) (.int 0) H Q := ⟨_, _, _, _, rfl, rfl, .inl (.inl hT.seats), at_side (p := 0) (by decide), h⟩
theorem k_seats1 {C : Cs} {A : Ad} {G : Gh} {s : State} {H : Hp} {Q : VK} (hT : TabAt C A G s H) (h : Q (.ref (A.at_ (.seat false))) H) : rIxL K (.ref (A.at_ .seats)) (.int 1) H Q := ⟨_, _, _, _, rfl, rfl, .inl (.inl hT.seats), at_side (p := 1) (by decide), h⟩
theorem k_machs0 {C : Cs} {A : Ad} {G : Gh} {s : State} {H : Hp} {Q : VK} (hT : TabAt C A G s H) (h : Q (.ref (A.at_ (.mach true))) H) : rIxL K (.ref (A.at_ .machs)) (.int 0) H Q := ⟨_, _, _, _, rfl, rfl, .inl (.inl hT.machs), at_side (p := 0) (by decide), h⟩
theorem k_machs1 {C : Cs} {A : Ad} {G : Gh} {s : State} {H : Hp} {Q : VK} (hT : TabAt C A G s H) (h : Q (.ref (A.at_ (.mach false))) H) : rIxL K (.ref (A.at_ .machs)) (.int 1) H Q := ⟨_, _, _, _, rfl, rfl, .inl (.inl hT.machs), at_side (p := 1) (by decide), h⟩
theorem k_sz {xs : List V} {R : Prop} (h : xs.length ≤ sizeLine) (q : R) : xs.length ≤ sizeLine ∧ R := ⟨h, q⟩
theorem k_isN {H : Hp} {Q : VK} {x : V} (h : Q (.bl (decide (x = .non))) H) : V.non = V.non ∧ Q (.bl (decide (x = .non))) H := ⟨rfl, h⟩
theorem k_notN {H : Hp} {Q : VK} {x : V} (h : Q (.bl (!decide (x = .non))) H) : V.non = V.non ∧ Q (.bl (!decide (x = .non))) H := ⟨rfl, h⟩
theorem k_rfl {R : Prop} (h : R) : V.non = V.non ∧ R := ⟨rfl, h⟩
theorem k_min2 {i j : Int} {R : Int → Int → Prop} (h : R i j) : ∃ i' j' : Int, [V.int i, V.int j] = [V.int i', V.int j'] ∧ R i' j' := ⟨i, j, rfl, h⟩
theorem k_max3 {i j l : Int} {R : Int → Int → Int → Prop} (h : R i j l) : ∃ i' j' l' : Int, [V.int i, V.int j, V.int l] = [V.int i', V.int j', V.int l'] ∧ R i' j' l' := ⟨i, j, l, rfl, h⟩
theorem k_iteNF {A B : Prop} (h : A) : if (!false) = true then A else B := iteT h
theorem k_iteNT {A B : Prop} (h : B) : if (!true) = true then A else B := iteF h
theorem k_ty {H : Hp} {l : Addr} {xs : List V} {R : Prop} (h : H l = some (.lst xs)) (q : R) : tyV K "list" (.ref l) H ∧ R := ⟨.inl ⟨rfl, _, .inl (.inl h)⟩, q⟩
local macro_rules | `(tactic| walk_at "tab") => `(tactic| first | with_reducible assumption | ((with_reducible refine' TabAt.new ?t ?n); (case t => walk_at "tab"); (case n => with_reducible assumption)) | fail "tab")
local macro_rules | `(tactic| walk_at "hp") => `(tactic| first | with_reducible assumption | with_reducible exact upd_same | ((with_reducible refine' TabAt.house ?t); (case t => walk_at "tab")) | ((with_reducible refine' TabAt.seat ?t _); (case t => walk_at "tab")) | ((with_reducible refine' TabAt.netO ?t); (case t => walk_at "tab")) | ((with_reducible refine' TabAt.mach ?t _); (case t => walk_at "tab")) | ((with_reducible refine' TabAt.table ?t); (case t => walk_at "tab")) | ((with_reducible refine' TabAt.log ?t); (case t => walk_at "tab")) | ((with_reducible refine' TabAt.wait ?t); (case t => walk_at "tab")) | ((with_reducible refine' TabAt.moves ?t _); (case t => walk_at "tab")) | ((with_reducible refine' upd_old ?n ?h); (case n => with_reducible assumption); (case h => walk_at "hp")) | fail "hp")
set_option hygiene false in
local macro_rules | `(tactic| walk_at "cl") => `(tactic| first | exact T.c_Hello | exact T.c_Request | exact T.c_Ack | exact T.c_News | exact T.c_Seat | exact T.c_House | exact T.c_Machine | exact T.c_Net | exact T.c_Table | exact T.c_Desk | fail "cl")
set_option hygiene false in
local macro_rules | `(tactic| walk_at "na") => `(tactic| first | with_reducible exact T.n_Hello_kind | with_reducible exact T.n_Hello_side | with_reducible exact T.n_Hello_epoch | with_reducible exact T.n_Request_kind | with_reducible exact T.n_Request_side | with_reducible exact T.n_Request_epoch | with_reducible exact T.n_Request_number | with_reducible exact T.n_Request_ply | with_reducible exact T.n_Request_move | with_reducible exact T.n_Request_thought | with_reducible exact T.n_Ack_kind | with_reducible exact T.n_Ack_side | with_reducible exact T.n_Ack_epoch | with_reducible exact T.n_Ack_known | with_reducible exact T.n_News_kind | with_reducible exact T.n_News_side | with_reducible exact T.n_News_epoch | with_reducible exact T.n_News_place | with_reducible exact T.n_News_moves | with_reducible exact T.n_News_handled | with_reducible exact T.n_News_banks | with_reducible exact T.n_News_result | with_reducible exact T.n_Seat_epoch | with_reducible exact T.n_Seat_handled | with_reducible exact T.n_Seat_acked | with_reducible exact T.n_Seat_here | with_reducible exact T.n_Seat_bank | with_reducible exact T.n_Seat_spent | with_reducible exact T.n_House_log | with_reducible exact T.n_House_result | with_reducible exact T.n_House_runs | with_reducible exact T.n_House_since | with_reducible exact T.n_House_increment | with_reducible exact T.n_House_lag | with_reducible exact T.n_House_seats | with_reducible exact T.n_Machine_side | with_reducible exact T.n_Machine_epoch | with_reducible exact T.n_Machine_on | with_reducible exact T.n_Machine_moves | with_reducible exact T.n_Machine_next_request | with_reducible exact T.n_Machine_request | with_reducible exact T.n_Machine_learned | with_reducible exact T.n_Machine_banks | with_reducible exact T.n_Machine_result | with_reducible exact T.n_Net_waiting | with_reducible exact T.n_Net_next_number | with_reducible exact T.n_Net_lost | with_reducible exact T.n_Table_time | with_reducible exact T.n_Table_house | with_reducible exact T.n_Table_machines | with_reducible exact T.n_Table_net | with_reducible exact T.n_Desk_table | fail "na")
local macro_rules | `(tactic| walk_at "s1") => `(tactic| first
  | with_reducible refine r_seq ?_ | with_reducible refine r_asg ?_ | with_reducible refine r_ifS ?_ | with_reducible refine r_ret ?_ | with_reducible refine r_retN ?_ | with_reducible refine r_drop ?_ | with_reducible refine r_next ?_
  | with_reducible refine r_C ?_ | ((with_reducible refine' r_var ?e ?_); (case e => rfl)) | with_reducible refine r_fld ?_ | with_reducible refine r_op ?_ | with_reducible refine r_cb ?_ | with_reducible refine r_cons ?_ | with_reducible refine r_nil ?_
  | with_reducible refine r_meth ?_ | with_reducible refine r_call ?_ | with_reducible refine r_make ?_ | with_reducible refine r_lst ?_ | with_reducible refine r_tup ?_ | with_reducible refine r_test ?_ | with_reducible refine r_tB ?_ | with_reducible refine r_not ?_
  | with_reducible refine r_and ?_ | with_reducible refine r_or ?_ | with_reducible refine r_notV ?_ | with_reducible refine r_andV ?_ | with_reducible refine r_orV ?_ | with_reducible refine r_ife ?_ | with_reducible refine r_sl ?_ | with_reducible refine r_part ?_ | with_reducible refine r_nopart ?_
  | with_reducible refine r_sfld ?_ | with_reducible refine r_sfa ?_ | ((with_reducible refine' r_aug ?e ?_); (case e => rfl)) | with_reducible refine r_dnew ?_ | with_reducible refine r_dget ?_ | with_reducible refine r_din ?_ | with_reducible refine r_dput ?_ | with_reducible refine r_dpop ?_ | with_reducible refine r_bm ?_ | with_reducible refine r_un ?_ | with_reducible refine r_asg' ?_ | fail "s1")
local macro_rules | `(tactic| walk_at "k1") => `(tactic| first
  | with_reducible refine k_bl ?_ | with_reducible refine k_int ?_ | with_reducible refine k_i0 ?_ | with_reducible refine k_add ?_ | with_reducible refine k_sub ?_ | with_reducible refine k_ipI ?_ | with_reducible refine k_mod2 ?_ | with_reducible refine k_u ?_ | with_reducible refine k_eqI ?_ | with_reducible refine k_neI ?_
  | ((with_reducible refine' k_fld ?h ?c ?n ?l ?_); (case h => walk_at "hp"); (case c => walk_at "cl"); (case n => walk_at "na"); (case l => rfl))
  | ((with_reducible refine' k_meth ?h ?l ?_); (case h => walk_at "hp"); (case l => rfl))
  | ((with_reducible refine' k_seats ?h ?p ?_); (case h => walk_at "tab"); (case p => first | assumption | decide))
  | ((with_reducible refine' k_machs ?h ?p ?_); (case h => walk_at "tab"); (case p => first | assumption | decide))
  | ((with_reducible refine' k_seats0 ?h ?_); (case h => walk_at "tab")) | ((with_reducible refine' k_seats1 ?h ?_); (case h => walk_at "tab")) | ((with_reducible refine' k_machs0 ?h ?_); (case h => walk_at "tab")) | ((with_reducible refine' k_machs1 ?h ?_); (case h => walk_at "tab"))
  | ((with_reducible refine' k_sz ?h ?_); (case h => exact Nat.le_of_ble_eq_true rfl)) | with_reducible refine k_rfl ?_ | with_reducible refine k_min2 ?_ | with_reducible refine k_max3 ?_
  | ((with_reducible refine' k_len ?h ?_); (case h => walk_at "hp"))
  | ((with_reducible refine' k_lenD ?h ?_); (case h => walk_at "hp"))
  | ((with_reducible refine' k_slL ?h ?_); (case h => walk_at "hp"))
  | ((with_reducible refine' k_lenS ?h ?_); (case h => with_reducible assumption)) | ((with_reducible refine' k_slS ?h ?_); (case h => with_reducible assumption))
  | ((with_reducible refine' k_ty ?h ?_); (case h => walk_at "hp"))
  | with_reducible refine k_iteNF ?_ | with_reducible refine k_iteNT ?_ | with_reducible refine k_iteT ?_ | with_reducible refine k_iteF ?_
  | ((with_reducible refine' k_sfld ?h ?c ?n ?l ?_); (case h => walk_at "hp"); (case c => walk_at "cl"); (case n => walk_at "na"); (case l => exact Nat.le_of_ble_eq_true rfl))
  | ((with_reducible refine' k_sfa ?h ?l ?_); (case h => walk_at "hp"); (case l => exact Nat.le_of_ble_eq_true rfl)) | fail "k1")
local macro_rules | `(tactic| walk_at "go") => `(tactic| ((try dsimp only [L2.cxOf, L2.Cx.nox, L2.Cx.wish]); repeat (first | walk_at "s1" | walk_at "k1" | (with_reducible intro) | fail "go")))
/-- of all that was there, only what stands at a may be another -/
def But (a : Addr) (H H' : Hp) : Prop := ∀ x o, H x = some o → x ≠ a → H' x = some o
theorem but_upd {a : Addr} {H H' : Hp} {o : HO} (h : But a H H') : But a H (upd H' a o) := fun x u e n => by rw [upd_ne n]; exact h x u e n
theorem but_refl {a : Addr} {H : Hp} : But a H H := fun _ _ e _ => e
def sp_K_Hello (C : Cs) (K : PySem.W.Frag) : Sp := fun vv H Q _ => ∃ (a : Addr) (dx : Addr) (p : Nat) (e : Nat), vv = [.ref a, nV p, nV e] ∧ (H a = some (.ins C.hello dx [])) ∧ (∀ H', H' a = some (.ins C.hello dx (helloF p e)) → But a H H' → Q .non H')
theorem ok_K_Hello (T : Txt K mg C) : KB P w K mg base "Hello" C.hello 1 p_K_Hello (sp_K_Hello C K) := by
  have sc := sc_K_Hello
  refine KB.of T.f_K_Hello sc ba_K_Hello (fun vv H Q E h => ?_) (fun fn cdv A0 outer s0 H vv Q E hr h => ?_)
  · obtain ⟨_, _, _, _, rfl, _⟩ := h
    rfl
  · obtain ⟨a, dx, p, e, rfl, ha, k⟩ := h
    refine ⟨_, (pss_cons (ps_fld (pv 0) (pe_gi T.g_HELLO rfl) rfl)
      (pss_cons (ps_fld (pv 0) (pv 1) rfl)
      (pss_one (ps_fld (pv 0) (pv 2) rfl)))), ?_⟩
    walk_at "go"
    exact k _ upd_same (by repeat (first | exact but_refl | apply but_upd))
def sp_K_Request (C : Cs) (K : PySem.W.Frag) : Sp := fun vv H Q _ => ∃ (a : Addr) (dx : Addr) (p : Nat) (e : Nat) (id : Nat) (ply : Nat) (mv : Nat) (th : Nat), vv = [.ref a, nV p, nV e, nV id, nV ply, nV mv, nV th] ∧ (H a = some (.ins C.req dx [])) ∧ (∀ H', H' a = some (.ins C.req dx (reqF p e id ply mv th)) → But a H H' → Q .non H')
theorem ok_K_Request (T : Txt K mg C) : KB P w K mg base "Request" C.req 1 p_K_Request (sp_K_Request C K) := by
  have sc := sc_K_Request
  refine KB.of T.f_K_Request sc ba_K_Request (fun vv H Q E h => ?_) (fun fn cdv A0 outer s0 H vv Q E hr h => ?_)
  · obtain ⟨_, _, _, _, _, _, _, _, rfl, _⟩ := h
    rfl
  · obtain ⟨a, dx, p, e, id, ply, mv, th, rfl, ha, k⟩ := h
    refine ⟨_, (pss_cons (ps_fld (pv 0) (pe_gi T.g_REQUEST rfl) rfl)
      (pss_cons (ps_fld (pv 0) (pv 1) rfl)
      (pss_cons (ps_fld (pv 0) (pv 2) rfl)
      (pss_cons (ps_fld (pv 0) (pv 3) rfl)
      (pss_cons (ps_fld (pv 0) (pv 4) rfl)
      (pss_cons (ps_fld (pv 0) (pv 5) rfl)
      (pss_one (ps_fld (pv 0) (pv 6) rfl)))))))), ?_⟩
    walk_at "go"
    exact k _ upd_same (by repeat (first | exact but_refl | apply but_upd))
def sp_K_Ack (C : Cs) (K : PySem.W.Frag) : Sp := fun vv H Q _ => ∃ (a : Addr) (dx : Addr) (p : Nat) (e : Nat) (n : Nat), vv = [.ref a, nV p, nV e, nV n] ∧ (H a = some (.ins C.ack dx [])) ∧ (∀ H', H' a = some (.ins C.ack dx (ackF p e n)) → But a H H' → Q .non H')
theorem ok_K_Ack (T : Txt K mg C) : KB P w K mg base "Ack" C.ack 1 p_K_Ack (sp_K_Ack C K) := by
  have sc := sc_K_Ack
  refine KB.of T.f_K_Ack sc ba_K_Ack (fun vv H Q E h => ?_) (fun fn cdv A0 outer s0 H vv Q E hr h => ?_)
  · obtain ⟨_, _, _, _, _, rfl, _⟩ := h
    rfl
  · obtain ⟨a, dx, p, e, n, rfl, ha, k⟩ := h
    refine ⟨_, (pss_cons (ps_fld (pv 0) (pe_gi T.g_ACK rfl) rfl)
      (pss_cons (ps_fld (pv 0) (pv 1) rfl)
      (pss_cons (ps_fld (pv 0) (pv 2) rfl)
      (pss_one (ps_fld (pv 0) (pv 3) rfl))))), ?_⟩
    walk_at "go"
    exact k _ upd_same (by repeat (first | exact but_refl | apply but_upd))
def sp_K_News (C : Cs) (K : PySem.W.Frag) : Sp := fun vv H Q _ => ∃ (a : Addr) (dx : Addr) (p : Nat) (e : Nat) (n : Nat) (l : Addr) (hd : Nat) (t : Addr) (ov : Nat), vv = [.ref a, nV p, nV e, nV n, .ref l, nV hd, .ref t, nV ov] ∧ (H a = some (.ins C.news dx [])) ∧ (∀ H', H' a = some (.ins C.news dx (newsF p e n l hd t ov)) → But a H H' → Q .non H')
theorem ok_K_News (T : Txt K mg C) : KB P w K mg base "News" C.news 1 p_K_News (sp_K_News C K) := by
  have sc := sc_K_News
  refine KB.of T.f_K_News sc ba_K_News (fun vv H Q E h => ?_) (fun fn cdv A0 outer s0 H vv Q E hr h => ?_)
  · obtain ⟨_, _, _, _, _, _, _, _, _, rfl, _⟩ := h
    rfl
  · obtain ⟨a, dx, p, e, n, l, hd, t, ov, rfl, ha, k⟩ := h
    refine ⟨_, (pss_cons (ps_fld (pv 0) (pe_gi T.g_NEWS rfl) rfl)
      (pss_cons (ps_fld (pv 0) (pv 1) rfl)
      (pss_cons (ps_fld (pv 0) (pv 2) rfl)
      (pss_cons (ps_fld (pv 0) (pv 3) rfl)
      (pss_cons (ps_fld (pv 0) (pv 4) rfl)
      (pss_cons (ps_fld (pv 0) (pv 5) rfl)
      (pss_cons (ps_fld (pv 0) (pv 6) rfl)
      (pss_one (ps_fld (pv 0) (pv 7) rfl))))))))), ?_⟩
    walk_at "go"
    exact k _ upd_same (by repeat (first | exact but_refl | apply but_upd))
def sp_K_Seat (C : Cs) (K : PySem.W.Frag) : Sp := fun vv H Q _ => ∃ (a : Addr) (dx : Addr) (b : Nat), vv = [.ref a, nV b] ∧ (H a = some (.ins C.seat dx [])) ∧ (∀ H', H' a = some (.ins C.seat dx (seatF { bank := b })) → But a H H' → Q .non H')
theorem ok_K_Seat (T : Txt K mg C) : KB P w K mg base "Seat" C.seat 1 p_K_Seat (sp_K_Seat C K) := by
  have sc := sc_K_Seat
  refine KB.of T.f_K_Seat sc ba_K_Seat (fun vv H Q E h => ?_) (fun fn cdv A0 outer s0 H vv Q E hr h => ?_)
  · obtain ⟨_, _, _, rfl, _⟩ := h
    rfl
  · obtain ⟨a, dx, b, rfl, ha, k⟩ := h
    refine ⟨_, (pss_cons (ps_fld (pv 0) pe_int rfl)
      (pss_cons (ps_fld (pv 0) pe_int rfl)
      (pss_cons (ps_fld (pv 0) pe_int rfl)
      (pss_cons (ps_fld (pv 0) pe_bl rfl)
      (pss_cons (ps_fld (pv 0) (pv 1) rfl)
      (pss_one (ps_fld (pv 0) pe_int rfl))))))), ?_⟩
    walk_at "go"
    exact k _ upd_same (by repeat (first | exact but_refl | apply but_upd))
def sp_M_Seat_begin (C : Cs) (K : PySem.W.Frag) : Sp := fun vv H Q _ => ∃ (A : Ad) (G : Gh) (s : State) (p : Nat) (e : Nat), vv = [.ref (A.at_ (.seat (zb p))), nV e] ∧ (TabAt C A G s H) ∧ (∀ H', TabAt C A G (Vbdcas.setSeat s p { Vbdcas.seat s p with epoch := e, handled := 0, acked := 0 }) H' → Frm A H H' → Q .non H')
theorem ok_M_Seat_begin (T : Txt K mg C) : MB P w K mg base C.seat "begin" 1 p_M_Seat_begin (sp_M_Seat_begin C K) := by
  have sc := sc_M_Seat_begin
  refine MB.of T.f_M_Seat_begin T.c_Seat sc ba_M_Seat_begin (fun vv H Q E h => ?_) (fun fn cdv A0 outer s0 H vv Q E hr h => ?_)
  · obtain ⟨_, _, _, _, _, rfl, _⟩ := h
    rfl
  · obtain ⟨A, G, s, p, e, rfl, hT, k⟩ := h
    refine ⟨_, (pss_cons (ps_fld (pv 0) (pv 1) rfl)
      (pss_cons (ps_fld (pv 0) pe_int rfl)
      (pss_one (ps_fld (pv 0) pe_int rfl)))), ?_⟩
    walk_at "go"
    dsimp only
    rw [upd_upd, upd_upd]
    exact k _ (hT.setSeat p (by rw [sea_zb]; rfl)) (Frm.put Frm.refl)
def sp_M_Seat_pay (C : Cs) (K : PySem.W.Frag) : Sp := fun vv H Q _ => ∃ (A : Ad) (G : Gh) (s : State) (p : Nat) (c : Nat), vv = [.ref (A.at_ (.seat (zb p))), nV c] ∧ (TabAt C A G s H) ∧ (c ≤ (Vbdcas.seat s p).bank) ∧ (∀ H', TabAt C A G (Vbdcas.setSeat s p { Vbdcas.seat s p with bank := (Vbdcas.seat s p).bank - c, spent := (Vbdcas.seat s p).spent + c }) H' → Frm A H H' → Q .non H')
theorem ok_M_Seat_pay (T : Txt K mg C) : MB P w K mg base C.seat "pay" 1 p_M_Seat_pay (sp_M_Seat_pay C K) := by
  have sc := sc_M_Seat_pay
  refine MB.of T.f_M_Seat_pay T.c_Seat sc ba_M_Seat_pay (fun vv H Q E h => ?_) (fun fn cdv A0 outer s0 H vv Q E hr h => ?_)
  · obtain ⟨_, _, _, _, _, rfl, _⟩ := h
    rfl
  · obtain ⟨A, G, s, p, c, rfl, hT, hc, k⟩ := h
    refine ⟨_, (pss_cons (ps_fldaug (pv 0) (pv 1) in_sub)
      (pss_one (ps_fldaug (pv 0) (pv 1) in_add))), ?_⟩
    walk_at "go"
    dsimp only
    rw [upd_upd, sea_zb]
    have e1 : ((Vbdcas.seat s p).bank : Int) - (c : Int) = (((Vbdcas.seat s p).bank - c : Nat) : Int) := by omega
    rw [e1]
    exact k _ (hT.setSeat p rfl) (Frm.put Frm.refl)
/-! the net -/
theorem find_at {A : Ad} {H : Hp} {i : Int} : ∀ {l : List (Nat × Msg)} {kvs : List (Key × V)}, NetAt C A H l kvs → match (l.find? fun x => (x.1 : Int) == i) with
    | none => valV kvs (Sum.inl i : Key) = none
    | some x => ∃ v, valV kvs (Sum.inl i : Key) = some v ∧ MsgAt C A H v x.2
  | _, _, .nil => rfl
  | x :: l, kv :: kvs, .cons h t => by
    have ih := find_at (i := i) t
    by_cases e : (x.1 : Int) = i
    · have e1 : ((x.1 : Int) == i) = true := by simp [e]
      have e2 : decide (kv.1 = (Sum.inl i : Key)) = true := by rw [h.1, e]; simp
      rw [List.find?_cons, e1]
      refine ⟨kv.2, ?_, h.2⟩
      unfold valV
      rw [List.find?_cons, e2]
      rfl
    · have e1 : ((x.1 : Int) == i) = false := by simp [e]
      have e2 : decide (kv.1 = (Sum.inl i : Key)) = false := by rw [h.1]; simp [e]
      have e3 : valV (kv :: kvs) (Sum.inl i : Key) = valV kvs (Sum.inl i : Key) := by
        unfold valV
        rw [List.find?_cons, e2]
      rw [List.find?_cons, e1, e3]
      exact ih
theorem find_some {A : Ad} {G : Gh} {s : State} {H : Hp} {i : Int} {m : Msg} (hT : TabAt C A G s H) (e : Vbdcas.find s i = some m) : ∃ v, valV G.kvs (Sum.inl i : Key) = some v ∧ MsgAt C A H v m := by
  have := find_at (i := i) hT.net
  unfold Vbdcas.find at e
  cases q : s.net.find? (fun x => (x.1 : Int) == i) with
  | none => rw [q] at e; cases e
  | some x =>
    rw [q] at e this
    obtain ⟨v, h1, h2⟩ := this
    have e2 : x.2 = m := Option.some.inj e
    subst e2
    exact ⟨v, h1, h2⟩
theorem find_isSome {A : Ad} {G : Gh} {s : State} {H : Hp} (i : Int) (hT : TabAt C A G s H) : (valV G.kvs (Sum.inl i : Key)).isSome = (Vbdcas.find s i).isSome := by
  have := find_at (i := i) hT.net
  unfold Vbdcas.find
  cases q : s.net.find? (fun x => (x.1 : Int) == i) with
  | none =>
    rw [q] at this
    rw [show valV G.kvs (Sum.inl i : Key) = none from this]
    rfl
  | some x =>
    rw [q] at this
    obtain ⟨v, h1, h2⟩ := this
    rw [h1]
    rfl
theorem drop_at {A : Ad} {H : Hp} {i : Int} : ∀ {l : List (Nat × Msg)} {kvs : List (Key × V)}, NetAt C A H l kvs → NetAt C A H (l.filter fun x => (x.1 : Int) != i) (dropK kvs (Sum.inl i : Key))
  | _, _, .nil => .nil
  | x :: l, kv :: kvs, .cons h t => by
    have ih := drop_at (i := i) t
    by_cases e : (x.1 : Int) = i
    · rw [List.filter_cons, if_neg (by simp [e]), dropK_pos (by rw [h.1, e])]
      exact ih
    · rw [List.filter_cons, if_pos (by simp [e]), dropK_neg (by rw [h.1]; simp [e])]
      exact .cons h ih
theorem Paired.snoc {α β : Type} {F : α → β → Prop} {a : α} {b : β} (h : F a b) : ∀ {l : List α} {k : List β}, Paired F l k → Paired F (l ++ [a]) (k ++ [b])
  | _, _, .nil => .cons h .nil
  | _, _, .cons r t => .cons r (Paired.snoc h t)
theorem new_key {A : Ad} {H : Hp} {n : Nat} : ∀ {l : List (Nat × Msg)} {kvs : List (Key × V)}, NetAt C A H l kvs → (∀ x ∈ l, x.1 < n) → valV kvs (Sum.inl (n : Int) : Key) = none
  | _, _, .nil, _ => rfl
  | x :: l, kv :: kvs, .cons h t, hn => by
    have ih := new_key t fun y hy => hn y (List.mem_cons_of_mem _ hy)
    have := hn x List.mem_cons_self
    have e2 : decide (kv.1 = (Sum.inl (n : Int) : Key)) = false := by rw [h.1]; simp; omega
    unfold valV at ih ⊢
    rw [List.find?_cons, e2]
    exact ih
def sp_M_Net_is_full (C : Cs) (K : PySem.W.Frag) : Sp := fun vv H Q _ => ∃ (A : Ad) (G : Gh) (s : State), vv = [.ref (A.at_ .net)] ∧ (TabAt C A G s H) ∧ (Q (.bl (decide (64 ≤ s.net.length))) H)
theorem ok_M_Net_is_full (T : Txt K mg C) : MB P w K mg base C.net "is_full" 1 p_M_Net_is_full (sp_M_Net_is_full C K) := by
  have sc := sc_M_Net_is_full
  refine MB.of T.f_M_Net_is_full T.c_Net sc ba_M_Net_is_full (fun vv H Q E h => ?_) (fun fn cdv A0 outer s0 H vv Q E hr h => ?_)
  · obtain ⟨_, _, _, rfl, _⟩ := h
    rfl
  · obtain ⟨A, G, s, rfl, hT, k⟩ := h
    refine ⟨_, (pss_one (ps_ret (pe_cmpR op_ge (pe_callB call_lenD (by rfl) T.b_len PySem.boot_len (pa_cons (pe_fld (pv 0) rfl) pa_nil)) (pe_gi T.g_MOST_MESSAGES rfl) (nomark _)))), ?_⟩
    walk_at "go"
    dsimp only
    have e1 : decide ((64 : Int) ≤ (G.kvs.length : Int)) = decide (64 ≤ G.kvs.length) := by simp; omega
    rw [hT.net.len] at k
    rw [e1]
    exact k
def sp_M_Net_holds (C : Cs) (K : PySem.W.Frag) : Sp := fun vv H Q _ => ∃ (A : Ad) (G : Gh) (s : State) (i : Int), vv = [.ref (A.at_ .net), .int i] ∧ (TabAt C A G s H) ∧ (Q (.bl (Vbdcas.find s i).isSome) H)
theorem ok_M_Net_holds (T : Txt K mg C) : MB P w K mg base C.net "holds" 1 p_M_Net_holds (sp_M_Net_holds C K) := by
  have sc := sc_M_Net_holds
  refine MB.of T.f_M_Net_holds T.c_Net sc ba_M_Net_holds (fun vv H Q E h => ?_) (fun fn cdv A0 outer s0 H vv Q E hr h => ?_)
  · obtain ⟨_, _, _, _, rfl, _⟩ := h
    rfl
  · obtain ⟨A, G, s, i, rfl, hT, k⟩ := h
    refine ⟨_, (pss_one (ps_ret (pe_cmp (pc_din (hu_of hr) (pv 1) (pe_fld (pv 0) rfl))))), ?_⟩
    walk_at "go"
    refine ⟨_, _, rfl, DGet.k (k := Sum.inl i) hT.wait, ?_⟩
    rw [find_isSome i hT]
    exact k
def sp_M_Net_look (C : Cs) (K : PySem.W.Frag) : Sp := fun vv H Q _ => ∃ (A : Ad) (G : Gh) (s : State) (i : Int) (m : Msg), vv = [.ref (A.at_ .net), .int i] ∧ (TabAt C A G s H) ∧ (Vbdcas.find s i = some m) ∧ (∀ v, MsgAt C A H v m → Q v H)
theorem ok_M_Net_look (T : Txt K mg C) : MB P w K mg base C.net "look" 1 p_M_Net_look (sp_M_Net_look C K) := by
  have sc := sc_M_Net_look
  refine MB.of T.f_M_Net_look T.c_Net sc ba_M_Net_look (fun vv H Q E h => ?_) (fun fn cdv A0 outer s0 H vv Q E hr h => ?_)
  · obtain ⟨_, _, _, _, _, rfl, _⟩ := h
    rfl
  · obtain ⟨A, G, s, i, m, rfl, hT, hm, k⟩ := h
    refine ⟨_, (pss_one (ps_ret (pe_dget (hu_of hr) (pe_fld (pv 0) rfl) (pv 1) (fun _ _ => rfl)))), ?_⟩
    walk_at "go"
    obtain ⟨v, h1, h2⟩ := find_some hT hm
    refine ⟨_, v, rfl, ?_, k v h2⟩
    rw [← h1]
    exact DGet.k (k := Sum.inl i) hT.wait
def sp_M_Net_take (C : Cs) (K : PySem.W.Frag) : Sp := fun vv H Q _ => ∃ (A : Ad) (G : Gh) (s : State) (i : Int) (m : Msg), vv = [.ref (A.at_ .net), .int i] ∧ (TabAt C A G s H) ∧ (Vbdcas.find s i = some m) ∧ (∀ v G' H', TabAt C A G' (Vbdcas.without s i) H' → Frm A H H' → MsgAt C A H' v m → Q v H')
theorem ok_M_Net_take (T : Txt K mg C) : MB P w K mg base C.net "take" 1 p_M_Net_take (sp_M_Net_take C K) := by
  have sc := sc_M_Net_take
  refine MB.of T.f_M_Net_take T.c_Net sc ba_M_Net_take (fun vv H Q E h => ?_) (fun fn cdv A0 outer s0 H vv Q E hr h => ?_)
  · obtain ⟨_, _, _, _, _, rfl, _⟩ := h
    rfl
  · obtain ⟨A, G, s, i, m, rfl, hT, hm, k⟩ := h
    refine ⟨_, (pss_one (ps_ret (pe_dpop1 (pe_fld (pv 0) rfl) (pv 1) ⟨rfl, rfl, rfl, rfl⟩))), ?_⟩
    walk_at "go"
    obtain ⟨v, h1, h2⟩ := find_some hT hm
    refine ⟨_, rfl, .inl ⟨_, .inl hT.wait⟩, ?_⟩
    walk_at "go"
    refine ⟨_, Sum.inl i, v, hT.wait, rfl, h1, ?_⟩
    exact k v _ _ (hT.setWait (drop_at hT.net)) (Frm.put Frm.refl) (h2.mono (Frm.put Frm.refl))
def sp_M_Net_send (C : Cs) (K : PySem.W.Frag) : Sp := fun vv H Q _ => ∃ (A : Ad) (G : Gh) (s : State) (m : Msg) (v : V), vv = [.ref (A.at_ .net), v] ∧ (TabAt C A G s H) ∧ (Ok s) ∧ (MsgAt C A H v m) ∧ (∀ G' H', TabAt C A G' (Vbdcas.send s m) H' → Frm A H H' → Q (nV s.next) H')
theorem ok_M_Net_send (T : Txt K mg C) : MB P w K mg base C.net "send" 2 p_M_Net_send (sp_M_Net_send C K) := by
  have M_Net_is_full := ok_M_Net_is_full (P := P) (w := w) (base := base) T
  have sc := sc_M_Net_send
  refine MB.of T.f_M_Net_send T.c_Net sc ba_M_Net_send (fun vv H Q E h => ?_) (fun fn cdv A0 outer s0 H vv Q E hr h => ?_)
  · obtain ⟨_, _, _, _, _, rfl, _⟩ := h
    rfl
  · obtain ⟨A, G, s, m, v, rfl, hT, hO, hm, k⟩ := h
    refine ⟨_, (pss_cons (ps_set (i := 2) sc.nd rfl (Or.inl rfl) (pe_fld (pv 0) rfl))
      (pss_cons (ps_fld (pv 0) (pe_op op_add (pv 2) pe_int) rfl)
      (pss_cons (ps_if (pt_val (pe_m0 M_Net_is_full (hr.mono (by decide)) (pv 0))) (pss_one (ps_fldaug (pv 0) pe_int in_add)) (pss_one (ps_dput (hu_of hr) (pe_fld (pv 0) rfl) (pv 2) (pv 1) rfl)))
      (pss_one (ps_ret (pv 2)))))), ?_⟩
    walk_at "go"
    have h1 := hT.setNet (n := s.next + 1) (l := s.lost) (fs := putF "next_number" (V.int (↑s.next + 1)) (netF A s)) rfl
    refine ⟨A, G, _, rfl, h1, ?_⟩
    refine ⟨_, rfl, ?_⟩
    refine ite2 (fun hf => ?_) (fun hf => ?_)
    · have hf' : 64 ≤ s.net.length := of_decide_eq_true hf
      unfold Vbdcas.send at k
      rw [if_pos (show Vbdcas.NET ≤ s.net.length from hf')] at k
      walk_at "go"
      exact k _ _ (h1.setNet (n := s.next + 1) (l := s.lost + 1) rfl) (Frm.put (Frm.put Frm.refl))
    · have hf' : ¬ 64 ≤ s.net.length := fun z => hf (decide_eq_true z)
      unfold Vbdcas.send at k
      rw [if_neg (show ¬ Vbdcas.NET ≤ s.net.length from hf')] at k
      walk_at "go"
      have hl := hT.net.len
      have hn := hO.net
      refine ⟨_, _, rfl, DPut.k (k := Sum.inl (s.next : Int)) h1.wait (by show G.kvs.length < sizeLine; unfold sizeLine; omega), ?_⟩
      rw [putK_new v (new_key hT.net hO.num)]
      walk_at "go"
      have h2 := h1.setWait (l := s.net ++ [(s.next, m)]) (kvs := G.kvs ++ [((Sum.inl (s.next : Int) : Key), v)]) (Paired.snoc ⟨rfl, hm.mono (Frm.put Frm.refl)⟩ h1.net)
      exact k _ _ h2 (Frm.put (Frm.put Frm.refl))
/-- a list of whole numbers is given, beside all that was -/
def Told (H : Hp) (Q : VK) (l : List Nat) : Prop := ∀ H' p, Same H H' → H p = none → H' p = some (.lst (vs l)) → Q (.ref p) H'
theorem same_put {H H1 : Hp} {g : Addr} {o : HO} (s : Same H H1) (hg : H g = none) : Same H (upd H1 g o) := fun b u e => by
  rw [upd_ne (ne_of_none e hg)]
  exact s b u e
def sp_M_Hello_told (C : Cs) (K : PySem.W.Frag) : Sp := fun vv H Q _ => ∃ (a : Addr) (dx : Addr) (p : Nat) (e : Nat), vv = [.ref a] ∧ (H a = some (.ins C.hello dx (helloF p e))) ∧ (Told H Q [p, e])
theorem ok_M_Hello_told (T : Txt K mg C) : MB P w K mg base C.hello "told" 1 p_M_Hello_told (sp_M_Hello_told C K) := by
  have sc := sc_M_Hello_told
  refine MB.of T.f_M_Hello_told T.c_Hello sc ba_M_Hello_told (fun vv H Q E h => ?_) (fun fn cdv A0 outer s0 H vv Q E hr h => ?_)
  · obtain ⟨_, _, _, _, rfl, _⟩ := h
    rfl
  · obtain ⟨a, dx, p, e, rfl, ha, k⟩ := h
    refine ⟨_, (pss_one (ps_ret (pe_lst (pa_cons (pe_fld (pv 0) rfl) (pa_cons (pe_fld (pv 0) rfl) pa_nil))))), ?_⟩
    walk_at "go"
    rename_i l hl
    exact k _ l (same_new hl) hl upd_same
def sp_M_Request_told (C : Cs) (K : PySem.W.Frag) : Sp := fun vv H Q _ => ∃ (a : Addr) (dx : Addr) (p : Nat) (e : Nat) (id : Nat) (ply : Nat) (mv : Nat) (th : Nat), vv = [.ref a] ∧ (H a = some (.ins C.req dx (reqF p e id ply mv th))) ∧ (Told H Q [p, e, id, ply, mv, th])
theorem ok_M_Request_told (T : Txt K mg C) : MB P w K mg base C.req "told" 1 p_M_Request_told (sp_M_Request_told C K) := by
  have sc := sc_M_Request_told
  refine MB.of T.f_M_Request_told T.c_Request sc ba_M_Request_told (fun vv H Q E h => ?_) (fun fn cdv A0 outer s0 H vv Q E hr h => ?_)
  · obtain ⟨_, _, _, _, _, _, _, _, rfl, _⟩ := h
    rfl
  · obtain ⟨a, dx, p, e, id, ply, mv, th, rfl, ha, k⟩ := h
    refine ⟨_, (pss_one (ps_ret (pe_lst (pa_cons (pe_fld (pv 0) rfl) (pa_cons (pe_fld (pv 0) rfl) (pa_cons (pe_fld (pv 0) rfl) (pa_cons (pe_fld (pv 0) rfl) (pa_cons (pe_fld (pv 0) rfl) (pa_cons (pe_fld (pv 0) rfl) pa_nil))))))))), ?_⟩
    walk_at "go"
    rename_i l hl
    exact k _ l (same_new hl) hl upd_same
def sp_M_Ack_told (C : Cs) (K : PySem.W.Frag) : Sp := fun vv H Q _ => ∃ (a : Addr) (dx : Addr) (p : Nat) (e : Nat) (n : Nat), vv = [.ref a] ∧ (H a = some (.ins C.ack dx (ackF p e n))) ∧ (Told H Q [p, e, n])
theorem ok_M_Ack_told (T : Txt K mg C) : MB P w K mg base C.ack "told" 1 p_M_Ack_told (sp_M_Ack_told C K) := by
  have sc := sc_M_Ack_told
  refine MB.of T.f_M_Ack_told T.c_Ack sc ba_M_Ack_told (fun vv H Q E h => ?_) (fun fn cdv A0 outer s0 H vv Q E hr h => ?_)
  · obtain ⟨_, _, _, _, _, rfl, _⟩ := h
    rfl
  · obtain ⟨a, dx, p, e, n, rfl, ha, k⟩ := h
    refine ⟨_, (pss_one (ps_ret (pe_lst (pa_cons (pe_fld (pv 0) rfl) (pa_cons (pe_fld (pv 0) rfl) (pa_cons (pe_fld (pv 0) rfl) pa_nil)))))), ?_⟩
    walk_at "go"
    rename_i l hl
    exact k _ l (same_new hl) hl upd_same
theorem k_tup {H : Hp} {Q : VK} {p : Addr} {xs : List V} {v : V} {i : Int} (n : Nat) (hi : i = (n : Int)) (h : H p = some (.tup xs)) (hv : xs[n]? = some v) (q : Q v H) : rIxT K (.ref p) (.int i) H Q := by
  subst hi
  exact ⟨_, _, _, _, rfl, rfl, .inl (.inl h), atI_nat hv, q⟩
def sp_M_News_told (C : Cs) (K : PySem.W.Frag) : Sp := fun vv H Q _ => ∃ (a : Addr) (dx : Addr) (p : Nat) (e : Nat) (f : Nat) (l : Addr) (ms : (List Nat)) (hd : Nat) (t : Addr) (b0 : Nat) (b1 : Nat) (ov : Nat), vv = [.ref a] ∧ (H a = some (.ins C.news dx (newsF p e f l hd t ov))) ∧ (H l = some (.lst (vs ms))) ∧ (H t = some (.tup [nV b0, nV b1])) ∧ (ms.length ≤ 4) ∧ (Told H Q ([p, e, f, ms.length] ++ (ms ++ [hd, b0, b1, ov])))
theorem ok_M_News_told (T : Txt K mg C) : MB P w K mg base C.news "told" 1 p_M_News_told (sp_M_News_told C K) := by
  have sc := sc_M_News_told
  refine MB.of T.f_M_News_told T.c_News sc ba_M_News_told (fun vv H Q E h => ?_) (fun fn cdv A0 outer s0 H vv Q E hr h => ?_)
  · obtain ⟨_, _, _, _, _, _, _, _, _, _, _, _, rfl, _⟩ := h
    rfl
  · obtain ⟨a, dx, p, e, f, l, ms, hd, t, b0, b1, ov, rfl, ha, hl, ht, h4, k⟩ := h
    refine ⟨_, (pss_cons (ps_set (i := 1) sc.nd rfl (Or.inl rfl) (pe_lst (pa_cons (pe_fld (pv 0) rfl) (pa_cons (pe_fld (pv 0) rfl) (pa_cons (pe_fld (pv 0) rfl) (pa_cons (pe_callB call_len_seq (by rfl) T.b_len PySem.boot_len (pa_cons (pe_fld (pv 0) rfl) pa_nil)) pa_nil))))))
      (pss_cons (ps_expr (pe_bm PySem.F.plainAttrs_list PySem.F.slot_list_extend PySem.F.type_list_extend mt_extend (pv 1) (pa_cons (pe_fld (pv 0) rfl) pa_nil)))
      (pss_cons (ps_expr (pe_bm PySem.F.plainAttrs_list PySem.F.slot_list_extend PySem.F.type_list_extend mt_extend (pv 1) (pa_cons (pe_lst (pa_cons (pe_fld (pv 0) rfl) (pa_cons (pe_ix ix_tup (pe_fld (pv 0) rfl) pe_int (fun _ _ => rfl)) (pa_cons (pe_ix ix_tup (pe_fld (pv 0) rfl) pe_int (fun _ _ => rfl)) (pa_cons (pe_fld (pv 0) rfl) pa_nil))))) pa_nil)))
      (pss_one (ps_ret (pv 1)))))), ?_⟩
    walk_at "go"
    rename_i g hg
    refine ⟨_, _, _, _, rfl, rfl, upd_same, upd_old hg hl, ?_, ?_⟩
    · simp only [vs, List.length_map, List.length_cons, List.length_nil]
      unfold sizeLine
      omega
    rw [upd_upd]
    walk_at "go"
    refine k_tup 0 rfl (upd_old hg ht) rfl ?_
    walk_at "go"
    refine k_tup 1 rfl (upd_old hg ht) rfl ?_
    walk_at "go"
    rename_i q hq
    refine ⟨_, _, _, _, rfl, rfl, upd_old hq upd_same, upd_same, ?_, ?_⟩
    · simp only [vs, List.length_map, List.length_cons, List.length_nil, List.length_append]
      unfold sizeLine
      omega
    walk_at "go"
    refine k _ g (same_put ((same_new hg).trans (same_new hq)) hg) hg ?_
    rw [upd_same]
    simp [vs]
def sp_M_Seat_told (C : Cs) (K : PySem.W.Frag) : Sp := fun vv H Q _ => ∃ (A : Ad) (G : Gh) (s : State) (z : Bool), vv = [.ref (A.at_ (.seat z))] ∧ (TabAt C A G s H) ∧ (Told H Q (Vbdcas.seatRow (sea s z)))
theorem ok_M_Seat_told (T : Txt K mg C) : MB P w K mg base C.seat "told" 1 p_M_Seat_told (sp_M_Seat_told C K) := by
  have sc := sc_M_Seat_told
  refine MB.of T.f_M_Seat_told T.c_Seat sc ba_M_Seat_told (fun vv H Q E h => ?_) (fun fn cdv A0 outer s0 H vv Q E hr h => ?_)
  · obtain ⟨_, _, _, _, rfl, _⟩ := h
    rfl
  · obtain ⟨A, G, s, z, rfl, hT, k⟩ := h
    refine ⟨_, (pss_one (ps_ret (pe_lst (pa_cons (pe_fld (pv 0) rfl) (pa_cons (pe_fld (pv 0) rfl) (pa_cons (pe_fld (pv 0) rfl) (pa_cons (pe_ifExp (pt_val (pe_fld (pv 0) rfl)) pe_int pe_int) (pa_cons (pe_fld (pv 0) rfl) (pa_cons (pe_fld (pv 0) rfl) pa_nil))))))))), ?_⟩
    walk_at "go"
    refine ite2 (fun h => ?_) (fun h => ?_)
    · walk_at "go"
      rename_i l hl
      refine k _ l (same_new hl) hl ?_
      rw [upd_same]
      unfold Vbdcas.seatRow Vbdcas.bit
      rw [if_pos h]
      rfl
    · walk_at "go"
      rename_i l hl
      refine k _ l (same_new hl) hl ?_
      rw [upd_same]
      unfold Vbdcas.seatRow Vbdcas.bit
      rw [if_neg h]
      rfl
def sp_M_Net_is_empty (C : Cs) (K : PySem.W.Frag) : Sp := fun vv H Q _ => ∃ (A : Ad) (G : Gh) (s : State), vv = [.ref (A.at_ .net)] ∧ (TabAt C A G s H) ∧ (Q (.bl (decide (s.net.length = 0))) H)
theorem ok_M_Net_is_empty (T : Txt K mg C) : MB P w K mg base C.net "is_empty" 1 p_M_Net_is_empty (sp_M_Net_is_empty C K) := by
  have sc := sc_M_Net_is_empty
  refine MB.of T.f_M_Net_is_empty T.c_Net sc ba_M_Net_is_empty (fun vv H Q E h => ?_) (fun fn cdv A0 outer s0 H vv Q E hr h => ?_)
  · obtain ⟨_, _, _, rfl, _⟩ := h
    rfl
  · obtain ⟨A, G, s, rfl, hT, k⟩ := h
    refine ⟨_, (pss_one (ps_ret (pe_cmpR op_eq (pe_callB call_lenD (by rfl) T.b_len PySem.boot_len (pa_cons (pe_fld (pv 0) rfl) pa_nil)) pe_int (nomark _)))), ?_⟩
    walk_at "go"
    dsimp only
    have e1 : decide ((G.kvs.length : Int) = 0) = decide (G.kvs.length = 0) := by simp
    rw [hT.net.len] at k
    rw [e1]
    exact k
theorem find_head {s : State} {n : Nat} {m : Msg} {r : List (Nat × Msg)} (e : s.net = (n, m) :: r) : Vbdcas.find s (n : Int) = some m := by
  unfold Vbdcas.find
  rw [e, List.find?_cons]
  simp
theorem without_head {s : State} (hO : Ok s) {n : Nat} {m : Msg} {r : List (Nat × Msg)} (e : s.net = (n, m) :: r) : Vbdcas.without s (n : Int) = { s with net := r } := by
  have hn := hO.nod
  rw [e, List.map_cons, List.nodup_cons] at hn
  unfold Vbdcas.without
  rw [e, List.filter_cons, if_neg (by simp), List.filter_eq_self.mpr]
  intro x hx
  have : x.1 ≠ n := fun q => hn.1 (by rw [← q]; exact List.mem_map.mpr ⟨x, hx, rfl⟩)
  simp
  omega
theorem net_head {A : Ad} {H : Hp} {n : Nat} {m : Msg} {r : List (Nat × Msg)} {kvs : List (Key × V)} (h : NetAt C A H ((n, m) :: r) kvs) : (kvs.map fun kv => kV kv.1)[0]? = some (.int (n : Int)) := by
  cases h with
  | cons q t =>
    show some (kV _) = _
    rw [q.1]
    rfl
def sp_M_Net_take_oldest (C : Cs) (K : PySem.W.Frag) : Sp := fun vv H Q _ => ∃ (A : Ad) (G : Gh) (s : State) (n : Nat) (m : Msg) (r : (List (Nat×Msg))), vv = [.ref (A.at_ .net)] ∧ (TabAt C A G s H) ∧ (Ok s) ∧ (s.net = (n, m) :: r) ∧ (∀ v G' H', TabAt C A G' { s with net := r } H' → Frm A H H' → MsgAt C A H' v m → Q v H')
theorem ok_M_Net_take_oldest (T : Txt K mg C) : MB P w K mg base C.net "take_oldest" 2 p_M_Net_take_oldest (sp_M_Net_take_oldest C K) := by
  have M_Net_take := ok_M_Net_take (P := P) (w := w) (base := base) T
  have sc := sc_M_Net_take_oldest
  refine MB.of T.f_M_Net_take_oldest T.c_Net sc ba_M_Net_take_oldest (fun vv H Q E h => ?_) (fun fn cdv A0 outer s0 H vv Q E hr h => ?_)
  · obtain ⟨_, _, _, _, _, _, rfl, _⟩ := h
    rfl
  · obtain ⟨A, G, s, n, m, r, rfl, hT, hO, hn, k⟩ := h
    refine ⟨_, (pss_one (ps_ret (pe_m M_Net_take (hr.mono (by decide)) (pv 0) (pa_cons (pe_ix ix_list (pe_callTy (call_listD rfl) (by rfl) T.b_list (by rfl) (pa_cons (pe_fld (pv 0) rfl) pa_nil)) pe_int (fun _ _ => rfl)) pa_nil)))), ?_⟩
    walk_at "go"
    rename_i l hl
    have hh := hT.net
    rw [hn] at hh
    refine k_ixL upd_same (atI_nat (net_head hh)) ?_
    walk_at "go"
    refine ⟨A, G, s, (n : Int), m, rfl, hT.new hl, find_head hn, fun v G' H' t f mm => k v G' H' ?_ ((Frm.same (same_new hl)).trans f) mm⟩
    rw [without_head hO hn] at t
    exact t
def kindOf : Msg → Nat
  | .hello _ _ => 0
  | .req _ _ _ _ _ _ => 1
  | .ack _ _ _ => 2
  | .news _ _ _ _ _ _ _ _ => 3
def rowT : Msg → List Nat
  | .hello p e => [p, e]
  | .req p e id ply move think => [p, e, id, ply, move, think]
  | .ack p e n => [p, e, n]
  | .news p e f ms h b0 b1 ov => [p, e, f, ms.length] ++ (ms ++ [h, b0, b1, ov])
theorem row_eq (m : Msg) : Vbdcas.row m = kindOf m :: rowT m := by cases m <;> rfl
theorem k_kind (T : Txt K mg C) {A : Ad} {H : Hp} {R : V → Prop} {v : V} {m : Msg} (h : MsgAt C A H v m) (q : R (nV (kindOf m))) : ∃ a C' dx fs x, v = V.ref a ∧ H a = some (HO.ins C' dx fs) ∧ Cls K C' ∧ NoAttr K C' "kind" ∧ fs.lookup ("kind" : Str) = some x ∧ R x := by
  cases m with
  | hello p e => obtain ⟨a, dx, rfl, hq⟩ := h; exact ⟨a, _, dx, _, _, rfl, hq.2, T.c_Hello, T.n_Hello_kind, rfl, q⟩
  | req p e id ply move think => obtain ⟨a, dx, rfl, hq⟩ := h; exact ⟨a, _, dx, _, _, rfl, hq.2, T.c_Request, T.n_Request_kind, rfl, q⟩
  | ack p e n => obtain ⟨a, dx, rfl, hq⟩ := h; exact ⟨a, _, dx, _, _, rfl, hq.2, T.c_Ack, T.n_Ack_kind, rfl, q⟩
  | news p e f ms hd b0 b1 ov => obtain ⟨a, dx, l, t, rfl, hq, _⟩ := h; exact ⟨a, _, dx, _, _, rfl, hq.2, T.c_News, T.n_News_kind, rfl, q⟩
theorem told_any {A : Ad} {H : Hp} {Q : VK} {σ : L2.St} {v : V} {m : Msg} {a b c : Nat} (e : σ[3]? = some (some v)) (h : MsgAt C A H v m) (h4 : MsgOk a b c m) (k : Told H Q (rowT m)) :
    tAlt (tMeth C.hello "told" (sp_M_Hello_told C K) [] E0 (tVar 3) tNil) (tAlt (tMeth C.req "told" (sp_M_Request_told C K) [] E0 (tVar 3) tNil) (tAlt (tMeth C.ack "told" (sp_M_Ack_told C K) [] E0 (tVar 3) tNil) (tMeth C.news "told" (sp_M_News_told C K) [] E0 (tVar 3) tNil))) σ H Q := by
  cases m with
  | hello p e => obtain ⟨a, dx, rfl, hq⟩ := h; exact .inl (r_meth (r_var e ⟨a, dx, _, rfl, hq.2, rfl, a, dx, _, _, rfl, hq.2, k⟩))
  | req p e id ply move think => obtain ⟨a, dx, rfl, hq⟩ := h; exact .inr (.inl (r_meth (r_var e ⟨a, dx, _, rfl, hq.2, rfl, a, dx, _, _, _, _, _, _, rfl, hq.2, k⟩)))
  | ack p e n => obtain ⟨a, dx, rfl, hq⟩ := h; exact .inr (.inr (.inl (r_meth (r_var e ⟨a, dx, _, rfl, hq.2, rfl, a, dx, _, _, _, rfl, hq.2, k⟩))))
  | news p e f ms hd b0 b1 ov => obtain ⟨a, dx, l, t, rfl, hq, hl, ht⟩ := h; exact .inr (.inr (.inr (r_meth (r_var e ⟨a, dx, _, rfl, hq.2, rfl, a, dx, _, _, _, l, _, _, t, _, _, _, rfl, hq.2, hl.2, ht.2, h4.2.2, k⟩))))
theorem r_forI {td : TE} {g : TG} {tb : TS} {D : Ends} {σ : L2.St} {H : Hp} (h : td σ H fun x H1 => ∃ d o kvs, x = V.ref d ∧ H1 d = some (.frz o (.dK kvs)) ∧ ∃ W : Nat → Nat → L2.St → Hp → Prop, (∃ m, W 0 m σ H1) ∧ ∀ i m σ H, W i m σ H →
  ((Iti d o kvs).stop i H ∧ D.nx σ H) ∨ ((Iti d o kvs).go i H ∧ ∃ N : L2.St → Hp → Prop, (∀ σ' H', N σ' H' → ∃ m', m' < m ∧ W (i + 1) m' σ' H') ∧ ∀ x H', (Iti d o kvs).yld i H x H' → g x σ H' fun σ2 H2 => tb { D with nx := N, ct := N, bk := D.nx } σ2 H2)) : tFor (iItems td) g tb D σ H := h
theorem r_forL {td : TE} {g : TG} {tb : TS} {D : Ends} {σ : L2.St} {H : Hp} (h : td σ H fun x H1 => ∃ a, x = V.ref a ∧ (∃ xs, SqL K H1 a xs) ∧ ∃ W : Nat → Nat → L2.St → Hp → Prop, (∃ m, W 0 m σ H1) ∧ ∀ i m σ H, W i m σ H →
  ((Itl K a).stop i H ∧ D.nx σ H) ∨ ((Itl K a).go i H ∧ ∃ N : L2.St → Hp → Prop, (∀ σ' H', N σ' H' → ∃ m', m' < m ∧ W (i + 1) m' σ' H') ∧ ∀ x H', (Itl K a).yld i H x H' → g x σ H' fun σ2 H2 => tb { D with nx := N, ct := N, bk := D.nx } σ2 H2)) : tFor (iList K td) g tb D σ H := h
theorem r_forR {ta : TA} {g : TG} {tb : TS} {D : Ends} {σ : L2.St} {H : Hp} (h : ta σ H fun vs H1 => ∃ j : Int, vs = [V.int j] ∧ -(2 ^ 62) ≤ j ∧ j < 2 ^ 62 ∧ ∃ W : Nat → Nat → L2.St → Hp → Prop, (∃ m, W 0 m σ H1) ∧ ∀ i m σ H, W i m σ H →
  ((Itr 0 j.toNat).stop i H ∧ D.nx σ H) ∨ ((Itr 0 j.toNat).go i H ∧ ∃ N : L2.St → Hp → Prop, (∀ σ' H', N σ' H' → ∃ m', m' < m ∧ W (i + 1) m' σ' H') ∧ ∀ x H', (Itr 0 j.toNat).yld i H x H' → g x σ H' fun σ2 H2 => tb { D with nx := N, ct := N, bk := D.nx } σ2 H2)) : tFor (iRng1 ta) g tb D σ H := h
/-- over the pairs of a dict that is locked -/
theorem for_items {d : Addr} {o : Obj} {kvs : List (Key × V)} {g : TG} {tb : TS} {D : Ends} {σ : L2.St} {H : Hp} (Pv : Nat → L2.St → Hp → Prop) (h0 : Pv 0 σ H) (hl : ∀ i σ H, Pv i σ H → H d = some (.frz o (.dK kvs)))
    (hs : ∀ i k v p σ H, kvs[i]? = some (k, v) → Pv i σ H → H p = none → g (.ref p) σ (upd H p (.tup [kV k, v])) fun σ2 H2 => tb { D with nx := Pv (i + 1), ct := Pv (i + 1), bk := D.nx } σ2 H2) (hd : ∀ σ H, Pv kvs.length σ H → D.nx σ H) :
    ∃ W : Nat → Nat → L2.St → Hp → Prop, (∃ m, W 0 m σ H) ∧ ∀ i m σ H, W i m σ H →
      ((Iti d o kvs).stop i H ∧ D.nx σ H) ∨ ((Iti d o kvs).go i H ∧ ∃ N : L2.St → Hp → Prop, (∀ σ' H', N σ' H' → ∃ m', m' < m ∧ W (i + 1) m' σ' H') ∧ ∀ x H', (Iti d o kvs).yld i H x H' → g x σ H' fun σ2 H2 => tb { D with nx := N, ct := N, bk := D.nx } σ2 H2) := by
  refine ⟨fun i m σ H => m = kvs.length - i ∧ i ≤ kvs.length ∧ Pv i σ H, ⟨kvs.length, by simp, Nat.zero_le _, h0⟩, ?_⟩
  rintro i m σ H ⟨rfl, hi, p⟩
  have q := hl i σ H p
  by_cases hlt : i < kvs.length
  · refine .inr ⟨⟨q, hlt⟩, Pv (i + 1), fun σ' H' p' => ⟨kvs.length - (i + 1), by omega, rfl, hlt, p'⟩, fun x H' y => ?_⟩
    obtain ⟨T, k, v, e, rfl, hT, rfl⟩ := y
    exact hs i k v T σ _ e p hT
  · have e : i = kvs.length := by omega
    subst e
    exact .inl ⟨⟨q, Nat.le_refl _⟩, hd σ H p⟩
theorem net_get {A : Ad} {H : Hp} : ∀ {l : List (Nat × Msg)} {kvs : List (Key × V)} {i : Nat} {k : Key} {v : V}, NetAt C A H l kvs → kvs[i]? = some (k, v) → ∃ n m, l[i]? = some (n, m) ∧ k = Sum.inl (n : Int) ∧ MsgAt C A H v m
  | _, _, _, _, _, .nil, e => by simp at e
  | (n, m) :: _, _, 0, _, _, .cons r _, e => by
    simp at e
    subst e
    exact ⟨n, m, rfl, r.1, r.2⟩
  | _ :: _, _, i + 1, _, _, .cons _ t, e => by
    obtain ⟨n, m, h1, h2⟩ := net_get (i := i) t (by simpa using e)
    exact ⟨n, m, by simpa using h1, h2⟩
def rows (l : List (Nat × Msg)) : List Nat := l.flatMap fun x => x.1 :: Vbdcas.row x.2
theorem rows_succ {l : List (Nat × Msg)} {i n : Nat} {m : Msg} (h : l[i]? = some (n, m)) : rows (l.take (i + 1)) = rows (l.take i) ++ ([n, kindOf m] ++ rowT m) := by
  unfold rows
  rw [List.take_add_one, h, List.flatMap_append]
  simp [row_eq]
theorem rows_take_len {s : State} (hO : Ok s) (i : Nat) : (rows (s.net.take i)).length ≤ 896 := by
  have h1 := rows_len (s.net.take i) fun x hx => hO.msg x (List.mem_of_mem_take hx)
  have h3 := hO.net
  have h4 : (s.net.take i).length ≤ s.net.length := by rw [List.length_take]; omega
  unfold rows
  omega
def sp_M_Net_told (C : Cs) (K : PySem.W.Frag) : Sp := fun vv H Q _ => ∃ (A : Ad) (G : Gh) (s : State), vv = [.ref (A.at_ .net)] ∧ (TabAt C A G s H) ∧ (Ok s) ∧ (Told H Q (rows s.net))
theorem ok_M_Net_told (T : Txt K mg C) : MB P w K mg base C.net "told" 2 p_M_Net_told (sp_M_Net_told C K) := by
  have M_Hello_told := ok_M_Hello_told (P := P) (w := w) (base := base) T
  have M_Request_told := ok_M_Request_told (P := P) (w := w) (base := base) T
  have M_Ack_told := ok_M_Ack_told (P := P) (w := w) (base := base) T
  have M_News_told := ok_M_News_told (P := P) (w := w) (base := base) T
  have sc := sc_M_Net_told
  refine MB.of T.f_M_Net_told T.c_Net sc ba_M_Net_told (fun vv H Q E h => ?_) (fun fn cdv A0 outer s0 H vv Q E hr h => ?_)
  · obtain ⟨_, _, _, rfl, _⟩ := h
    rfl
  · obtain ⟨A, G, s, rfl, hT, hO, k⟩ := h
    refine ⟨_, (pss_cons (ps_set (i := 1) sc.nd rfl (Or.inl rfl) (pe_lst pa_nil))
      (pss_cons (ps_lock (ps_for PassesOwn.never rfl (pi_items (pe_fld (pv 0) rfl)) (pg_tup rfl (pgs_cons (pg_name (i := 2) sc.nd rfl (Or.inl rfl)) (pgs_cons (pg_name (i := 3) sc.nd rfl (Or.inl rfl)) pgs_nil))) (pss_cons (ps_expr (pe_bm PySem.F.plainAttrs_list PySem.F.slot_list_extend PySem.F.type_list_extend mt_extend (pv 1) (pa_cons (pe_lst (pa_cons (pv 2) (pa_cons (pe_fld (pv 3) rfl) pa_nil))) pa_nil)))
      (pss_one (ps_expr (pe_bm PySem.F.plainAttrs_list PySem.F.slot_list_extend PySem.F.type_list_extend mt_extend (pv 1) (pa_cons (pe_alt (pe_m0 M_Hello_told (hr.mono (by decide)) (pv 3)) (pe_alt (pe_m0 M_Request_told (hr.mono (by decide)) (pv 3)) (pe_alt (pe_m0 M_Ack_told (hr.mono (by decide)) (pv 3)) (pe_m0 M_News_told (hr.mono (by decide)) (pv 3))))) pa_nil)))))))
      (pss_one (ps_ret (pv 1))))), ?_⟩
    walk_at "go"
    rename_i g hg
    refine ⟨A.at_ .wait, _, upd_old hg hT.wait, trivial, fun od => ?_⟩
    have hgw : g ≠ A.at_ .wait := fun q => by rw [q, hT.wait] at hg; cases hg
    have nw : A.at_ .net ≠ A.at_ .wait := fun q => by cases hT.inj _ _ q
    have hn1 : upd (upd H g (HO.lst [])) (A.at_ .wait) (.frz od (.dK G.kvs)) (A.at_ .net) = some (.ins C.net (A.dx .net) (netF A s)) := by
      rw [upd_ne nw]
      exact upd_old hg hT.netO
    generalize hD : Ends.mk _ _ _ _ = D0
    refine r_forI ?_
    walk_at "go"
    refine ⟨_, od, G.kvs, rfl, upd_same, for_items (fun i σ H2 => ∃ x y, σ = [some (.ref (A.at_ .net)), some (.ref g), x, y] ∧ (∀ b o, H b = some o → b ≠ A.at_ .wait → H2 b = some o) ∧ H2 (A.at_ .wait) = some (.frz od (.dK G.kvs)) ∧ H2 g = some (.lst (vs (rows (s.net.take i))))) ?_ ?_ ?_ ?_⟩
    · refine ⟨none, none, rfl, fun b o e n => ?_, upd_same, ?_⟩
      · rw [upd_ne n]
        exact upd_old hg e
      · rw [upd_ne hgw, upd_same]
        rfl
    · rintro i σ H2 ⟨x, y, _, _, h, _⟩
      exact h
    · rintro i kk v p σ H2 e ⟨x, y, rfl, fr, hw, hg2⟩ hp
      obtain ⟨n, m, hi, rfl, hm⟩ := net_get hT.net e
      have hok := hO.msg (n, m) (List.mem_of_getElem? hi)
      have hlen := rows_take_len hO (i + 1)
      rw [rows_succ hi] at hlen
      rw [show kV (Sum.inl (n : Int) : Key) = V.int (n : Int) from rfl]
      refine ⟨p, _, rfl, .inl (.inl upd_same), rfl, _, _, rfl, _, _, rfl, rfl, ?_⟩
      have frm : Frm A H H2 := fun b o e n => fr b o e (n .wait)
      have hm2 : MsgAt C A (upd H2 p (.tup [V.int (n : Int), v])) v m := (hm.mono frm).mono (Frm.same (same_new hp))
      have hg3 := upd_old (u := .tup [V.int (n : Int), v]) hp hg2
      have hw3 := upd_old (u := .tup [V.int (n : Int), v]) hp hw
      have fr3 : ∀ b o, H b = some o → b ≠ A.at_ .wait → upd H2 p (.tup [V.int (n : Int), v]) b = some o := fun b o e n => upd_old hp (fr b o e n)
      generalize upd H2 p (.tup [V.int (n : Int), v]) = H3 at *
      walk_at "go"
      refine k_kind T hm2 ?_
      walk_at "go"
      rename_i q hq
      refine ⟨_, _, _, _, rfl, rfl, upd_old hq hg3, upd_same, ?_, ?_⟩
      · simp only [vs, List.length_map, List.length_cons, List.length_nil, List.length_append] at hlen ⊢
        unfold sizeLine
        omega
      have ngq : g ≠ q := ne_of_none hg3 hq
      have ngg : ∀ b o, H b = some o → b ≠ g := fun b o e => ne_of_none e hg
      have hg5 : upd (upd H3 q (HO.lst [V.int (n : Int), nV (kindOf m)])) g (HO.lst (vs (rows (s.net.take i)) ++ [V.int (n : Int), nV (kindOf m)])) g = some (.lst (vs (rows (s.net.take i) ++ [n, kindOf m]))) := by
        rw [upd_same]
        simp [vs]
      have hw5 : upd (upd H3 q (HO.lst [V.int (n : Int), nV (kindOf m)])) g (HO.lst (vs (rows (s.net.take i)) ++ [V.int (n : Int), nV (kindOf m)])) (A.at_ .wait) = some (.frz od (.dK G.kvs)) := by
        rw [upd_ne hgw.symm]
        exact upd_old hq hw3
      have fr5 : ∀ b o, H b = some o → b ≠ A.at_ .wait → upd (upd H3 q (HO.lst [V.int (n : Int), nV (kindOf m)])) g (HO.lst (vs (rows (s.net.take i)) ++ [V.int (n : Int), nV (kindOf m)])) b = some o := fun b o e n => by
        rw [upd_ne (ngg b o e)]
        exact upd_old hq (fr3 b o e n)
      have hm5 : MsgAt C A (upd (upd H3 q (HO.lst [V.int (n : Int), nV (kindOf m)])) g (HO.lst (vs (rows (s.net.take i)) ++ [V.int (n : Int), nV (kindOf m)]))) v m := hm.mono fun b o e n => fr5 b o e (n .wait)
      generalize upd (upd H3 q (HO.lst [V.int (n : Int), nV (kindOf m)])) g (HO.lst (vs (rows (s.net.take i)) ++ [V.int (n : Int), nV (kindOf m)])) = H5 at *
      walk_at "go"
      refine told_any rfl hm5 hok fun H6 l s6 hl hl6 => ?_
      walk_at "go"
      refine ⟨_, _, _, _, rfl, rfl, s6 _ _ hg5, hl6, ?_, ?_⟩
      · simp only [vs, List.length_map, List.length_cons, List.length_nil, List.length_append] at hlen ⊢
        unfold sizeLine
        omega
      walk_at "go"
      refine ⟨_, _, rfl, fun b o e n => ?_, ?_, ?_⟩
      · rw [upd_ne (ngg b o e)]
        exact s6 _ _ (fr5 b o e n)
      · rw [upd_ne hgw.symm]
        exact s6 _ _ hw5
      · rw [upd_same, rows_succ hi]
        simp [vs]
    · rintro σ H2 ⟨x, y, rfl, fr, hw, hg2⟩
      subst hD
      refine ⟨hw, ?_⟩
      walk_at "go"
      refine k _ g (fun b o e => ?_) hg ?_
      · by_cases hb : b = A.at_ .wait
        · subst hb
          rw [hT.wait] at e
          cases e
          rw [upd_same]
        · rw [upd_ne hb]
          exact fr b o e hb
      · rw [upd_ne hgw, hg2, ← hT.net.len, List.take_length]

def sp_M_House_side_to_move (C : Cs) (K : PySem.W.Frag) : Sp := fun vv H Q _ => ∃ (A : Ad) (G : Gh) (s : State), vv = [.ref (A.at_ .house)] ∧ (TabAt C A G s H) ∧ (Q (nV (Vbdcas.turnOf s.log)) H)
theorem ok_M_House_side_to_move (T : Txt K mg C) : MB P w K mg base C.house "side_to_move" 1 p_M_House_side_to_move (sp_M_House_side_to_move C K) := by
  have sc := sc_M_House_side_to_move
  refine MB.of T.f_M_House_side_to_move T.c_House sc ba_M_House_side_to_move (fun vv H Q E h => ?_) (fun fn cdv A0 outer s0 H vv Q E hr h => ?_)
  · obtain ⟨_, _, _, rfl, _⟩ := h
    rfl
  · obtain ⟨A, G, s, rfl, hT, k⟩ := h
    refine ⟨_, (pss_one (ps_ret (pe_op op_mod (pe_callB call_len_seq (by rfl) T.b_len PySem.boot_len (pa_cons (pe_fld (pv 0) rfl) pa_nil)) pe_int))), ?_⟩
    walk_at "go"
    have e1 : ((vs s.log).length : Int) % 2 = ((Vbdcas.turnOf s.log : Nat) : Int) := by
      unfold Vbdcas.turnOf
      rw [List.length_map]
      omega
    rw [e1]
    exact k
def sp_M_House_has_had (C : Cs) (K : PySem.W.Frag) : Sp := fun vv H Q _ => ∃ (A : Ad) (G : Gh) (s : State), vv = [.ref (A.at_ .house), nV s.now] ∧ (TabAt C A G s H) ∧ (Ok s) ∧ (Q (nV (Vbdcas.elapsed s)) H)
theorem ok_M_House_has_had (T : Txt K mg C) : MB P w K mg base C.house "has_had" 1 p_M_House_has_had (sp_M_House_has_had C K) := by
  have sc := sc_M_House_has_had
  refine MB.of T.f_M_House_has_had T.c_House sc ba_M_House_has_had (fun vv H Q E h => ?_) (fun fn cdv A0 outer s0 H vv Q E hr h => ?_)
  · obtain ⟨_, _, _, rfl, _⟩ := h
    rfl
  · obtain ⟨A, G, s, rfl, hT, hO, k⟩ := h
    refine ⟨_, (pss_cons (ps_if (pt_val (pe_fld (pv 0) rfl)) (pss_one (ps_ret (pe_op op_sub (pv 1) (pe_fld (pv 0) rfl)))) pss_nil)
      (pss_one (ps_ret pe_int))), ?_⟩
    walk_at "go"
    unfold Vbdcas.elapsed at k
    refine ite2 (fun hf => ?_) (fun hf => ?_)
    · rw [if_pos hf] at k
      walk_at "go"
      have := hO.since
      rw [show ((s.now : Int) - (s.since : Int)) = ((s.now - s.since : Nat) : Int) by omega]
      exact k
    · rw [if_neg hf] at k
      walk_at "go"
      exact k
def sp_M_House_lose_on_time (C : Cs) (K : PySem.W.Frag) : Sp := fun vv H Q _ => ∃ (A : Ad) (G : Gh) (s : State) (p : Nat), vv = [.ref (A.at_ .house), nV p] ∧ (TabAt C A G s H) ∧ (p < 2) ∧ (∀ H', TabAt C A G { Vbdcas.setSeat s p { Vbdcas.seat s p with bank := 0, spent := (Vbdcas.seat s p).spent + (Vbdcas.seat s p).bank } with over := 1 + Vbdcas.other p, running := false } H' → Frm A H H' → Q .non H')
theorem ok_M_House_lose_on_time (T : Txt K mg C) : MB P w K mg base C.house "lose_on_time" 2 p_M_House_lose_on_time (sp_M_House_lose_on_time C K) := by
  have M_Seat_pay := ok_M_Seat_pay (P := P) (w := w) (base := base) T
  have sc := sc_M_House_lose_on_time
  refine MB.of T.f_M_House_lose_on_time T.c_House sc ba_M_House_lose_on_time (fun vv H Q E h => ?_) (fun fn cdv A0 outer s0 H vv Q E hr h => ?_)
  · obtain ⟨_, _, _, _, rfl, _⟩ := h
    rfl
  · obtain ⟨A, G, s, p, rfl, hT, hp, k⟩ := h
    refine ⟨_, (pss_cons (ps_set (i := 2) sc.nd rfl (Or.inl rfl) (pe_ix ix_list (pe_fld (pv 0) rfl) (pv 1) (fun _ _ => rfl)))
      (pss_cons (ps_expr (pe_m M_Seat_pay (hr.mono (by decide)) (pv 2) (pa_cons (pe_fld (pv 2) rfl) pa_nil)))
      (pss_cons (ps_fld (pv 0) (pe_op op_sub pe_int (pv 1)) rfl)
      (pss_one (ps_fld (pv 0) pe_bl rfl))))), ?_⟩
    walk_at "go"
    rw [sea_zb]
    refine ⟨A, G, s, p, (Vbdcas.seat s p).bank, rfl, hT, Nat.le_refl _, fun H1 h1 f1 => ?_⟩
    rw [Nat.sub_self] at h1
    walk_at "go"
    dsimp only
    rw [upd_upd, show (2 - (p : Int)) = ((1 + Vbdcas.other p : Nat) : Int) by unfold Vbdcas.other; omega]
    exact k _ (h1.setHouse rfl) (f1.trans (Frm.put Frm.refl))
theorem flag_no {s : State} (h : s.running = false ∨ s.over ≠ 0 ∨ Vbdcas.elapsed s < (Vbdcas.seat s (Vbdcas.turnOf s.log)).bank + s.lag) : Vbdcas.flag s = s := by
  unfold Vbdcas.flag
  dsimp only
  rw [if_neg]
  rintro ⟨a, b, c⟩
  unfold Vbdcas.goes at b
  have b' : s.over = 0 := by simpa using b
  rcases h with h | h | h
  · rw [a] at h
    cases h
  · exact h b'
  · omega
def sp_M_House_check_clock (C : Cs) (K : PySem.W.Frag) : Sp := fun vv H Q _ => ∃ (A : Ad) (G : Gh) (s : State), vv = [.ref (A.at_ .house), nV s.now] ∧ (TabAt C A G s H) ∧ (Ok s) ∧ (∀ H', TabAt C A G (Vbdcas.flag s) H' → Frm A H H' → Q .non H')
theorem ok_M_House_check_clock (T : Txt K mg C) : MB P w K mg base C.house "check_clock" 3 p_M_House_check_clock (sp_M_House_check_clock C K) := by
  have M_House_side_to_move := ok_M_House_side_to_move (P := P) (w := w) (base := base) T
  have M_House_has_had := ok_M_House_has_had (P := P) (w := w) (base := base) T
  have M_House_lose_on_time := ok_M_House_lose_on_time (P := P) (w := w) (base := base) T
  have sc := sc_M_House_check_clock
  refine MB.of T.f_M_House_check_clock T.c_House sc ba_M_House_check_clock (fun vv H Q E h => ?_) (fun fn cdv A0 outer s0 H vv Q E hr h => ?_)
  · obtain ⟨_, _, _, rfl, _⟩ := h
    rfl
  · obtain ⟨A, G, s, rfl, hT, hO, k⟩ := h
    refine ⟨_, (pss_cons (ps_if (PW.pt (pw_or (pt_not (pt_val (pe_fld (pv 0) rfl))) (pw_or1 (pt_cmpR op_ne (pe_fld (pv 0) rfl) (pe_gi T.g_GOES_ON rfl) (nomark _))))) (pss_one ps_retN) pss_nil)
      (pss_cons (ps_set (i := 2) sc.nd rfl (Or.inl rfl) (pe_m0 M_House_side_to_move (hr.mono (by decide)) (pv 0)))
      (pss_one (ps_if (pt_cmpR op_ge (pe_m M_House_has_had (hr.mono (by decide)) (pv 0) (pa_cons (pv 1) pa_nil)) (pe_op op_add (pe_fld (pe_ix ix_list (pe_fld (pv 0) rfl) (pv 2) (fun _ _ => rfl)) rfl) (pe_fld (pv 0) rfl)) (nomark _)) (pss_one (ps_expr (pe_m M_House_lose_on_time (hr.mono (by decide)) (pv 0) (pa_cons (pv 2) pa_nil)))) pss_nil)))), ?_⟩
    walk_at "go"
    refine ite2 (fun h1 => ?_) (fun h1 => ?_)
    · walk_at "go"
      rw [flag_no (.inl (by simpa using h1))] at k
      exact k _ hT Frm.refl
    · walk_at "go"
      refine ite2 (fun h2 => ?_) (fun h2 => ?_)
      · walk_at "go"
        rw [flag_no (.inr (.inl (by simp at h2; omega)))] at k
        exact k _ hT Frm.refl
      · walk_at "go"
        have hp := turn_lt s.log
        refine ⟨A, G, s, rfl, hT, ?_⟩
        walk_at "go"
        refine ⟨A, G, s, rfl, hT, hO, ?_⟩
        walk_at "go"
        rw [sea_zb]
        refine ite2 (fun h3 => ?_) (fun h3 => ?_)
        · have h3' := of_decide_eq_true h3
          walk_at "go"
          refine ⟨A, G, s, Vbdcas.turnOf s.log, rfl, hT, hp, fun H1 t1 f1 => k _ ?_ f1⟩
          unfold Vbdcas.flag
          dsimp only
          rw [if_pos ⟨by simpa using h1, by unfold Vbdcas.goes; simp at h2 ⊢; omega, by omega⟩]
          exact t1
        · walk_at "go"
          have h3' : ¬ _ := fun z => h3 (decide_eq_true z)
          rw [flag_no (.inr (.inr (by omega)))] at k
          exact k _ hT Frm.refl
def sp_M_House_tell (C : Cs) (K : PySem.W.Frag) : Sp := fun vv H Q _ => ∃ (A : Ad) (G : Gh) (s : State) (p : Nat), vv = [.ref (A.at_ .house), nV p, .ref (A.at_ .net)] ∧ (TabAt C A G s H) ∧ (Ok s) ∧ (p < 2) ∧ (∀ G' H', TabAt C A G' (Vbdcas.tell s p) H' → Frm A H H' → Q .non H')
theorem ok_M_House_tell (T : Txt K mg C) : MB P w K mg base C.house "tell" 3 p_M_House_tell (sp_M_House_tell C K) := by
  have M_Net_send := ok_M_Net_send (P := P) (w := w) (base := base) T
  have K_News := ok_K_News (P := P) (w := w) (base := base) T
  have sc := sc_M_House_tell
  refine MB.of T.f_M_House_tell T.c_House sc ba_M_House_tell (fun vv H Q E h => ?_) (fun fn cdv A0 outer s0 H vv Q E hr h => ?_)
  · obtain ⟨_, _, _, _, rfl, _⟩ := h
    rfl
  · obtain ⟨A, G, s, p, rfl, hT, hO, hp, k⟩ := h
    refine ⟨_, (pss_cons (ps_set (i := 3) sc.nd rfl (Or.inl rfl) (pe_ix ix_list (pe_fld (pv 0) rfl) (pv 1) (fun _ _ => rfl)))
      (pss_cons (ps_if (pt_not (pt_val (pe_fld (pv 3) rfl))) (pss_one ps_retN) pss_nil)
      (pss_cons (ps_set (i := 4) sc.nd rfl (Or.inl rfl) (pe_fld (pv 3) rfl))
      (pss_cons (ps_set (i := 5) sc.nd rfl (Or.inl rfl) (pe_slice sl_list (pe_fld (pv 0) rfl) (po_some (pv 4)) (po_some (pe_op op_add (pv 4) (pe_gi T.g_MOVES_IN_NEWS rfl)))))
      (pss_cons (ps_set (i := 6) sc.nd rfl (Or.inl rfl) (pe_tup (pa_cons (pe_fld (pe_ix ix_list (pe_fld (pv 0) rfl) pe_int (fun _ _ => rfl)) rfl) (pa_cons (pe_fld (pe_ix ix_list (pe_fld (pv 0) rfl) pe_int (fun _ _ => rfl)) rfl) pa_nil))))
      (pss_one (ps_expr (pe_m M_Net_send (hr.mono (by decide)) (pv 2) (pa_cons (pe_k K_News (hr.mono (by decide)) rfl (pa_cons (pv 1) (pa_cons (pe_fld (pv 3) rfl) (pa_cons (pv 4) (pa_cons (pv 5) (pa_cons (pe_fld (pv 3) rfl) (pa_cons (pv 6) (pa_cons (pe_fld (pv 0) rfl) pa_nil)))))))) pa_nil))))))))), ?_⟩
    walk_at "go"
    rw [sea_zb]
    unfold Vbdcas.tell at k
    refine ite2 (fun h1 => ?_) (fun h1 => ?_)
    · rw [if_neg (by intro z; rw [z] at h1; cases h1)] at k
      walk_at "go"
      exact k _ _ hT Frm.refl
    · rw [if_pos (by simpa using h1)] at k
      walk_at "go"
      rename_i l hl t ht a dx na nd ne
      refine ⟨a, dx, p, _, _, l, _, t, _, rfl, upd_same, fun H2 h2 b2 => ⟨rfl, ?_⟩⟩
      have s2 := Same.made na nd b2
      have t1 := hT.new (o := HO.lst (cutV (vs s.log) (some ↑(sea s (zb p)).acked) (some (↑(sea s (zb p)).acked + 4)))) hl
      have t2 := t1.new (o := HO.tup [nV s.s0.bank, nV s.s1.bank]) ht
      have t3 := t2.same s2
      walk_at "go"
      refine ⟨A, G, s, Vbdcas.newsFor s p, .ref a, rfl, t3, hO, ⟨a, dx, l, t, rfl, ⟨t2.free na, ?_⟩, ⟨hT.free hl, ?_⟩, ⟨t1.free ht, s2 _ _ upd_same⟩⟩, fun G' H' t' f' => k _ _ t' ((Frm.same ((same_new hl).trans ((same_new ht).trans s2))).trans f')⟩
      · rw [← sea_zb]
        exact h2
      · rw [← sea_zb]
        have := s2 _ _ (upd_old ht upd_same)
        rw [cut_news] at this
        exact this
def sp_M_House_tell_both (C : Cs) (K : PySem.W.Frag) : Sp := fun vv H Q _ => ∃ (A : Ad) (G : Gh) (s : State), vv = [.ref (A.at_ .house), .ref (A.at_ .net)] ∧ (TabAt C A G s H) ∧ (Ok s) ∧ (∀ G' H', TabAt C A G' (Vbdcas.nudge s) H' → Frm A H H' → Q .non H')
theorem ok_M_House_tell_both (T : Txt K mg C) : MB P w K mg base C.house "tell_both" 4 p_M_House_tell_both (sp_M_House_tell_both C K) := by
  have M_House_tell := ok_M_House_tell (P := P) (w := w) (base := base) T
  have sc := sc_M_House_tell_both
  refine MB.of T.f_M_House_tell_both T.c_House sc ba_M_House_tell_both (fun vv H Q E h => ?_) (fun fn cdv A0 outer s0 H vv Q E hr h => ?_)
  · obtain ⟨_, _, _, rfl, _⟩ := h
    rfl
  · obtain ⟨A, G, s, rfl, hT, hO, k⟩ := h
    refine ⟨_, (pss_cons (ps_expr (pe_m M_House_tell (hr.mono (by decide)) (pv 0) (pa_cons pe_int (pa_cons (pv 1) pa_nil))))
      (pss_one (ps_expr (pe_m M_House_tell (hr.mono (by decide)) (pv 0) (pa_cons pe_int (pa_cons (pv 1) pa_nil)))))), ?_⟩
    walk_at "go"
    refine ⟨A, G, s, 0, rfl, hT, hO, by decide, fun G1 H1 t1 f1 => ?_⟩
    walk_at "go"
    refine ⟨A, G1, _, 1, rfl, t1, hO.tell (by decide), by decide, fun G2 H2 t2 f2 => ?_⟩
    exact k _ _ t2 (f1.trans f2)
def sp_M_House_hear (C : Cs) (K : PySem.W.Frag) : Sp := fun vv H Q _ => ∃ (A : Ad) (G : Gh) (s : State) (p : Nat), vv = [.ref (A.at_ .house), nV p, nV s.now] ∧ (TabAt C A G s H) ∧ (p < 2) ∧ (∀ H', TabAt C A G (Vbdcas.heard s p) H' → Frm A H H' → Q .non H')
theorem ok_M_House_hear (T : Txt K mg C) : MB P w K mg base C.house "hear" 1 p_M_House_hear (sp_M_House_hear C K) := by
  have sc := sc_M_House_hear
  refine MB.of T.f_M_House_hear T.c_House sc ba_M_House_hear (fun vv H Q E h => ?_) (fun fn cdv A0 outer s0 H vv Q E hr h => ?_)
  · obtain ⟨_, _, _, _, rfl, _⟩ := h
    rfl
  · obtain ⟨A, G, s, p, rfl, hT, hp, k⟩ := h
    refine ⟨_, (pss_cons (ps_set (i := 3) sc.nd rfl (Or.inl rfl) (pe_ix ix_list (pe_fld (pv 0) rfl) (pv 1) (fun _ _ => rfl)))
      (pss_cons (ps_fld (pv 3) pe_bl rfl)
      (pss_cons (ps_if (PW.pt (pw_or (pt_val (pe_fld (pv 0) rfl)) (pw_or1 (pt_cmpR op_ne (pe_fld (pv 0) rfl) (pe_gi T.g_GOES_ON rfl) (nomark _))))) (pss_one ps_retN) pss_nil)
      (pss_one (ps_if (PW.pt (pw_and (pt_val (pe_fld (pe_ix ix_list (pe_fld (pv 0) rfl) pe_int (fun _ _ => rfl)) rfl)) (pw_and1 (pt_val (pe_fld (pe_ix ix_list (pe_fld (pv 0) rfl) pe_int (fun _ _ => rfl)) rfl))))) (pss_cons (ps_fld (pv 0) pe_bl rfl)
      (pss_one (ps_fld (pv 0) (pv 2) rfl))) pss_nil))))), ?_⟩
    walk_at "go"
    have t1 := hT.setSeat p (x := { Vbdcas.seat s p with here := true }) (fs := putF "here" (V.bl true) (seatF (sea s (zb p)))) (by rw [sea_zb]; rfl)
    have eT : Vbdcas.heard s p = Vbdcas.open_ (Vbdcas.setSeat s p { Vbdcas.seat s p with here := true }) := rfl
    have en : (Vbdcas.setSeat s p { Vbdcas.seat s p with here := true }).now = s.now := by unfold Vbdcas.setSeat; split <;> rfl
    rw [eT] at k
    revert t1 k en
    generalize Vbdcas.setSeat s p { Vbdcas.seat s p with here := true } = t
    intro k t1 en
    have f1 : Frm A H (upd H (A.at_ (Cell.seat (zb p))) (HO.ins C.seat (A.dx (Cell.seat (zb p))) (putF "here" (V.bl true) (seatF (sea s (zb p)))))) := Frm.put Frm.refl
    revert t1 f1
    generalize upd H (A.at_ (Cell.seat (zb p))) (HO.ins C.seat (A.dx (Cell.seat (zb p))) (putF "here" (V.bl true) (seatF (sea s (zb p))))) = H1
    intro t1 f1
    unfold Vbdcas.open_ at k
    walk_at "go"
    refine ite2 (fun h1 => ?_) (fun h1 => ?_)
    · walk_at "go"
      rw [if_neg (by rintro ⟨a, _⟩; rw [a] at h1; cases h1)] at k
      exact k _ t1 f1
    · walk_at "go"
      refine ite2 (fun h2 => ?_) (fun h2 => ?_)
      · walk_at "go"
        rw [if_neg (by rintro ⟨_, a, _⟩; unfold Vbdcas.goes at a; simp at a h2; omega)] at k
        exact k _ t1 f1
      · walk_at "go"
        have e1 : sea t true = t.s0 := rfl
        have e2 : sea t false = t.s1 := rfl
        rw [e1]
        refine ite2 (fun h3 => ?_) (fun h3 => ?_)
        · walk_at "go"
          rw [e2]
          refine ite2 (fun h4 => ?_) (fun h4 => ?_)
          · walk_at "go"
            dsimp only
            rw [upd_upd]
            rw [if_pos ⟨by simpa using h1, by unfold Vbdcas.goes; simp at h2 ⊢; omega, h3, h4⟩] at k
            rw [← en]
            exact k _ (t1.setHouse (ov := t.over) (si := t.now) (ru := true) rfl) (f1.trans (Frm.put Frm.refl))
          · walk_at "go"
            rw [if_neg (by rintro ⟨_, _, _, a⟩; exact h4 a)] at k
            exact k _ t1 f1
        · walk_at "go"
          rw [if_neg (by rintro ⟨_, _, a, _⟩; exact h3 a)] at k
          exact k _ t1 f1

/-- nothing comes of a move -/
def Bad (s : State) (p ply mv : Nat) : Prop := Vbdcas.goes s = false ∨ s.running = false ∨ Vbdcas.turnOf s.log ≠ p ∨ ply ≠ s.log.length ∨ s.log.getLast? = some mv
def sp_M_House_allows (C : Cs) (K : PySem.W.Frag) : Sp := fun vv H Q _ => ∃ (A : Ad) (G : Gh) (s : State) (a : Addr) (dx : Addr) (p : Nat) (e : Nat) (id : Nat) (ply : Nat) (mv : Nat) (th : Nat), vv = [.ref (A.at_ .house), .ref a] ∧ (TabAt C A G s H) ∧ (H a = some (.ins C.req dx (reqF p e id ply mv th))) ∧ ((Bad s p ply mv → ∀ H', TabAt C A G s H' → Same H H' → Q (.bl false) H') ∧ (¬ Bad s p ply mv → ∀ H', TabAt C A G s H' → Same H H' → Q (.bl true) H'))
theorem ok_M_House_allows (T : Txt K mg C) : MB P w K mg base C.house "allows" 2 p_M_House_allows (sp_M_House_allows C K) := by
  have M_House_side_to_move := ok_M_House_side_to_move (P := P) (w := w) (base := base) T
  have sc := sc_M_House_allows
  refine MB.of T.f_M_House_allows T.c_House sc ba_M_House_allows (fun vv H Q E h => ?_) (fun fn cdv A0 outer s0 H vv Q E hr h => ?_)
  · obtain ⟨_, _, _, _, _, _, _, _, _, _, _, rfl, _⟩ := h
    rfl
  · obtain ⟨A, G, s, a, dx, p, e, id, ply, mv, th, rfl, hT, hq, k⟩ := h
    refine ⟨_, (pss_cons (ps_if (PW.pt (pw_or (pt_cmpR op_ne (pe_fld (pv 0) rfl) (pe_gi T.g_GOES_ON rfl) (nomark _)) (pw_or1 (pt_not (pt_val (pe_fld (pv 0) rfl)))))) (pss_one (ps_ret pe_bl)) pss_nil)
      (pss_cons (ps_if (PW.pt (pw_or (pt_cmpR op_ne (pe_fld (pv 1) rfl) (pe_m0 M_House_side_to_move (hr.mono (by decide)) (pv 0)) (nomark _)) (pw_or1 (pt_cmpR op_ne (pe_fld (pv 1) rfl) (pe_callB call_len_seq (by rfl) T.b_len PySem.boot_len (pa_cons (pe_fld (pv 0) rfl) pa_nil)) (nomark _))))) (pss_one (ps_ret pe_bl)) pss_nil)
      (pss_one (ps_ret (pe_cmpR (op_neD hr.units) (pe_slice sl_list (pe_fld (pv 0) rfl) (po_some (pe_un un_neg pe_int)) po_none) (pe_lst (pa_cons (pe_fld (pv 1) rfl) pa_nil)) (nomark _)))))), ?_⟩
    walk_at "go"
    refine ite2 (fun h1 => ?_) (fun h1 => ?_)
    · walk_at "go"
      exact k.1 (.inl (by unfold Vbdcas.goes; simp at h1 ⊢; omega)) _ hT (Same.refl _)
    · walk_at "go"
      refine ite2 (fun h2 => ?_) (fun h2 => ?_)
      · walk_at "go"
        exact k.1 (.inr (.inl (by simpa using h2))) _ hT (Same.refl _)
      · walk_at "go"
        refine ⟨A, G, s, rfl, hT, ?_⟩
        walk_at "go"
        refine ite2 (fun h3 => ?_) (fun h3 => ?_)
        · walk_at "go"
          exact k.1 (.inr (.inr (.inl (by simp at h3; omega)))) _ hT (Same.refl _)
        · walk_at "go"
          refine ite2 (fun h4 => ?_) (fun h4 => ?_)
          · walk_at "go"
            exact k.1 (.inr (.inr (.inr (.inl (by simp at h4; omega))))) _ hT (Same.refl _)
          · walk_at "go"
            rename_i l hl b hb
            rw [cut_last] at hb ⊢
            have t1 := hT.new (o := HO.lst (vs s.log.getLast?.toList)) hl
            have t2 := t1.new (o := HO.lst [nV mv]) hb
            refine k_neL (o := s.log.getLast?) (m := mv) (upd_old hb upd_same) upd_same ?_
            dsimp only
            have ss : Same H _ := (same_new (o := HO.lst (vs s.log.getLast?.toList)) hl).trans (same_new (o := HO.lst [nV mv]) hb)
            by_cases hx : s.log.getLast? = some mv
            · rw [decide_eq_true hx]
              exact k.1 (.inr (.inr (.inr (.inr hx)))) _ t2 ss
            · rw [decide_eq_false hx]
              refine k.2 ?_ _ t2 ss
              rintro (z | z | z | z | z)
              · unfold Vbdcas.goes at z; simp at h1 z; omega
              · rw [z] at h2; exact h2 rfl
              · simp at h3; omega
              · simp at h4; omega
              · exact hx z
def sp_M_House_cost_of (C : Cs) (K : PySem.W.Frag) : Sp := fun vv H Q _ => ∃ (A : Ad) (G : Gh) (s : State) (th : Nat), vv = [.ref (A.at_ .house), nV th, nV s.now] ∧ (TabAt C A G s H) ∧ (Ok s) ∧ (Q (nV (max (min th (Vbdcas.elapsed s)) (Vbdcas.elapsed s - s.lag))) H)
theorem ok_M_House_cost_of (T : Txt K mg C) : MB P w K mg base C.house "cost_of" 2 p_M_House_cost_of (sp_M_House_cost_of C K) := by
  have M_House_has_had := ok_M_House_has_had (P := P) (w := w) (base := base) T
  have sc := sc_M_House_cost_of
  refine MB.of T.f_M_House_cost_of T.c_House sc ba_M_House_cost_of (fun vv H Q E h => ?_) (fun fn cdv A0 outer s0 H vv Q E hr h => ?_)
  · obtain ⟨_, _, _, _, rfl, _⟩ := h
    rfl
  · obtain ⟨A, G, s, th, rfl, hT, hO, k⟩ := h
    refine ⟨_, (pss_cons (ps_set (i := 3) sc.nd rfl (Or.inl rfl) (pe_m M_House_has_had (hr.mono (by decide)) (pv 0) (pa_cons (pv 2) pa_nil)))
      (pss_one (ps_ret (pe_callB (call_max3 rfl) (by rfl) T.b_max (by rfl) (pa_cons (pe_callB (call_min2 rfl) (by rfl) T.b_min (by rfl) (pa_cons (pv 1) (pa_cons (pv 3) pa_nil))) (pa_cons (pe_op op_sub (pv 3) (pe_fld (pv 0) rfl)) (pa_cons pe_int pa_nil))))))), ?_⟩
    walk_at "go"
    refine ⟨A, G, s, rfl, hT, hO, ?_⟩
    walk_at "go"
    have e1 : max (max (if ((Vbdcas.elapsed s : Nat) : Int) < (th : Int) then ((Vbdcas.elapsed s : Nat) : Int) else (th : Int)) (((Vbdcas.elapsed s : Nat) : Int) - (s.lag : Int))) 0 = ((max (min th (Vbdcas.elapsed s)) (Vbdcas.elapsed s - s.lag) : Nat) : Int) := by
      split <;> omega
    rw [e1]
    exact k
theorem setSeat_setSeat (s : State) (p : Nat) (x y : Seat) : Vbdcas.setSeat (Vbdcas.setSeat s p x) p y = Vbdcas.setSeat s p y := by
  unfold Vbdcas.setSeat
  by_cases h : p = 0 <;> simp [h]
theorem setSeat_log (s : State) (p : Nat) (x : Seat) (l : List Nat) : { Vbdcas.setSeat s p x with log := l } = Vbdcas.setSeat { s with log := l } p x := by
  unfold Vbdcas.setSeat
  by_cases h : p = 0 <;> simp [h]
theorem fld_setSeat (s : State) (p : Nat) (x : Seat) : (Vbdcas.setSeat s p x).log = s.log ∧ (Vbdcas.setSeat s p x).inc = s.inc ∧ (Vbdcas.setSeat s p x).over = s.over ∧ (Vbdcas.setSeat s p x).running = s.running ∧ (Vbdcas.setSeat s p x).now = s.now := by
  unfold Vbdcas.setSeat
  split <;> exact ⟨rfl, rfl, rfl, rfl, rfl⟩
def sp_M_House_look_at (C : Cs) (K : PySem.W.Frag) : Sp := fun vv H Q _ => ∃ (A : Ad) (G : Gh) (s : State) (a : Addr) (dx : Addr) (p : Nat) (e : Nat) (id : Nat) (ply : Nat) (mv : Nat) (th : Nat), vv = [.ref (A.at_ .house), .ref a, nV s.now] ∧ (TabAt C A G s H) ∧ (Ok s) ∧ (p < 2) ∧ (Im A H a (.ins C.req dx (reqF p e id ply mv th))) ∧ (∀ H', TabAt C A G (Vbdcas.take_ s p ply mv th) H' → Frm A H H' → Q .non H')
theorem ok_M_House_look_at (T : Txt K mg C) : MB P w K mg base C.house "look_at" 3 p_M_House_look_at (sp_M_House_look_at C K) := by
  have M_House_allows := ok_M_House_allows (P := P) (w := w) (base := base) T
  have M_House_cost_of := ok_M_House_cost_of (P := P) (w := w) (base := base) T
  have M_House_lose_on_time := ok_M_House_lose_on_time (P := P) (w := w) (base := base) T
  have M_Seat_pay := ok_M_Seat_pay (P := P) (w := w) (base := base) T
  have sc := sc_M_House_look_at
  refine MB.of T.f_M_House_look_at T.c_House sc ba_M_House_look_at (fun vv H Q E h => ?_) (fun fn cdv A0 outer s0 H vv Q E hr h => ?_)
  · obtain ⟨_, _, _, _, _, _, _, _, _, _, _, rfl, _⟩ := h
    rfl
  · obtain ⟨A, G, s, a, dx, p, e, id, ply, mv, th, rfl, hT, hO, hp, hq, k⟩ := h
    refine ⟨_, (pss_cons (ps_if (pt_not (pt_val (pe_m M_House_allows (hr.mono (by decide)) (pv 0) (pa_cons (pv 1) pa_nil)))) (pss_one ps_retN) pss_nil)
      (pss_cons (ps_set (i := 3) sc.nd rfl (Or.inl rfl) (pe_ix ix_list (pe_fld (pv 0) rfl) (pe_fld (pv 1) rfl) (fun _ _ => rfl)))
      (pss_cons (ps_set (i := 4) sc.nd rfl (Or.inl rfl) (pe_m M_House_cost_of (hr.mono (by decide)) (pv 0) (pa_cons (pe_fld (pv 1) rfl) (pa_cons (pv 2) pa_nil))))
      (pss_cons (ps_if (pt_cmpR op_le (pe_fld (pv 3) rfl) (pv 4) (nomark _)) (pss_cons (ps_expr (pe_m M_House_lose_on_time (hr.mono (by decide)) (pv 0) (pa_cons (pe_fld (pv 1) rfl) pa_nil)))
      (pss_one ps_retN)) pss_nil)
      (pss_cons (ps_expr (pe_m M_Seat_pay (hr.mono (by decide)) (pv 3) (pa_cons (pv 4) pa_nil)))
      (pss_cons (ps_fldaug (pv 3) (pe_fld (pv 0) rfl) in_add)
      (pss_cons (ps_expr (pe_bm PySem.F.plainAttrs_list PySem.F.slot_list_append PySem.F.type_list_append mt_append (pe_fld (pv 0) rfl) (pa_cons (pe_fld (pv 1) rfl) pa_nil)))
      (pss_cons (ps_fld (pv 0) (pv 2) rfl)
      (pss_one (ps_if (pt_cmpR op_eq (pe_callB call_len_seq (by rfl) T.b_len PySem.boot_len (pa_cons (pe_fld (pv 0) rfl) pa_nil)) (pe_gi T.g_FULL_LOG rfl) (nomark _)) (pss_cons (ps_fld (pv 0) (pe_gi T.g_EVEN rfl) rfl)
      (pss_one (ps_fld (pv 0) pe_bl rfl))) pss_nil)))))))))), ?_⟩
    have hq0 := hq.2
    walk_at "go"
    unfold Vbdcas.take_ at k
    refine ⟨A, G, s, a, dx, p, e, id, ply, mv, th, rfl, hT, hq0, fun hb H1 t1 ss => ?_, fun hb H1 t1 ss => ?_⟩
    · walk_at "go"
      unfold Bad at hb
      rw [if_pos hb] at k
      exact k _ t1 (Frm.same ss)
    · have hb2 := hb
      unfold Bad at hb2
      rw [if_neg hb2] at k
      dsimp only at k
      have hq1 := (hq.mono (Frm.same ss))
      have hq2 := hq1.2
      have f1 : Frm A H H1 := Frm.same ss
      walk_at "go"
      refine ⟨A, G, s, th, rfl, t1, hO, ?_⟩
      revert k
      generalize max (min th (Vbdcas.elapsed s)) (Vbdcas.elapsed s - s.lag) = cost
      intro k
      walk_at "go"
      rw [sea_zb]
      refine ite2 (fun h1 => ?_) (fun h1 => ?_)
      · have h1' := of_decide_eq_true h1
        rw [if_pos (by omega)] at k
        walk_at "go"
        refine ⟨A, G, s, p, rfl, t1, hp, fun H2 t2 f2 => ?_⟩
        walk_at "go"
        exact k _ t2 (f1.trans f2)
      · have h1' : ¬ _ := fun z => h1 (decide_eq_true z)
        rw [if_neg (by omega)] at k
        walk_at "go"
        refine ⟨A, G, s, p, cost, rfl, t1, by omega, fun H2 t2 f2 => ?_⟩
        have hq3 := (hq1.mono f2)
        have hq4 := hq3.2
        have hl : s.log.length < 60 := by
          refine hO.log0 ?_
          have : ¬ Vbdcas.goes s = false := fun z => hb (.inl z)
          unfold Vbdcas.goes at this
          simpa using this
        have eS := seat_setSeat s p { Vbdcas.seat s p with bank := (Vbdcas.seat s p).bank - cost, spent := (Vbdcas.seat s p).spent + cost }
        have eF := fld_setSeat s p { Vbdcas.seat s p with bank := (Vbdcas.seat s p).bank - cost, spent := (Vbdcas.seat s p).spent + cost }
        have eE := setSeat_setSeat s p { Vbdcas.seat s p with bank := (Vbdcas.seat s p).bank - cost, spent := (Vbdcas.seat s p).spent + cost } { Vbdcas.seat s p with bank := (Vbdcas.seat s p).bank - cost + s.inc, spent := (Vbdcas.seat s p).spent + cost }
        revert t2 eS eF eE
        generalize Vbdcas.setSeat s p { Vbdcas.seat s p with bank := (Vbdcas.seat s p).bank - cost, spent := (Vbdcas.seat s p).spent + cost } = s1
        intro t2 eS eF eE
        walk_at "go"
        have t3 := t2.setSeat p (x := { Vbdcas.seat s p with bank := (Vbdcas.seat s p).bank - cost + s.inc, spent := (Vbdcas.seat s p).spent + cost }) (fs := putF "bank" (V.int (((sea s1 (zb p)).bank : Int) + (s1.inc : Int))) (seatF (sea s1 (zb p)))) (by rw [sea_zb, eS, eF.2.1]; rfl)
        have f3 : Frm A H2 (upd H2 (A.at_ (.seat (zb p))) (.ins C.seat (A.dx (.seat (zb p))) (putF "bank" (V.int (((sea s1 (zb p)).bank : Int) + (s1.inc : Int))) (seatF (sea s1 (zb p)))))) := Frm.put Frm.refl
        rw [eE] at t3
        revert t3 f3
        generalize upd H2 (A.at_ (.seat (zb p))) (.ins C.seat (A.dx (.seat (zb p))) (putF "bank" (V.int (((sea s1 (zb p)).bank : Int) + (s1.inc : Int))) (seatF (sea s1 (zb p))))) = H3
        have eF2 := fld_setSeat s p { Vbdcas.seat s p with bank := (Vbdcas.seat s p).bank - cost + s.inc, spent := (Vbdcas.seat s p).spent + cost }
        revert k eF2
        generalize Vbdcas.setSeat s p { Vbdcas.seat s p with bank := (Vbdcas.seat s p).bank - cost + s.inc, spent := (Vbdcas.seat s p).spent + cost } = s2
        intro k eF2 t3 f3
        have hq5 := (hq3.mono f3).2
        walk_at "go"
        refine ⟨_, _, _, rfl, rfl, t3.log, (by rw [List.length_map, eF2.1]; unfold sizeLine; omega), ?_⟩
        have t4 := t3.setLog (l := s.log ++ [mv]) (xs := vs s2.log ++ [nV mv]) (by rw [eF2.1]; simp [vs])
        walk_at "go"
        have t5 := t4.setHouse (ov := s2.over) (si := s.now) (ru := s2.running) (fs := putF "since" (nV s.now) (houseF A { s2 with log := s.log ++ [mv] })) rfl
        have f5 : Frm A H3 _ := Frm.put (c := .house) (o := .ins C.house (A.dx .house) (putF "since" (nV s.now) (houseF A { s2 with log := s.log ++ [mv] }))) (Frm.put (c := .log) (o := .lst (vs s2.log ++ [nV mv])) (Frm.refl (H := H3)))
        have f6 := ((f1.trans f2).trans f3).trans f5
        revert t5 f6
        generalize upd (upd H3 (A.at_ .log) (.lst (vs s2.log ++ [nV mv]))) (A.at_ .house) (.ins C.house (A.dx .house) (putF "since" (nV s.now) (houseF A { s2 with log := s.log ++ [mv] }))) = H5
        intro t5 f6
        walk_at "go"
        have eL : ((vs (s.log ++ [mv])).length : Int) = (s.log.length : Int) + 1 := by simp
        refine ite2 (fun h2 => ?_) (fun h2 => ?_)
        · have h2' := of_decide_eq_true h2
          have h60 : s.log.length + 1 = 60 := by
            have : ((vs (s.log ++ [mv])).length : Int) = 60 := h2'
            omega
          rw [if_pos (show Vbdcas.LOG ≤ (s.log ++ [mv]).length by simp [Vbdcas.LOG]; omega)] at k
          walk_at "go"
          dsimp only
          rw [upd_upd]
          exact k _ (t5.setHouse (ov := 3) (si := s.now) (ru := false) rfl) (f6.trans (Frm.put Frm.refl))
        · have h60 : ¬ s.log.length + 1 = 60 := fun z => h2 (decide_eq_true (show ((vs (s.log ++ [mv])).length : Int) = 60 by omega))
          rw [if_neg (show ¬ Vbdcas.LOG ≤ (s.log ++ [mv]).length by simp [Vbdcas.LOG]; omega)] at k
          walk_at "go"
          exact k _ t5 f6
def sp_M_House_take_hello (C : Cs) (K : PySem.W.Frag) : Sp := fun vv H Q _ => ∃ (A : Ad) (G : Gh) (s : State) (a : Addr) (dx : Addr) (p : Nat) (e : Nat), vv = [.ref (A.at_ .house), .ref a, nV s.now, .ref (A.at_ .net)] ∧ (TabAt C A G s H) ∧ (Ok s) ∧ (MsgOk s.c0.epoch s.c1.epoch s.log.length (.hello p e)) ∧ (Im A H a (.ins C.hello dx (helloF p e))) ∧ (∀ G' H', TabAt C A G' (Vbdcas.house s (.hello p e)) H' → Frm A H H' → Q .non H')
theorem ok_M_House_take_hello (T : Txt K mg C) : MB P w K mg base C.house "take_hello" 4 p_M_House_take_hello (sp_M_House_take_hello C K) := by
  have M_Seat_begin := ok_M_Seat_begin (P := P) (w := w) (base := base) T
  have M_House_hear := ok_M_House_hear (P := P) (w := w) (base := base) T
  have M_House_tell := ok_M_House_tell (P := P) (w := w) (base := base) T
  have sc := sc_M_House_take_hello
  refine MB.of T.f_M_House_take_hello T.c_House sc ba_M_House_take_hello (fun vv H Q E h => ?_) (fun fn cdv A0 outer s0 H vv Q E hr h => ?_)
  · obtain ⟨_, _, _, _, _, _, _, rfl, _⟩ := h
    rfl
  · obtain ⟨A, G, s, a, dx, p, e, rfl, hT, hO, hm, hq, k⟩ := h
    refine ⟨_, (pss_cons (ps_set (i := 4) sc.nd rfl (Or.inl rfl) (pe_ix ix_list (pe_fld (pv 0) rfl) (pe_fld (pv 1) rfl) (fun _ _ => rfl)))
      (pss_cons (ps_if (pt_cmpR op_lt (pe_fld (pv 1) rfl) (pe_fld (pv 4) rfl) (nomark _)) (pss_one ps_retN) pss_nil)
      (pss_cons (ps_if (pt_cmpR op_gt (pe_fld (pv 1) rfl) (pe_fld (pv 4) rfl) (nomark _)) (pss_one (ps_expr (pe_m M_Seat_begin (hr.mono (by decide)) (pv 4) (pa_cons (pe_fld (pv 1) rfl) pa_nil)))) pss_nil)
      (pss_cons (ps_expr (pe_m M_House_hear (hr.mono (by decide)) (pv 0) (pa_cons (pe_fld (pv 1) rfl) (pa_cons (pv 2) pa_nil))))
      (pss_one (ps_expr (pe_m M_House_tell (hr.mono (by decide)) (pv 0) (pa_cons (pe_fld (pv 1) rfl) (pa_cons (pv 3) pa_nil))))))))), ?_⟩
    have hq0 := hq.2
    have hp : p < 2 := hm.1
    have he : e ≤ (Vbdcas.client s p).epoch := by
      have := hm.2
      unfold Vbdcas.client
      split
      · next q => rw [if_pos q] at this; exact this
      · next q => rw [if_neg q] at this; exact this
    walk_at "go"
    rw [sea_zb]
    unfold Vbdcas.house at k
    dsimp only at k
    refine ite2 (fun h1 => ?_) (fun h1 => ?_)
    · have h1' := of_decide_eq_true h1
      rw [if_pos (by omega)] at k
      walk_at "go"
      exact k _ _ hT Frm.refl
    · have h1' : ¬ _ := fun z => h1 (decide_eq_true z)
      rw [if_neg (by omega)] at k
      walk_at "go"
      rw [sea_zb]
      refine ite2 (fun h2 => ?_) (fun h2 => ?_)
      · have h2' := of_decide_eq_true h2
        rw [if_pos (by omega)] at k
        walk_at "go"
        refine ⟨A, G, s, p, e, rfl, hT, fun H1 t1 f1 => ?_⟩
        have o1 : Ok (Vbdcas.setSeat s p { Vbdcas.seat s p with epoch := e, handled := 0, acked := 0 }) := hO.setSeat ⟨he, Nat.zero_le _⟩
        have en := (fld_setSeat s p { Vbdcas.seat s p with epoch := e, handled := 0, acked := 0 }).2.2.2.2
        have hq1 := (hq.mono f1)
        have hq2 := hq1.2
        walk_at "go"
        refine ⟨A, G, _, p, by rw [en]; rfl, t1, hp, fun H2 t2 f2 => ?_⟩
        have hq3 := (hq1.mono f2).2
        walk_at "go"
        refine ⟨A, G, _, p, rfl, t2, o1.heard p, hp, fun G3 H3 t3 f3 => ?_⟩
        exact k _ _ t3 ((f1.trans f2).trans f3)
      · have h2' : ¬ _ := fun z => h2 (decide_eq_true z)
        rw [if_neg (by omega)] at k
        walk_at "go"
        refine ⟨A, G, _, p, rfl, hT, hp, fun H2 t2 f2 => ?_⟩
        have hq3 := (hq.mono f2).2
        walk_at "go"
        refine ⟨A, G, _, p, rfl, t2, hO.heard p, hp, fun G3 H3 t3 f3 => ?_⟩
        exact k _ _ t3 (f2.trans f3)
theorem heard_now (s : State) (p : Nat) : (Vbdcas.heard s p).now = s.now := by
  unfold Vbdcas.heard Vbdcas.open_
  split
  · exact (fld_setSeat s p _).2.2.2.2
  · exact (fld_setSeat s p _).2.2.2.2
def sp_M_House_take_ack (C : Cs) (K : PySem.W.Frag) : Sp := fun vv H Q _ => ∃ (A : Ad) (G : Gh) (s : State) (a : Addr) (dx : Addr) (p : Nat) (e : Nat) (n : Nat), vv = [.ref (A.at_ .house), .ref a, nV s.now, .ref (A.at_ .net)] ∧ (TabAt C A G s H) ∧ (Ok s) ∧ (p < 2) ∧ (Im A H a (.ins C.ack dx (ackF p e n))) ∧ (∀ G' H', TabAt C A G' (Vbdcas.house s (.ack p e n)) H' → Frm A H H' → Q .non H')
theorem ok_M_House_take_ack (T : Txt K mg C) : MB P w K mg base C.house "take_ack" 4 p_M_House_take_ack (sp_M_House_take_ack C K) := by
  have M_House_hear := ok_M_House_hear (P := P) (w := w) (base := base) T
  have M_House_tell := ok_M_House_tell (P := P) (w := w) (base := base) T
  have sc := sc_M_House_take_ack
  refine MB.of T.f_M_House_take_ack T.c_House sc ba_M_House_take_ack (fun vv H Q E h => ?_) (fun fn cdv A0 outer s0 H vv Q E hr h => ?_)
  · obtain ⟨_, _, _, _, _, _, _, _, rfl, _⟩ := h
    rfl
  · obtain ⟨A, G, s, a, dx, p, e, n, rfl, hT, hO, hp, hq, k⟩ := h
    refine ⟨_, (pss_cons (ps_set (i := 4) sc.nd rfl (Or.inl rfl) (pe_ix ix_list (pe_fld (pv 0) rfl) (pe_fld (pv 1) rfl) (fun _ _ => rfl)))
      (pss_cons (ps_if (pt_cmpR op_ne (pe_fld (pv 1) rfl) (pe_fld (pv 4) rfl) (nomark _)) (pss_one ps_retN) pss_nil)
      (pss_cons (ps_expr (pe_m M_House_hear (hr.mono (by decide)) (pv 0) (pa_cons (pe_fld (pv 1) rfl) (pa_cons (pv 2) pa_nil))))
      (pss_cons (ps_if (PW.pt (pw_or (pt_cmpR op_le (pe_fld (pv 1) rfl) (pe_fld (pv 4) rfl) (nomark _)) (pw_or1 (pt_cmpR op_gt (pe_fld (pv 1) rfl) (pe_callB call_len_seq (by rfl) T.b_len PySem.boot_len (pa_cons (pe_fld (pv 0) rfl) pa_nil)) (nomark _))))) (pss_one ps_retN) pss_nil)
      (pss_cons (ps_fld (pv 4) (pe_fld (pv 1) rfl) rfl)
      (pss_one (ps_if (pt_cmpR op_gt (pe_callB call_len_seq (by rfl) T.b_len PySem.boot_len (pa_cons (pe_fld (pv 0) rfl) pa_nil)) (pe_fld (pv 4) rfl) (nomark _)) (pss_one (ps_expr (pe_m M_House_tell (hr.mono (by decide)) (pv 0) (pa_cons (pe_fld (pv 1) rfl) (pa_cons (pv 3) pa_nil))))) pss_nil))))))), ?_⟩
    have hq0 := hq.2
    walk_at "go"
    rw [sea_zb]
    unfold Vbdcas.house at k
    dsimp only at k
    refine ite2 (fun h1 => ?_) (fun h1 => ?_)
    · rw [if_pos (by simp at h1; omega)] at k
      walk_at "go"
      exact k _ _ hT Frm.refl
    · rw [if_neg (by simp at h1; omega)] at k
      walk_at "go"
      refine ⟨A, G, s, p, rfl, hT, hp, fun H1 t1 f1 => ?_⟩
      have o1 := hO.heard p
      revert t1 o1 k
      generalize Vbdcas.heard s p = t
      intro k t1 o1
      have hq1 := (hq.mono f1)
      have hq2 := hq1.2
      walk_at "go"
      rw [sea_zb]
      have q := seatOk_of o1 p
      have eL : ((vs t.log).length : Int) = (t.log.length : Int) := by simp
      refine ite2 (fun h2 => ?_) (fun h2 => ?_)
      · have h2' := of_decide_eq_true h2
        rw [if_neg (by omega)] at k
        walk_at "go"
        exact k _ _ t1 f1
      · have h2' : ¬ _ := fun z => h2 (decide_eq_true z)
        walk_at "go"
        refine ite2 (fun h3 => ?_) (fun h3 => ?_)
        · have h3' := of_decide_eq_true h3
          rw [if_neg (by omega)] at k
          walk_at "go"
          exact k _ _ t1 f1
        · have h3' : ¬ _ := fun z => h3 (decide_eq_true z)
          rw [if_pos ⟨by omega, by omega⟩] at k
          walk_at "go"
          have t2 := t1.setSeat p (x := { Vbdcas.seat t p with acked := n }) (fs := putF "acked" (nV n) (seatF (sea t (zb p)))) (by rw [sea_zb]; rfl)
          have f2 : Frm A H1 (upd H1 (A.at_ (.seat (zb p))) (.ins C.seat (A.dx (.seat (zb p))) (putF "acked" (nV n) (seatF (sea t (zb p)))))) := Frm.put Frm.refl
          have o2 : Ok (Vbdcas.setSeat t p { Vbdcas.seat t p with acked := n }) := o1.setSeat ⟨q.ep, by show n ≤ t.log.length; omega⟩
          have el := (fld_setSeat t p { Vbdcas.seat t p with acked := n }).1
          have es := seat_setSeat t p { Vbdcas.seat t p with acked := n }
          revert t2 f2 o2 k el es
          generalize upd H1 (A.at_ (.seat (zb p))) (.ins C.seat (A.dx (.seat (zb p))) (putF "acked" (nV n) (seatF (sea t (zb p))))) = H2
          generalize Vbdcas.setSeat t p { Vbdcas.seat t p with acked := n } = t'
          intro k t2 f2 o2 el es
          have hq3 := (hq1.mono f2).2
          walk_at "go"
          rw [sea_zb, es]
          have eL2 : ((vs t'.log).length : Int) = (t.log.length : Int) := by rw [el]; simp
          refine ite2 (fun h4 => ?_) (fun h4 => ?_)
          · have h4' : ((n : Nat) : Int) < ((vs t'.log).length : Int) := of_decide_eq_true h4
            rw [if_pos (by rw [el]; omega)] at k
            walk_at "go"
            refine ⟨A, G, _, p, rfl, t2, o2, hp, fun G3 H3 t3 f3 => ?_⟩
            exact k _ _ t3 ((f1.trans f2).trans f3)
          · have h4' : ¬ ((n : Nat) : Int) < ((vs t'.log).length : Int) := fun z => h4 (decide_eq_true z)
            rw [if_neg (by rw [el]; omega)] at k
            walk_at "go"
            exact k _ _ t2 (f1.trans f2)
theorem take_now (s : State) (p ply mv th : Nat) : (Vbdcas.take_ s p ply mv th).now = s.now := by
  unfold Vbdcas.take_
  dsimp only
  split
  · rfl
  · split
    · exact (fld_setSeat s p _).2.2.2.2
    · split
      · exact (fld_setSeat s p _).2.2.2.2
      · exact (fld_setSeat s p _).2.2.2.2
def sp_M_House_take_request (C : Cs) (K : PySem.W.Frag) : Sp := fun vv H Q _ => ∃ (A : Ad) (G : Gh) (s : State) (a : Addr) (dx : Addr) (p : Nat) (e : Nat) (id : Nat) (ply : Nat) (mv : Nat) (th : Nat), vv = [.ref (A.at_ .house), .ref a, nV s.now, .ref (A.at_ .net)] ∧ (TabAt C A G s H) ∧ (Ok s) ∧ (p < 2) ∧ (Im A H a (.ins C.req dx (reqF p e id ply mv th))) ∧ (∀ G' H', TabAt C A G' (Vbdcas.house s (.req p e id ply mv th)) H' → Frm A H H' → Q .non H')
theorem ok_M_House_take_request (T : Txt K mg C) : MB P w K mg base C.house "take_request" 4 p_M_House_take_request (sp_M_House_take_request C K) := by
  have M_House_hear := ok_M_House_hear (P := P) (w := w) (base := base) T
  have M_House_tell := ok_M_House_tell (P := P) (w := w) (base := base) T
  have M_House_look_at := ok_M_House_look_at (P := P) (w := w) (base := base) T
  have sc := sc_M_House_take_request
  refine MB.of T.f_M_House_take_request T.c_House sc ba_M_House_take_request (fun vv H Q E h => ?_) (fun fn cdv A0 outer s0 H vv Q E hr h => ?_)
  · obtain ⟨_, _, _, _, _, _, _, _, _, _, _, rfl, _⟩ := h
    rfl
  · obtain ⟨A, G, s, a, dx, p, e, id, ply, mv, th, rfl, hT, hO, hp, hq, k⟩ := h
    refine ⟨_, (pss_cons (ps_set (i := 4) sc.nd rfl (Or.inl rfl) (pe_ix ix_list (pe_fld (pv 0) rfl) (pe_fld (pv 1) rfl) (fun _ _ => rfl)))
      (pss_cons (ps_if (pt_cmpR op_ne (pe_fld (pv 1) rfl) (pe_fld (pv 4) rfl) (nomark _)) (pss_one ps_retN) pss_nil)
      (pss_cons (ps_expr (pe_m M_House_hear (hr.mono (by decide)) (pv 0) (pa_cons (pe_fld (pv 1) rfl) (pa_cons (pv 2) pa_nil))))
      (pss_cons (ps_if (pt_cmpR op_ne (pe_fld (pv 1) rfl) (pe_op op_add (pe_fld (pv 4) rfl) pe_int) (nomark _)) (pss_cons (ps_expr (pe_m M_House_tell (hr.mono (by decide)) (pv 0) (pa_cons (pe_fld (pv 1) rfl) (pa_cons (pv 3) pa_nil))))
      (pss_one ps_retN)) pss_nil)
      (pss_cons (ps_expr (pe_m M_House_look_at (hr.mono (by decide)) (pv 0) (pa_cons (pv 1) (pa_cons (pv 2) pa_nil))))
      (pss_cons (ps_fld (pv 4) (pe_fld (pv 1) rfl) rfl)
      (pss_cons (ps_expr (pe_m M_House_tell (hr.mono (by decide)) (pv 0) (pa_cons (pe_fld (pv 1) rfl) (pa_cons (pv 3) pa_nil))))
      (pss_one (ps_expr (pe_m M_House_tell (hr.mono (by decide)) (pv 0) (pa_cons (pe_op op_sub pe_int (pe_fld (pv 1) rfl)) (pa_cons (pv 3) pa_nil)))))))))))), ?_⟩
    have hq0 := hq.2
    walk_at "go"
    rw [sea_zb]
    unfold Vbdcas.house at k
    dsimp only at k
    refine ite2 (fun h1 => ?_) (fun h1 => ?_)
    · rw [if_pos (by simp at h1; omega)] at k
      walk_at "go"
      exact k _ _ hT Frm.refl
    · rw [if_neg (by simp at h1; omega)] at k
      walk_at "go"
      refine ⟨A, G, s, p, rfl, hT, hp, fun H1 t1 f1 => ?_⟩
      have o1 := hO.heard p
      have en := heard_now s p
      revert t1 o1 k en
      generalize Vbdcas.heard s p = t
      intro k t1 o1 en
      have hq1 := (hq.mono f1)
      have hq2 := hq1.2
      walk_at "go"
      rw [sea_zb]
      refine ite2 (fun h2 => ?_) (fun h2 => ?_)
      · rw [if_neg (by simp at h2; omega)] at k
        walk_at "go"
        refine ⟨A, G, _, p, rfl, t1, o1, hp, fun G3 H3 t3 f3 => ?_⟩
        walk_at "go"
        exact k _ _ t3 (f1.trans f3)
      · rw [if_pos (by simp at h2; omega)] at k
        walk_at "go"
        refine ⟨A, G, t, a, dx, p, e, id, ply, mv, th, by rw [en]; rfl, t1, o1, hp, hq1, fun H2 t2 f2 => ?_⟩
        have o2 := o1.take p ply mv th
        revert t2 o2 k
        generalize Vbdcas.take_ t p ply mv th = u
        intro k t2 o2
        have hq3 := (hq1.mono f2)
        have hq4 := hq3.2
        walk_at "go"
        have t3 := t2.setSeat p (x := { Vbdcas.seat u p with handled := id }) (fs := putF "handled" (nV id) (seatF (sea u (zb p)))) (by rw [sea_zb]; rfl)
        have f3 : Frm A H2 (upd H2 (A.at_ (.seat (zb p))) (.ins C.seat (A.dx (.seat (zb p))) (putF "handled" (nV id) (seatF (sea u (zb p)))))) := Frm.put Frm.refl
        have q := seatOk_of o2 p
        have o3 : Ok (Vbdcas.setSeat u p { Vbdcas.seat u p with handled := id }) := o2.setSeat ⟨q.ep, q.ack⟩
        revert t3 f3 o3 k
        generalize upd H2 (A.at_ (.seat (zb p))) (.ins C.seat (A.dx (.seat (zb p))) (putF "handled" (nV id) (seatF (sea u (zb p))))) = H3
        generalize Vbdcas.setSeat u p { Vbdcas.seat u p with handled := id } = u'
        intro k t3 f3 o3
        have hq5 := (hq3.mono f3)
        have hq6 := hq5.2
        walk_at "go"
        refine ⟨A, G, _, p, rfl, t3, o3, hp, fun G4 H4 t4 f4 => ?_⟩
        have hq7 := (hq5.mono f4).2
        walk_at "go"
        refine ⟨A, G4, _, Vbdcas.other p, by rw [show (1 - (p : Int)) = ((Vbdcas.other p : Nat) : Int) by unfold Vbdcas.other; omega]; rfl, t4, o3.tell hp, other_lt p, fun G5 H5 t5 f5 => ?_⟩
        exact k _ _ t5 ((((f1.trans f2).trans f3).trans f4).trans f5)
def sp_M_House_arrive (C : Cs) (K : PySem.W.Frag) : Sp := fun vv H Q _ => ∃ (A : Ad) (G : Gh) (s : State) (m : Msg) (v : V), vv = [.ref (A.at_ .house), v, nV s.now, .ref (A.at_ .net)] ∧ (TabAt C A G s H) ∧ (Ok s) ∧ (MsgOk s.c0.epoch s.c1.epoch s.log.length m) ∧ (∀ p e f ms hd b0 b1 ov, m ≠ .news p e f ms hd b0 b1 ov) ∧ (MsgAt C A H v m) ∧ (∀ G' H', TabAt C A G' (Vbdcas.house s m) H' → Frm A H H' → Q .non H')
theorem ok_M_House_arrive (T : Txt K mg C) : MB P w K mg base C.house "arrive" 5 p_M_House_arrive (sp_M_House_arrive C K) := by
  have M_House_take_hello := ok_M_House_take_hello (P := P) (w := w) (base := base) T
  have M_House_take_request := ok_M_House_take_request (P := P) (w := w) (base := base) T
  have M_House_take_ack := ok_M_House_take_ack (P := P) (w := w) (base := base) T
  have sc := sc_M_House_arrive
  refine MB.of T.f_M_House_arrive T.c_House sc ba_M_House_arrive (fun vv H Q E h => ?_) (fun fn cdv A0 outer s0 H vv Q E hr h => ?_)
  · obtain ⟨_, _, _, _, _, rfl, _⟩ := h
    rfl
  · obtain ⟨A, G, s, m, v, rfl, hT, hO, hm, hn, hv, k⟩ := h
    refine ⟨_, (pss_one (ps_if (pt_cmpR op_eq (pe_fld (pv 1) rfl) (pe_gi T.g_HELLO rfl) (nomark _)) (pss_one (ps_expr (pe_m M_House_take_hello (hr.mono (by decide)) (pv 0) (pa_cons (pv 1) (pa_cons (pv 2) (pa_cons (pv 3) pa_nil)))))) (pss_one (ps_if (pt_cmpR op_eq (pe_fld (pv 1) rfl) (pe_gi T.g_REQUEST rfl) (nomark _)) (pss_one (ps_expr (pe_m M_House_take_request (hr.mono (by decide)) (pv 0) (pa_cons (pv 1) (pa_cons (pv 2) (pa_cons (pv 3) pa_nil)))))) (pss_one (ps_expr (pe_m M_House_take_ack (hr.mono (by decide)) (pv 0) (pa_cons (pv 1) (pa_cons (pv 2) (pa_cons (pv 3) pa_nil)))))))))), ?_⟩
    cases m with
    | hello p e =>
      obtain ⟨a, dx, rfl, hq⟩ := hv
      have hq0 := hq.2
      walk_at "go"
      refine ite2 (fun h1 => ?_) (fun h1 => absurd rfl h1)
      walk_at "go"
      refine ⟨A, G, s, a, dx, p, e, rfl, hT, hO, hm, hq, k⟩
    | req p e id ply mv th =>
      obtain ⟨a, dx, rfl, hq⟩ := hv
      have hq0 := hq.2
      walk_at "go"
      refine ite2 (fun h1 => absurd h1 (by decide)) (fun h1 => ?_)
      walk_at "go"
      refine ite2 (fun h2 => ?_) (fun h2 => absurd rfl h2)
      walk_at "go"
      refine ⟨A, G, s, a, dx, p, e, id, ply, mv, th, rfl, hT, hO, hm, hq, k⟩
    | ack p e n =>
      obtain ⟨a, dx, rfl, hq⟩ := hv
      have hq0 := hq.2
      walk_at "go"
      refine ite2 (fun h1 => absurd h1 (by decide)) (fun h1 => ?_)
      walk_at "go"
      refine ite2 (fun h2 => absurd h2 (by decide)) (fun h2 => ?_)
      walk_at "go"
      refine ⟨A, G, s, a, dx, p, e, n, rfl, hT, hO, hm, hq, k⟩
    | news p e f ms hd b0 b1 ov => exact absurd rfl (hn p e f ms hd b0 b1 ov)
section
variable {A : Ad} {G : Gh} {s : State} {H : Hp}
theorem setRq_id (G : Gh) (z : Bool) : setRq G z (G.rq z) (G.bt z) = G := by
  cases G with
  | mk kvs rq bt =>
    have e1 : (fun y => if y = z then rq z else rq y) = rq := by
      funext y
      by_cases e : y = z
      · rw [if_pos e, e]
      · rw [if_neg e]
    have e2 : (fun y => if y = z then bt z else bt y) = bt := by
      funext y
      by_cases e : y = z
      · rw [if_pos e, e]
      · rw [if_neg e]
    show Gh.mk kvs (fun y => if y = z then rq z else rq y) (fun y => if y = z then bt z else bt y) = _
    rw [e1, e2]
theorem TabAt.setMachC (h : TabAt C A G s H) (z : Bool) {c : Client} {fs : List (Str × V)} (hf : fs = machF A z c (G.rq z) (G.bt z)) (hk : c.known = (cli s z).known) (ha : c.ask = (cli s z).ask) (he : c.epoch = (cli s z).epoch) (h0 : c.b0 = (cli s z).b0) (h1 : c.b1 = (cli s z).b1) :
    TabAt C A G (setCli s z c) (upd H (A.at_ (.mach z)) (.ins C.mach (A.dx (.mach z)) fs)) := by
  have := h.setMach z (c := c) (rq := G.rq z) (bt := G.bt z) hf hk (by have := h.req z; unfold ReqAt at this ⊢; rw [ha, he]; exact this) (by rw [h0, h1]; exact h.bank z)
  rw [setRq_id] at this
  exact this
theorem set2 (s : State) (z : Bool) (c d : Client) : setCli (setCli s z c) z d = setCli s z d := by cases z <;> rfl
theorem set_self (s : State) (z : Bool) : setCli s z (cli s z) = s := by cases z <;> rfl
theorem cli_zn (s : State) (z : Bool) : Vbdcas.client s (zn z) = cli s z := by cases z <;> rfl
theorem setCli_zn (s : State) (z : Bool) (c : Client) : Vbdcas.setClient s (zn z) c = setCli s z c := by cases z <;> rfl
theorem zb_zn (z : Bool) : zb (zn z) = z := by cases z <;> rfl
theorem zn_lt (z : Bool) : zn z < 2 := by cases z <;> decide
theorem fld_setCli (s : State) (z : Bool) (c : Client) : (setCli s z c).now = s.now ∧ (setCli s z c).net = s.net ∧ (setCli s z c).log = s.log := by cases z <;> exact ⟨rfl, rfl, rfl⟩
theorem Ok.setCli {s : State} (h : Ok s) {z : Bool} {c : Client} (he : (cli s z).epoch ≤ c.epoch) (hc : CliOk s.now s.log.length c) : Ok (setCli s z c) := by
  rw [← setCli_zn]
  exact h.setClient (by rw [cli_zn]; exact he) hc
theorem cliOk_z {s : State} (h : Ok s) (z : Bool) : CliOk s.now s.log.length (cli s z) := by cases z; exact h.c1; exact h.c0
theorem rq_non (h : TabAt C A G s H) (z : Bool) : (G.rq z = .non) ↔ (cli s z).ask = none := by
  have := h.req z
  unfold ReqAt at this
  cases e : (cli s z).ask with
  | none =>
    rw [e] at this
    exact ⟨fun _ => rfl, fun _ => this⟩
  | some a =>
    rw [e] at this
    obtain ⟨ad, dx, e1, _⟩ := this
    constructor
    · intro q
      rw [q] at e1
      cases e1
    · intro q
      cases q
end
def sp_M_Machine_is_to_move (C : Cs) (K : PySem.W.Frag) : Sp := fun vv H Q _ => ∃ (A : Ad) (G : Gh) (s : State) (z : Bool), vv = [.ref (A.at_ (.mach z))] ∧ (TabAt C A G s H) ∧ (Q (.bl (decide (Vbdcas.turnOf (cli s z).known = zn z))) H)
theorem ok_M_Machine_is_to_move (T : Txt K mg C) : MB P w K mg base C.mach "is_to_move" 1 p_M_Machine_is_to_move (sp_M_Machine_is_to_move C K) := by
  have sc := sc_M_Machine_is_to_move
  refine MB.of T.f_M_Machine_is_to_move T.c_Machine sc ba_M_Machine_is_to_move (fun vv H Q E h => ?_) (fun fn cdv A0 outer s0 H vv Q E hr h => ?_)
  · obtain ⟨_, _, _, _, rfl, _⟩ := h
    rfl
  · obtain ⟨A, G, s, z, rfl, hT, k⟩ := h
    refine ⟨_, (pss_one (ps_ret (pe_cmpR op_eq (pe_op op_mod (pe_callB call_len_seq (by rfl) T.b_len PySem.boot_len (pa_cons (pe_fld (pv 0) rfl) pa_nil)) pe_int) (pe_fld (pv 0) rfl) (nomark _)))), ?_⟩
    walk_at "go"
    have e1 : decide (((vs (cli s z).known).length : Int) % 2 = ((zn z : Nat) : Int)) = decide (Vbdcas.turnOf (cli s z).known = zn z) := by
      unfold Vbdcas.turnOf
      rw [List.length_map]
      by_cases h : (cli s z).known.length % 2 = zn z
      · rw [decide_eq_true h, decide_eq_true (by omega)]
      · rw [decide_eq_false h, decide_eq_false (by omega)]
    rw [e1]
    exact k
def Can (c : Client) (z : Bool) : Prop := c.on = true ∧ c.ask = none ∧ c.over = 0 ∧ Vbdcas.turnOf c.known = zn z
def sp_M_Machine_can_press (C : Cs) (K : PySem.W.Frag) : Sp := fun vv H Q _ => ∃ (A : Ad) (G : Gh) (s : State) (z : Bool), vv = [.ref (A.at_ (.mach z))] ∧ (TabAt C A G s H) ∧ ((Can (cli s z) z → Q (.bl true) H) ∧ (¬ Can (cli s z) z → Q (.bl false) H))
theorem ok_M_Machine_can_press (T : Txt K mg C) : MB P w K mg base C.mach "can_press" 2 p_M_Machine_can_press (sp_M_Machine_can_press C K) := by
  have M_Machine_is_to_move := ok_M_Machine_is_to_move (P := P) (w := w) (base := base) T
  have sc := sc_M_Machine_can_press
  refine MB.of T.f_M_Machine_can_press T.c_Machine sc ba_M_Machine_can_press (fun vv H Q E h => ?_) (fun fn cdv A0 outer s0 H vv Q E hr h => ?_)
  · obtain ⟨_, _, _, _, rfl, _⟩ := h
    rfl
  · obtain ⟨A, G, s, z, rfl, hT, k⟩ := h
    refine ⟨_, (pss_one (ps_ret (pe_and (pe_fld (pv 0) rfl) (pe_and (pe_cmpR op_isN (pe_fld (pv 0) rfl) pe_non (nomark _)) (pe_and (pe_cmpR op_eq (pe_fld (pv 0) rfl) pe_int (nomark _)) (pe_one (pe_m0 M_Machine_is_to_move (hr.mono (by decide)) (pv 0)))))))), ?_⟩
    walk_at "go"
    refine ite2 (fun h1 => ?_) (fun h1 => ?_)
    · walk_at "go"
      refine ite2 (fun h2 => ?_) (fun h2 => ?_)
      · have h2' := (rq_non hT z).mp (of_decide_eq_true h2)
        walk_at "go"
        refine ite2 (fun h3 => ?_) (fun h3 => ?_)
        · have h3' := of_decide_eq_true h3
          walk_at "go"
          refine ⟨A, G, s, z, rfl, hT, ?_⟩
          by_cases h4 : Vbdcas.turnOf (cli s z).known = zn z
          · rw [decide_eq_true h4]
            exact k.1 ⟨h1, h2', by omega, h4⟩
          · rw [decide_eq_false h4]
            exact k.2 fun q => h4 q.2.2.2
        · exact k.2 fun q => h3 (decide_eq_true (by have := q.2.2.1; omega))
      · exact k.2 fun q => h2 (decide_eq_true ((rq_non hT z).mpr q.2.1))
    · exact k.2 fun q => h1 q.1
def sp_M_Machine_is_last_move (C : Cs) (K : PySem.W.Frag) : Sp := fun vv H Q _ => ∃ (A : Ad) (G : Gh) (s : State) (z : Bool) (n : Nat), vv = [.ref (A.at_ (.mach z)), nV n] ∧ (TabAt C A G s H) ∧ (∀ H', TabAt C A G s H' → Same H H' → Q (.bl (decide ((cli s z).known.getLast? = some n))) H')
theorem ok_M_Machine_is_last_move (T : Txt K mg C) : MB P w K mg base C.mach "is_last_move" 1 p_M_Machine_is_last_move (sp_M_Machine_is_last_move C K) := by
  have sc := sc_M_Machine_is_last_move
  refine MB.of T.f_M_Machine_is_last_move T.c_Machine sc ba_M_Machine_is_last_move (fun vv H Q E h => ?_) (fun fn cdv A0 outer s0 H vv Q E hr h => ?_)
  · obtain ⟨_, _, _, _, _, rfl, _⟩ := h
    rfl
  · obtain ⟨A, G, s, z, n, rfl, hT, k⟩ := h
    refine ⟨_, (pss_one (ps_ret (pe_cmpR (op_eqD hr.units) (pe_slice sl_list (pe_fld (pv 0) rfl) (po_some (pe_un un_neg pe_int)) po_none) (pe_lst (pa_cons (pv 1) pa_nil)) (nomark _)))), ?_⟩
    walk_at "go"
    rename_i l hl b hb
    rw [cut_last] at hb ⊢
    have t1 := hT.new (o := HO.lst (vs (cli s z).known.getLast?.toList)) hl
    have t2 := t1.new (o := HO.lst [nV n]) hb
    refine k_eqL (o := (cli s z).known.getLast?) (m := n) (upd_old hb upd_same) upd_same ?_
    exact k _ t2 ((same_new hl).trans (same_new hb))
def sp_M_Machine_send_ack (C : Cs) (K : PySem.W.Frag) : Sp := fun vv H Q _ => ∃ (A : Ad) (G : Gh) (s : State) (z : Bool), vv = [.ref (A.at_ (.mach z)), .ref (A.at_ .net)] ∧ (TabAt C A G s H) ∧ (Ok s) ∧ (∀ G' H', TabAt C A G' (Vbdcas.send s (.ack (zn z) (cli s z).epoch (cli s z).known.length)) H' → Frm A H H' → Q .non H')
theorem ok_M_Machine_send_ack (T : Txt K mg C) : MB P w K mg base C.mach "send_ack" 3 p_M_Machine_send_ack (sp_M_Machine_send_ack C K) := by
  have M_Net_send := ok_M_Net_send (P := P) (w := w) (base := base) T
  have K_Ack := ok_K_Ack (P := P) (w := w) (base := base) T
  have sc := sc_M_Machine_send_ack
  refine MB.of T.f_M_Machine_send_ack T.c_Machine sc ba_M_Machine_send_ack (fun vv H Q E h => ?_) (fun fn cdv A0 outer s0 H vv Q E hr h => ?_)
  · obtain ⟨_, _, _, _, rfl, _⟩ := h
    rfl
  · obtain ⟨A, G, s, z, rfl, hT, hO, k⟩ := h
    refine ⟨_, (pss_one (ps_expr (pe_m M_Net_send (hr.mono (by decide)) (pv 1) (pa_cons (pe_k K_Ack (hr.mono (by decide)) rfl (pa_cons (pe_fld (pv 0) rfl) (pa_cons (pe_fld (pv 0) rfl) (pa_cons (pe_callB call_len_seq (by rfl) T.b_len PySem.boot_len (pa_cons (pe_fld (pv 0) rfl) pa_nil)) pa_nil)))) pa_nil)))), ?_⟩
    walk_at "go"
    rename_i a dx na nd ne
    refine ⟨a, dx, zn z, (cli s z).epoch, (cli s z).known.length, by rw [List.length_map], upd_same, fun H2 h2 b2 => ⟨rfl, ?_⟩⟩
    have s2 := Same.made na nd b2
    walk_at "go"
    refine ⟨A, G, s, .ack (zn z) (cli s z).epoch (cli s z).known.length, .ref a, rfl, hT.same s2, hO, ⟨a, dx, rfl, hT.free na, h2⟩, fun G' H' t' f' => k _ _ t' ((Frm.same s2).trans f')⟩
def sp_M_Machine_timer (C : Cs) (K : PySem.W.Frag) : Sp := fun vv H Q _ => ∃ (A : Ad) (G : Gh) (s : State) (z : Bool), vv = [.ref (A.at_ (.mach z)), .ref (A.at_ .net)] ∧ (TabAt C A G s H) ∧ (Ok s) ∧ (∀ G' H', TabAt C A G' (Vbdcas.again s (zn z)) H' → Frm A H H' → Q .non H')
theorem ok_M_Machine_timer (T : Txt K mg C) : MB P w K mg base C.mach "timer" 4 p_M_Machine_timer (sp_M_Machine_timer C K) := by
  have M_Net_send := ok_M_Net_send (P := P) (w := w) (base := base) T
  have K_Hello := ok_K_Hello (P := P) (w := w) (base := base) T
  have M_Machine_send_ack := ok_M_Machine_send_ack (P := P) (w := w) (base := base) T
  have sc := sc_M_Machine_timer
  refine MB.of T.f_M_Machine_timer T.c_Machine sc ba_M_Machine_timer (fun vv H Q E h => ?_) (fun fn cdv A0 outer s0 H vv Q E hr h => ?_)
  · obtain ⟨_, _, _, _, rfl, _⟩ := h
    rfl
  · obtain ⟨A, G, s, z, rfl, hT, hO, k⟩ := h
    refine ⟨_, (pss_one (ps_if (pt_not (pt_val (pe_fld (pv 0) rfl))) (pss_one (ps_expr (pe_m M_Net_send (hr.mono (by decide)) (pv 1) (pa_cons (pe_k K_Hello (hr.mono (by decide)) rfl (pa_cons (pe_fld (pv 0) rfl) (pa_cons (pe_fld (pv 0) rfl) pa_nil))) pa_nil)))) (pss_one (ps_if (pt_cmpR op_notN (pe_fld (pv 0) rfl) pe_non (nomark _)) (pss_one (ps_expr (pe_m M_Net_send (hr.mono (by decide)) (pv 1) (pa_cons (pe_fld (pv 0) rfl) pa_nil)))) (pss_one (ps_expr (pe_m M_Machine_send_ack (hr.mono (by decide)) (pv 0) (pa_cons (pv 1) pa_nil)))))))), ?_⟩
    walk_at "go"
    unfold Vbdcas.again at k
    dsimp only at k
    rw [cli_zn] at k
    refine ite2 (fun h1 => ?_) (fun h1 => ?_)
    · rw [if_pos (by simpa using h1)] at k
      walk_at "go"
      rename_i a dx na nd ne
      refine ⟨a, dx, zn z, (cli s z).epoch, rfl, upd_same, fun H2 h2 b2 => ⟨rfl, ?_⟩⟩
      have s2 := Same.made na nd b2
      walk_at "go"
      refine ⟨A, G, s, .hello (zn z) (cli s z).epoch, .ref a, rfl, hT.same s2, hO, ⟨a, dx, rfl, hT.free na, h2⟩, fun G' H' t' f' => k _ _ t' ((Frm.same s2).trans f')⟩
    · rw [if_neg (by intro z; rw [z] at h1; exact h1 rfl)] at k
      walk_at "go"
      have hr := hT.req z
      unfold ReqAt at hr
      cases e : (cli s z).ask with
      | none =>
        rw [e] at k hr
        refine ite2 (fun q => ?_) (fun _ => ?_)
        · rw [show G.rq z = V.non from hr] at q
          exact absurd q (by decide)
        · walk_at "go"
          exact ⟨A, G, s, z, rfl, hT, hO, fun G' H' t' f' => k _ _ t' f'⟩
      | some q =>
        rw [e] at k hr
        obtain ⟨ad, dx, e1, hi⟩ := hr
        refine ite2 (fun _ => ?_) (fun q => ?_)
        · walk_at "go"
          exact ⟨A, G, s, .req (zn z) (cli s z).epoch q.id q.ply q.move q.think, G.rq z, rfl, hT, hO, ⟨ad, dx, e1, hi⟩, fun G' H' t' f' => k _ _ t' f'⟩
        · rw [e1] at q
          exact absurd rfl q
def sp_M_Machine_press (C : Cs) (K : PySem.W.Frag) : Sp := fun vv H Q _ => ∃ (A : Ad) (G : Gh) (s : State) (z : Bool) (n : Nat), vv = [.ref (A.at_ (.mach z)), nV n, nV s.now, .ref (A.at_ .net)] ∧ (TabAt C A G s H) ∧ (Ok s) ∧ (∀ G' H' a dx, TabAt C A G' (Vbdcas.send (setCli s z { cli s z with nextId := (cli s z).nextId + 1, ask := some { id := (cli s z).nextId, ply := (cli s z).known.length, move := n, think := s.now - (cli s z).learned } }) (.req (zn z) (cli s z).epoch (cli s z).nextId (cli s z).known.length n (s.now - (cli s z).learned))) H' → Frm A H H' → H' a = some (.ins C.req dx (reqF (zn z) (cli s z).epoch (cli s z).nextId (cli s z).known.length n (s.now - (cli s z).learned))) → Q (.ref a) H')
theorem ok_M_Machine_press (T : Txt K mg C) : MB P w K mg base C.mach "press" 3 p_M_Machine_press (sp_M_Machine_press C K) := by
  have K_Request := ok_K_Request (P := P) (w := w) (base := base) T
  have M_Net_send := ok_M_Net_send (P := P) (w := w) (base := base) T
  have sc := sc_M_Machine_press
  refine MB.of T.f_M_Machine_press T.c_Machine sc ba_M_Machine_press (fun vv H Q E h => ?_) (fun fn cdv A0 outer s0 H vv Q E hr h => ?_)
  · obtain ⟨_, _, _, _, _, rfl, _⟩ := h
    rfl
  · obtain ⟨A, G, s, z, n, rfl, hT, hO, k⟩ := h
    refine ⟨_, (pss_cons (ps_set (i := 4) sc.nd rfl (Or.inl rfl) (pe_op op_sub (pv 2) (pe_fld (pv 0) rfl)))
      (pss_cons (ps_set (i := 5) sc.nd rfl (Or.inl rfl) (pe_k K_Request (hr.mono (by decide)) rfl (pa_cons (pe_fld (pv 0) rfl) (pa_cons (pe_fld (pv 0) rfl) (pa_cons (pe_fld (pv 0) rfl) (pa_cons (pe_callB call_len_seq (by rfl) T.b_len PySem.boot_len (pa_cons (pe_fld (pv 0) rfl) pa_nil)) (pa_cons (pv 1) (pa_cons (pv 4) pa_nil))))))))
      (pss_cons (ps_fld (pv 0) (pv 5) rfl)
      (pss_cons (ps_fldaug (pv 0) pe_int in_add)
      (pss_cons (ps_expr (pe_m M_Net_send (hr.mono (by decide)) (pv 3) (pa_cons (pv 5) pa_nil)))
      (pss_one (ps_ret (pv 5)))))))), ?_⟩
    have hc : CliOk s.now s.log.length (cli s z) := by cases z; exact hO.c1; exact hO.c0
    have hL := hc.learned
    walk_at "go"
    rename_i a dx na nd ne
    refine ⟨a, dx, zn z, (cli s z).epoch, (cli s z).nextId, (cli s z).known.length, n, s.now - (cli s z).learned, ?_, upd_same, fun H2 h2 b2 => ⟨rfl, ?_⟩⟩
    · rw [List.length_map, show ((s.now : Int) - ((cli s z).learned : Int)) = ((s.now - (cli s z).learned : Nat) : Int) by omega]
    have s2 := Same.made na nd b2
    have t2 := hT.same s2
    have i2 : Im A H2 a _ := ⟨hT.free na, h2⟩
    walk_at "go"
    rw [upd_upd]
    have t3 := t2.setMach z (c := { cli s z with nextId := (cli s z).nextId + 1, ask := some { id := (cli s z).nextId, ply := (cli s z).known.length, move := n, think := s.now - (cli s z).learned } }) (rq := .ref a) (bt := G.bt z) (fs := putF "next_request" (V.int (↑(cli s z).nextId + 1)) (putF "request" (V.ref a) (machF A z (cli s z) (G.rq z) (G.bt z)))) rfl rfl ⟨a, dx, rfl, i2⟩ (t2.bank z)
    have o3 : Ok (setCli s z { cli s z with nextId := (cli s z).nextId + 1, ask := some { id := (cli s z).nextId, ply := (cli s z).known.length, move := n, think := s.now - (cli s z).learned } }) := hO.setCli (Nat.le_refl _) ⟨hc.known, hc.learned⟩
    walk_at "go"
    refine ⟨A, _, _, .req (zn z) (cli s z).epoch (cli s z).nextId (cli s z).known.length n (s.now - (cli s z).learned), .ref a, rfl, t3, o3, ⟨a, dx, rfl, i2.mono (Frm.put Frm.refl)⟩, fun G' H' t' f' => ?_⟩
    walk_at "go"
    have f3 : Frm A H2 H' := (Frm.put Frm.refl).trans f'
    exact k G' H' a dx t' ((Frm.same s2).trans f3) (i2.mono f3).2
def sp_M_Machine_add_moves (C : Cs) (K : PySem.W.Frag) : Sp := fun vv H Q _ => ∃ (A : Ad) (G : Gh) (s : State) (z : Bool) (a : Addr) (dx : Addr) (p : Nat) (e : Nat) (f : Nat) (l : Addr) (ms : (List Nat)) (hd : Nat) (t : Addr) (ov : Nat), vv = [.ref (A.at_ (.mach z)), .ref a] ∧ (TabAt C A G s H) ∧ (H a = some (.ins C.news dx (newsF p e f l hd t ov))) ∧ (H l = some (.lst (vs ms))) ∧ ((cli s z).known.length ≤ 60) ∧ (ms.length ≤ 4) ∧ (∀ H', TabAt C A G (setCli s z { cli s z with known := newKnown (cli s z) f ms }) H' → Frm A H H' → Q .non H')
theorem ok_M_Machine_add_moves (T : Txt K mg C) : MB P w K mg base C.mach "add_moves" 1 p_M_Machine_add_moves (sp_M_Machine_add_moves C K) := by
  have sc := sc_M_Machine_add_moves
  refine MB.of T.f_M_Machine_add_moves T.c_Machine sc ba_M_Machine_add_moves (fun vv H Q E h => ?_) (fun fn cdv A0 outer s0 H vv Q E hr h => ?_)
  · obtain ⟨_, _, _, _, _, _, _, _, _, _, _, _, _, _, rfl, _⟩ := h
    rfl
  · obtain ⟨A, G, s, z, a, dx, p, e, f, l, ms, hd, t, ov, rfl, hT, hn, hl, h60, h4, k⟩ := h
    refine ⟨_, (pss_cons (ps_set (i := 2) sc.nd rfl (Or.inl rfl) (pe_callB call_len_seq (by rfl) T.b_len PySem.boot_len (pa_cons (pe_fld (pv 0) rfl) pa_nil)))
      (pss_one (ps_if (pt_cmpR op_le (pe_fld (pv 1) rfl) (pv 2) (nomark _)) (pss_one (ps_expr (pe_bm PySem.F.plainAttrs_list PySem.F.slot_list_extend PySem.F.type_list_extend mt_extend (pe_fld (pv 0) rfl) (pa_cons (pe_slice sl_list (pe_fld (pv 1) rfl) (po_some (pe_op op_sub (pv 2) (pe_fld (pv 1) rfl))) po_none) pa_nil)))) pss_nil))), ?_⟩
    walk_at "go"
    have eL : ((vs (cli s z).known).length : Int) = ((cli s z).known.length : Int) := by rw [List.length_map]
    refine ite2 (fun h1 => ?_) (fun h1 => ?_)
    · have h1' : (f : Int) ≤ ((vs (cli s z).known).length : Int) := of_decide_eq_true h1
      walk_at "go"
      rename_i q hq
      refine ⟨_, q, _, _, rfl, rfl, upd_old hq (hT.moves z), upd_same, ?_, ?_⟩
      · rw [eL, show (((cli s z).known.length : Int) - (f : Int)) = (((cli s z).known.length - f : Nat) : Int) by omega, cut_from]
        simp only [vs, List.length_map, List.length_drop]
        unfold sizeLine
        omega
      · have ex : vs (cli s z).known ++ cutV (vs ms) (some (((vs (cli s z).known).length : Int) - (f : Int))) none = vs (newKnown (cli s z) f ms) := by
          rw [eL, show (((cli s z).known.length : Int) - (f : Int)) = (((cli s z).known.length - f : Nat) : Int) by omega, cut_from]
          unfold newKnown
          by_cases hk : (cli s z).known.length < f + ms.length
          · rw [if_pos ⟨by omega, hk⟩]
            simp [vs]
          · rw [if_neg (fun q => hk q.2), List.drop_of_length_le (by omega)]
            simp [vs]
        exact k _ ((hT.new hq).setMoves z ex) ((Frm.same (same_new hq)).trans (Frm.put Frm.refl))
    · have h1' : ¬ (f : Int) ≤ ((vs (cli s z).known).length : Int) := fun q => h1 (decide_eq_true q)
      walk_at "go"
      have e1 : newKnown (cli s z) f ms = (cli s z).known := by
        unfold newKnown
        rw [if_neg (by omega)]
      rw [e1] at k
      exact k _ (by rw [show ({ cli s z with known := (cli s z).known } : Client) = cli s z from rfl, set_self]; exact hT) Frm.refl
def sp_M_Machine_forget_request (C : Cs) (K : PySem.W.Frag) : Sp := fun vv H Q _ => ∃ (A : Ad) (G : Gh) (s : State) (z : Bool) (n : Nat), vv = [.ref (A.at_ (.mach z)), nV n] ∧ (TabAt C A G s H) ∧ (∀ G' H', TabAt C A G' (setCli s z { cli s z with ask := (cli s z).ask.bind fun a => if a.id ≤ n then none else some a }) H' → Frm A H H' → Q .non H')
theorem ok_M_Machine_forget_request (T : Txt K mg C) : MB P w K mg base C.mach "forget_request" 1 p_M_Machine_forget_request (sp_M_Machine_forget_request C K) := by
  have sc := sc_M_Machine_forget_request
  refine MB.of T.f_M_Machine_forget_request T.c_Machine sc ba_M_Machine_forget_request (fun vv H Q E h => ?_) (fun fn cdv A0 outer s0 H vv Q E hr h => ?_)
  · obtain ⟨_, _, _, _, _, rfl, _⟩ := h
    rfl
  · obtain ⟨A, G, s, z, n, rfl, hT, k⟩ := h
    refine ⟨_, (pss_one (ps_if (PW.pt (pw_and (pt_cmpR op_notN (pe_fld (pv 0) rfl) pe_non (nomark _)) (pw_and1 (pt_cmpR op_le (pe_fld (pe_fld (pv 0) rfl) rfl) (pv 1) (nomark _))))) (pss_one (ps_fld (pv 0) pe_non rfl)) pss_nil)), ?_⟩
    walk_at "go"
    have hr := hT.req z
    unfold ReqAt at hr
    cases e : (cli s z).ask with
    | none =>
      rw [e] at k hr
      refine ite2 (fun q => ?_) (fun _ => ?_)
      · rw [show G.rq z = V.non from hr] at q
        exact absurd q (by decide)
      · walk_at "go"
        refine k G H ?_ Frm.refl
        have : ({ cli s z with ask := (none : Option Ask).bind fun a => if a.id ≤ n then none else some a } : Client) = cli s z := by
          show ({ cli s z with ask := none } : Client) = cli s z
          rw [← e]
        rw [this, set_self]
        exact hT
    | some q =>
      rw [e] at k hr
      obtain ⟨ad, dx, e1, hi⟩ := hr
      have hi0 := hi.2
      refine ite2 (fun _ => ?_) (fun q => ?_)
      · walk_at "go"
        rw [e1]
        walk_at "go"
        refine ite2 (fun h1 => ?_) (fun h1 => ?_)
        · have h1' : (q.id : Int) ≤ (n : Int) := of_decide_eq_true h1
          rw [show ((some q).bind fun a : Ask => if a.id ≤ n then none else some a) = none from if_pos (by omega)] at k
          walk_at "go"
          exact k _ _ (hT.setMach z (c := { cli s z with ask := none }) (rq := .non) (bt := G.bt z) rfl rfl rfl (hT.bank z)) (Frm.put Frm.refl)
        · have h1' : ¬ (q.id : Int) ≤ (n : Int) := fun w => h1 (decide_eq_true w)
          rw [show ((some q).bind fun a : Ask => if a.id ≤ n then none else some a) = some q from if_neg (by omega)] at k
          walk_at "go"
          refine k G H ?_ Frm.refl
          have : ({ cli s z with ask := some q } : Client) = cli s z := by rw [← e]
          rw [this, set_self]
          exact hT
      · rw [e1] at q
        exact absurd rfl q

def sp_M_Machine_take_news (C : Cs) (K : PySem.W.Frag) : Sp := fun vv H Q _ => ∃ (A : Ad) (G : Gh) (s : State) (z : Bool) (a : Addr) (dx : Addr) (e : Nat) (f : Nat) (l : Addr) (ms : (List Nat)) (hd : Nat) (t : Addr) (b0 : Nat) (b1 : Nat) (ov : Nat), vv = [.ref (A.at_ (.mach z)), .ref a, nV s.now, .ref (A.at_ .net)] ∧ (TabAt C A G s H) ∧ (Ok s) ∧ (f + ms.length ≤ s.log.length ∧ ms.length ≤ 4) ∧ (Im A H a (.ins C.news dx (newsF (zn z) e f l hd t ov))) ∧ (Im A H l (.lst (vs ms))) ∧ (Im A H t (.tup [nV b0, nV b1])) ∧ (∀ G' H', TabAt C A G' (Vbdcas.machine s (.news (zn z) e f ms hd b0 b1 ov)) H' → Frm A H H' → Q .non H')
theorem ok_M_Machine_take_news (T : Txt K mg C) : MB P w K mg base C.mach "take_news" 4 p_M_Machine_take_news (sp_M_Machine_take_news C K) := by
  have M_Machine_add_moves := ok_M_Machine_add_moves (P := P) (w := w) (base := base) T
  have M_Machine_forget_request := ok_M_Machine_forget_request (P := P) (w := w) (base := base) T
  have M_Machine_is_to_move := ok_M_Machine_is_to_move (P := P) (w := w) (base := base) T
  have M_Machine_send_ack := ok_M_Machine_send_ack (P := P) (w := w) (base := base) T
  have sc := sc_M_Machine_take_news
  refine MB.of T.f_M_Machine_take_news T.c_Machine sc ba_M_Machine_take_news (fun vv H Q E h => ?_) (fun fn cdv A0 outer s0 H vv Q E hr h => ?_)
  · obtain ⟨_, _, _, _, _, _, _, _, _, _, _, _, _, _, _, rfl, _⟩ := h
    rfl
  · obtain ⟨A, G, s, z, a, dx, e, f, l, ms, hd, t, b0, b1, ov, rfl, hT, hO, hm, hn, hl, ht, k⟩ := h
    refine ⟨_, (pss_cons (ps_if (pt_cmpR op_ne (pe_fld (pv 1) rfl) (pe_fld (pv 0) rfl) (nomark _)) (pss_one ps_retN) pss_nil)
      (pss_cons (ps_set (i := 4) sc.nd rfl (Or.inl rfl) (pe_fld (pv 0) rfl))
      (pss_cons (ps_set (i := 5) sc.nd rfl (Or.inl rfl) (pe_callB call_len_seq (by rfl) T.b_len PySem.boot_len (pa_cons (pe_fld (pv 0) rfl) pa_nil)))
      (pss_cons (ps_fld (pv 0) pe_bl rfl)
      (pss_cons (ps_expr (pe_m M_Machine_add_moves (hr.mono (by decide)) (pv 0) (pa_cons (pv 1) pa_nil)))
      (pss_cons (ps_expr (pe_m M_Machine_forget_request (hr.mono (by decide)) (pv 0) (pa_cons (pe_fld (pv 1) rfl) pa_nil)))
      (pss_cons (ps_if (PW.pt (pw_and (pt_val (pe_m0 M_Machine_is_to_move (hr.mono (by decide)) (pv 0))) (pw_and1 (PW.pt (pw_or (pt_cmpR op_gt (pe_callB call_len_seq (by rfl) T.b_len PySem.boot_len (pa_cons (pe_fld (pv 0) rfl) pa_nil)) (pv 5) (nomark _)) (pw_or1 (pt_not (pt_val (pv 4))))))))) (pss_one (ps_fld (pv 0) (pv 2) rfl)) pss_nil)
      (pss_cons (ps_if (pt_cmpR op_ge (pe_op op_add (pe_fld (pv 1) rfl) (pe_callB call_len_seq (by rfl) T.b_len PySem.boot_len (pa_cons (pe_fld (pv 1) rfl) pa_nil))) (pv 5) (nomark _)) (pss_one (ps_fld (pv 0) (pe_fld (pv 1) rfl) rfl)) pss_nil)
      (pss_cons (ps_if (pt_cmpR op_ne (pe_fld (pv 1) rfl) pe_int (nomark _)) (pss_one (ps_fld (pv 0) (pe_fld (pv 1) rfl) rfl)) pss_nil)
      (pss_one (ps_expr (pe_m M_Machine_send_ack (hr.mono (by decide)) (pv 0) (pa_cons (pv 3) pa_nil))))))))))))), ?_⟩
    have hn0 := hn.2
    have hc := cliOk_z hO z
    have h60 : (cli s z).known.length ≤ 60 := Nat.le_trans hc.known hO.log
    rw [machine_eq, cli_zn, setCli_zn] at k
    walk_at "go"
    refine ite2 (fun h1 => ?_) (fun h1 => ?_)
    · rw [if_pos (by simp at h1; omega)] at k
      walk_at "go"
      exact k _ _ hT Frm.refl
    · have h1' : e = (cli s z).epoch := by simp at h1; omega
      rw [if_neg (by omega)] at k
      walk_at "go"
      -- on
      have t1 := hT.setMachC z (c := { cli s z with on := true }) (fs := putF "on" (V.bl true) (machF A z (cli s z) (G.rq z) (G.bt z))) rfl rfl rfl rfl rfl rfl
      have f1 : Frm A H (upd H (A.at_ (.mach z)) (.ins C.mach (A.dx (.mach z)) (putF "on" (V.bl true) (machF A z (cli s z) (G.rq z) (G.bt z))))) := Frm.put Frm.refl
      revert t1 f1
      generalize upd H (A.at_ (.mach z)) (.ins C.mach (A.dx (.mach z)) (putF "on" (V.bl true) (machF A z (cli s z) (G.rq z) (G.bt z)))) = H1
      intro t1 f1
      have hn1 := hn.mono f1
      have hn1' := hn1.2
      have hl1 := hl.mono f1
      walk_at "go"
      -- the moves
      refine ⟨A, G, _, z, a, dx, zn z, e, f, l, ms, hd, t, ov, rfl, t1, hn1.2, hl1.2, by rw [cli_setCli]; exact h60, hm.2, fun H2 t2 f2 => ?_⟩
      rw [cli_setCli, set2] at t2
      have eK : newKnown { cli s z with on := true } f ms = newKnown (cli s z) f ms := rfl
      rw [eK] at t2
      have hn2 := hn1.mono f2
      have hn2' := hn2.2
      have hl2 := hl1.mono f2
      walk_at "go"
      -- the request
      refine ⟨A, G, _, z, hd, rfl, t2, fun G3 H3 t3 f3 => ?_⟩
      rw [cli_setCli, set2] at t3
      have hn3 := hn2.mono f3
      have hn3' := hn3.2
      have hl3 := hl2.mono f3
      have hl3' := hl3.2
      walk_at "go"
      -- is it to move
      refine ⟨A, G3, _, z, rfl, t3, ?_⟩
      rw [cli_setCli]
      dsimp only
      generalize hD : ({ nx := _, rt := _ } : Ends) = D0
      generalize hσ : (List.set (List.set _ _ _) _ _ : L2.St) = σ0
      have o3 : Ok (setCli s z { cli s z with on := true, known := newKnown (cli s z) f ms, ask := (cli s z).ask.bind fun a => if a.id ≤ hd then none else some a }) := hO.setCli (Nat.le_refl _) ⟨newKnown_le hc.known hm.1, hc.learned⟩
      have rest : ∀ (lr : Nat) (H4 : Hp), TabAt C A G3 (setCli s z { cli s z with on := true, known := newKnown (cli s z) f ms, ask := (cli s z).ask.bind fun a => if a.id ≤ hd then none else some a, learned := lr }) H4 → Frm A H3 H4 →
          lr = (if (decide ((cli s z).known.length < (newKnown (cli s z) f ms).length) || !(cli s z).on) && Vbdcas.turnOf (newKnown (cli s z) f ms) == zn z then s.now else (cli s z).learned) → D0.nx σ0 H4 := by
        intro lr H4 t4 f4 el
        subst hD hσ
        have hn4 := hn3.mono f4
        have hn4' := hn4.2
        have hl4 := (hl3.mono f4).2
        have ht4 := (((ht.mono f1).mono f2).mono f3).mono f4
        have f04 := ((f1.trans f2).trans f3).trans f4
        dsimp only
        walk_at "go"
        have eL1 : ((vs (cli s z).known).length : Int) = ((cli s z).known.length : Int) := by rw [List.length_map]
        have eL2 : ((vs ms).length : Int) = (ms.length : Int) := by rw [List.length_map]
        generalize hD2 : ({ nx := _, rt := _ } : Ends) = D1
        generalize hσ2 : (List.set (List.set _ _ _) _ _ : L2.St) = σ1
        have rest2 : ∀ (x0 x1 : Nat) (G5 : Gh) (H5 : Hp), TabAt C A G5 (setCli s z { cli s z with on := true, known := newKnown (cli s z) f ms, ask := (cli s z).ask.bind fun a => if a.id ≤ hd then none else some a, learned := lr, b0 := x0, b1 := x1 }) H5 → Frm A H4 H5 →
            x0 = (if decide ((cli s z).known.length ≤ f + ms.length) = true then b0 else (cli s z).b0) → x1 = (if decide ((cli s z).known.length ≤ f + ms.length) = true then b1 else (cli s z).b1) → D1.nx σ1 H5 := by
          intro x0 x1 G5 H5 t5 f5 e0 e1
          subst hD2 hσ2
          have hn5 := hn4.mono f5
          have hn5' := hn5.2
          have hlr : lr ≤ s.now := by
            rw [el]
            split
            · exact Nat.le_refl _
            · exact hc.learned
          have fin : ∀ (o : Nat) (G6 : Gh) (H6 : Hp), TabAt C A G6 (setCli s z { cli s z with on := true, known := newKnown (cli s z) f ms, ask := (cli s z).ask.bind fun a => if a.id ≤ hd then none else some a, learned := lr, b0 := x0, b1 := x1, over := o }) H6 → Frm A H5 H6 → o = (if ov = 0 then (cli s z).over else ov) → ∃ (A' : Ad) (G' : Gh) (s' : State) (z' : Bool), [V.ref (A.at_ (.mach z)), V.ref (A.at_ .net)] = [V.ref (A'.at_ (.mach z')), V.ref (A'.at_ .net)] ∧ TabAt C A' G' s' H6 ∧ Ok s' ∧ (∀ G7 H7, TabAt C A' G7 (Vbdcas.send s' (.ack (zn z') (cli s' z').epoch (cli s' z').known.length)) H7 → Frm A' H6 H7 → Q .non H7) := by
            intro o G6 H6 t6 f6 eo
            have o6 : Ok (setCli s z { cli s z with on := true, known := newKnown (cli s z) f ms, ask := (cli s z).ask.bind fun a => if a.id ≤ hd then none else some a, learned := lr, b0 := x0, b1 := x1, over := o }) := hO.setCli (Nat.le_refl _) ⟨newKnown_le hc.known hm.1, hlr⟩
            refine ⟨A, G6, _, z, rfl, t6, o6, fun G7 H7 t7 f7 => k G7 H7 ?_ (((f04.trans f5).trans f6).trans f7)⟩
            rw [cli_setCli] at t7
            have ec : newCli (cli s z) s.now (zn z) f ms hd b0 b1 ov = { cli s z with on := true, known := newKnown (cli s z) f ms, ask := (cli s z).ask.bind fun a => if a.id ≤ hd then none else some a, learned := lr, b0 := x0, b1 := x1, over := o } := by
              unfold newCli
              rw [← el, ← e0, ← e1, ← eo]
            rw [ec, h1']
            exact t7
          walk_at "go"
          refine ite2 (fun h2 => ?_) (fun h2 => ?_)
          · have h2' : ov ≠ 0 := by simp at h2; omega
            walk_at "go"
            have t6 := t5.setMachC z (c := { cli s z with on := true, known := newKnown (cli s z) f ms, ask := (cli s z).ask.bind fun a => if a.id ≤ hd then none else some a, learned := lr, b0 := x0, b1 := x1, over := ov }) (fs := putF "result" (nV ov) (machF A z (cli (setCli s z { cli s z with on := true, known := newKnown (cli s z) f ms, ask := (cli s z).ask.bind fun a => if a.id ≤ hd then none else some a, learned := lr, b0 := x0, b1 := x1 }) z) (G5.rq z) (G5.bt z))) (by rw [cli_setCli]; rfl) (by rw [cli_setCli]) (by rw [cli_setCli]) (by rw [cli_setCli]) (by rw [cli_setCli]) (by rw [cli_setCli])
            rw [set2] at t6
            have f6 : Frm A H5 (upd H5 (A.at_ (.mach z)) (.ins C.mach (A.dx (.mach z)) (putF "result" (nV ov) (machF A z (cli (setCli s z { cli s z with on := true, known := newKnown (cli s z) f ms, ask := (cli s z).ask.bind fun a => if a.id ≤ hd then none else some a, learned := lr, b0 := x0, b1 := x1 }) z) (G5.rq z) (G5.bt z))))) := Frm.put Frm.refl
            dsimp only
            walk_at "go"
            exact fin ov _ _ t6 f6 (by rw [if_neg h2'])
          · have h2' : ov = 0 := by simp at h2; omega
            walk_at "go"
            exact fin (cli s z).over _ _ t5 Frm.refl (by rw [if_pos h2'])
        subst hσ2
        refine ite2 (fun h2 => ?_) (fun h2 => ?_)
        · have h2' := of_decide_eq_true h2
          walk_at "go"
          have t5 := t4.setMach z (c := { cli s z with on := true, known := newKnown (cli s z) f ms, ask := (cli s z).ask.bind fun a => if a.id ≤ hd then none else some a, learned := lr, b0 := b0, b1 := b1 }) (rq := G3.rq z) (bt := t) (fs := putF "banks" (V.ref t) (machF A z (cli (setCli s z { cli s z with on := true, known := newKnown (cli s z) f ms, ask := (cli s z).ask.bind fun a => if a.id ≤ hd then none else some a, learned := lr }) z) (G3.rq z) (G3.bt z))) (by rw [cli_setCli]; rfl) (by rw [cli_setCli]) (by have := t4.req z; unfold ReqAt at this ⊢; rw [cli_setCli] at this; exact this) ht4
          rw [set2] at t5
          exact rest2 b0 b1 _ _ t5 (Frm.put Frm.refl) (by rw [if_pos (decide_eq_true (by omega))]) (by rw [if_pos (decide_eq_true (by omega))])
        · have h2' : ¬ _ := fun q => h2 (decide_eq_true q)
          walk_at "go"
          exact rest2 (cli s z).b0 (cli s z).b1 _ _ t4 Frm.refl (by rw [if_neg (by simp; omega)]) (by rw [if_neg (by simp; omega)])
      subst hσ
      walk_at "go"
      refine ite2 (fun h2 => ?_) (fun h2 => ?_)
      · have h2' := of_decide_eq_true h2
        walk_at "go"
        rw [cli_setCli]
        dsimp only
        refine ite2 (fun h3 => ?_) (fun h3 => ?_)
        · have h3' := of_decide_eq_true h3
          walk_at "go"
          refine rest s.now _ (by have := t3.setMachC z (c := { cli s z with on := true, known := newKnown (cli s z) f ms, ask := (cli s z).ask.bind fun a => if a.id ≤ hd then none else some a, learned := s.now }) (fs := putF "learned" (nV s.now) (machF A z (cli (setCli s z { cli s z with on := true, known := newKnown (cli s z) f ms, ask := (cli s z).ask.bind fun a => if a.id ≤ hd then none else some a }) z) (G3.rq z) (G3.bt z))) (by rw [cli_setCli]; rfl) (by rw [cli_setCli]) (by rw [cli_setCli]) (by rw [cli_setCli]) (by rw [cli_setCli]) (by rw [cli_setCli]); rw [set2] at this; exact this) (Frm.put Frm.refl) ?_
          rw [if_pos]
          have : (cli s z).known.length < (newKnown (cli s z) f ms).length := by
            have q1 : ((vs (cli s z).known).length : Int) < ((vs (newKnown (cli s z) f ms)).length : Int) := h3'
            rw [List.length_map, List.length_map] at q1
            omega
          simp [this, h2']
        · have h3' : ¬ (cli s z).known.length < (newKnown (cli s z) f ms).length := fun q => h3 (decide_eq_true (by rw [List.length_map, List.length_map]; omega))
          walk_at "go"
          refine ite2 (fun h4 => ?_) (fun h4 => ?_)
          · walk_at "go"
            refine rest s.now _ (by have := t3.setMachC z (c := { cli s z with on := true, known := newKnown (cli s z) f ms, ask := (cli s z).ask.bind fun a => if a.id ≤ hd then none else some a, learned := s.now }) (fs := putF "learned" (nV s.now) (machF A z (cli (setCli s z { cli s z with on := true, known := newKnown (cli s z) f ms, ask := (cli s z).ask.bind fun a => if a.id ≤ hd then none else some a }) z) (G3.rq z) (G3.bt z))) (by rw [cli_setCli]; rfl) (by rw [cli_setCli]) (by rw [cli_setCli]) (by rw [cli_setCli]) (by rw [cli_setCli]) (by rw [cli_setCli]); rw [set2] at this; exact this) (Frm.put Frm.refl) ?_
            rw [if_pos]
            simp [h4, h2'] at *
          · walk_at "go"
            refine rest (cli s z).learned _ t3 Frm.refl ?_
            rw [if_neg]
            simp [h3'] at *
            intro q
            rw [h4] at q
            cases q
      · walk_at "go"
        refine rest (cli s z).learned _ t3 Frm.refl ?_
        rw [if_neg]
        simp
        intro _ q
        exact h2 (decide_eq_true q)
theorem r_gn {i : Nat} {v : V} {σ : L2.St} {H : Hp} {Q : L2.St → Hp → Prop} (h : Q (σ.set i (some v)) H) : gName i v σ H Q := h
theorem ite_join {c : Prop} [Decidable c] {R : Int → Prop} {x y v : Int} (e : (if c then x else y) = v) (h : R v) : if c then R x else R y := by
  by_cases q : c
  · rw [if_pos q] at e ⊢
    rw [e]
    exact h
  · rw [if_neg q] at e ⊢
    rw [e]
    exact h
/-- the table as the loop over the seats goes -/
def hereSt (s : State) : Nat → State
  | 0 => s
  | 1 => Vbdcas.setSeat s 0 { Vbdcas.seat s 0 with here := false }
  | _ => Vbdcas.setSeat (Vbdcas.setSeat s 0 { Vbdcas.seat s 0 with here := false }) 1 { Vbdcas.seat s 1 with here := false }
def sp_M_House_restart (C : Cs) (K : PySem.W.Frag) : Sp := fun vv H Q _ => ∃ (A : Ad) (G : Gh) (s : State), vv = [.ref (A.at_ .house), nV s.now] ∧ (TabAt C A G s H) ∧ (Ok s) ∧ (∀ H', TabAt C A G (Vbdcas.restart s) H' → Frm A H H' → Q .non H')
theorem ok_M_House_restart (T : Txt K mg C) : MB P w K mg base C.house "restart" 2 p_M_House_restart (sp_M_House_restart C K) := by
  have M_House_side_to_move := ok_M_House_side_to_move (P := P) (w := w) (base := base) T
  have M_Seat_pay := ok_M_Seat_pay (P := P) (w := w) (base := base) T
  have M_House_has_had := ok_M_House_has_had (P := P) (w := w) (base := base) T
  have sc := sc_M_House_restart
  refine MB.of T.f_M_House_restart T.c_House sc ba_M_House_restart (fun vv H Q E h => ?_) (fun fn cdv A0 outer s0 H vv Q E hr h => ?_)
  · obtain ⟨_, _, _, rfl, _⟩ := h
    rfl
  · obtain ⟨A, G, s, rfl, hT, hO, k⟩ := h
    refine ⟨_, (pss_cons (ps_set (i := 2) sc.nd rfl (Or.inl rfl) (pe_ix ix_list (pe_fld (pv 0) rfl) (pe_m0 M_House_side_to_move (hr.mono (by decide)) (pv 0)) (fun _ _ => rfl)))
      (pss_cons (ps_expr (pe_m M_Seat_pay (hr.mono (by decide)) (pv 2) (pa_cons (pe_callB (call_min2 rfl) (by rfl) T.b_min (by rfl) (pa_cons (pe_m M_House_has_had (hr.mono (by decide)) (pv 0) (pa_cons (pv 1) pa_nil)) (pa_cons (pe_fld (pv 2) rfl) pa_nil))) pa_nil)))
      (pss_cons (ps_fld (pv 0) pe_bl rfl)
      (pss_one (ps_for PassesOwn.never rfl (pi_list (pe_fld (pv 0) rfl)) (pg_name (i := 3) sc.nd rfl (Or.inl rfl)) (pss_one (ps_fld (pv 3) pe_bl rfl))))))), ?_⟩
    have hp := turn_lt s.log
    walk_at "go"
    refine ⟨A, G, s, rfl, hT, ?_⟩
    walk_at "go"
    refine ⟨A, G, s, rfl, hT, hO, ?_⟩
    walk_at "go"
    rw [sea_zb]
    have e1 : (if (((Vbdcas.seat s (Vbdcas.turnOf s.log)).bank : Nat) : Int) < ((Vbdcas.elapsed s : Nat) : Int) then (((Vbdcas.seat s (Vbdcas.turnOf s.log)).bank : Nat) : Int) else ((Vbdcas.elapsed s : Nat) : Int)) = ((min (Vbdcas.seat s (Vbdcas.turnOf s.log)).bank (Vbdcas.elapsed s) : Nat) : Int) := by
      split <;> omega
    rw [e1]
    refine ⟨A, G, s, Vbdcas.turnOf s.log, min (Vbdcas.seat s (Vbdcas.turnOf s.log)).bank (Vbdcas.elapsed s), rfl, hT, Nat.min_le_left _ _, fun H1 t1 f1 => ?_⟩
    have er : Vbdcas.restart s = hereSt { Vbdcas.setSeat s (Vbdcas.turnOf s.log) { Vbdcas.seat s (Vbdcas.turnOf s.log) with bank := (Vbdcas.seat s (Vbdcas.turnOf s.log)).bank - min (Vbdcas.seat s (Vbdcas.turnOf s.log)).bank (Vbdcas.elapsed s), spent := (Vbdcas.seat s (Vbdcas.turnOf s.log)).spent + min (Vbdcas.seat s (Vbdcas.turnOf s.log)).bank (Vbdcas.elapsed s) } with running := false } 2 := rfl
    rw [er] at k
    generalize Vbdcas.setSeat s (Vbdcas.turnOf s.log) { Vbdcas.seat s (Vbdcas.turnOf s.log) with bank := (Vbdcas.seat s (Vbdcas.turnOf s.log)).bank - min (Vbdcas.seat s (Vbdcas.turnOf s.log)).bank (Vbdcas.elapsed s), spent := (Vbdcas.seat s (Vbdcas.turnOf s.log)).spent + min (Vbdcas.seat s (Vbdcas.turnOf s.log)).bank (Vbdcas.elapsed s) } = s1 at *
    walk_at "go"
    have t2 : TabAt C A G { s1 with running := false } (upd H1 (A.at_ .house) (.ins C.house (A.dx .house) (putF "runs" (V.bl false) (houseF A s1)))) := t1.setHouse (ov := s1.over) (si := s1.since) (ru := false) rfl
    have f2 : Frm A H (upd H1 (A.at_ .house) (.ins C.house (A.dx .house) (putF "runs" (V.bl false) (houseF A s1)))) := f1.trans (Frm.put Frm.refl)
    generalize ({ s1 with running := false } : State) = s2 at *
    generalize upd H1 (A.at_ .house) (.ins C.house (A.dx .house) (putF "runs" (V.bl false) (houseF A s1))) = H2 at *
    try dsimp only
    generalize hD : Ends.mk _ _ _ _ = D0
    refine r_forL ?_
    walk_at "go"
    refine ⟨_, rfl, ⟨_, .inl (.inl t2.seats)⟩, for_list (xs := [.ref (A.at_ (.seat true)), .ref (A.at_ (.seat false))]) (fun i σ H3 => (∃ x y z, σ = [some (.ref (A.at_ .house)), x, y, z]) ∧ TabAt C A G (hereSt s2 i) H3 ∧ Frm A H H3) ?_ ?_ ?_ ?_⟩
    · exact ⟨⟨_, _, _, rfl⟩, t2, f2⟩
    · rintro i σ H3 _ ⟨_, t3, _⟩
      exact .inl (.inl t3.seats)
    · rintro i x σ H3 e ⟨⟨x1, y1, z1, rfl⟩, t3, f3⟩
      match i, e, t3 with
      | 0, e, t3 =>
        cases e
        refine r_gn ?_
        walk_at "go"
        exact ⟨⟨_, _, _, rfl⟩, t3.setSeat 0 (x := { Vbdcas.seat s2 0 with here := false }) rfl, f3.trans (Frm.put Frm.refl)⟩
      | 1, e, t3 =>
        cases e
        refine r_gn ?_
        walk_at "go"
        exact ⟨⟨_, _, _, rfl⟩, t3.setSeat 1 (x := { Vbdcas.seat s2 1 with here := false }) rfl, f3.trans (Frm.put Frm.refl)⟩
      | n + 2, e, t3 => cases e
    · rintro σ H3 ⟨_, t3, f3⟩
      subst hD
      exact k _ t3 f3
def sp_M_Machine_told (C : Cs) (K : PySem.W.Frag) : Sp := fun vv H Q _ => ∃ (A : Ad) (G : Gh) (s : State) (z : Bool), vv = [.ref (A.at_ (.mach z))] ∧ (TabAt C A G s H) ∧ ((cli s z).known.length ≤ 60) ∧ (Told H Q ([(cli s z).epoch, Vbdcas.bit (cli s z).on, (cli s z).nextId, Vbdcas.bit (cli s z).ask.isSome, (cli s z).learned, (cli s z).b0, (cli s z).b1, (cli s z).over] ++ (cli s z).known))
theorem ok_M_Machine_told (T : Txt K mg C) : MB P w K mg base C.mach "told" 1 p_M_Machine_told (sp_M_Machine_told C K) := by
  have sc := sc_M_Machine_told
  refine MB.of T.f_M_Machine_told T.c_Machine sc ba_M_Machine_told (fun vv H Q E h => ?_) (fun fn cdv A0 outer s0 H vv Q E hr h => ?_)
  · obtain ⟨_, _, _, _, rfl, _⟩ := h
    rfl
  · obtain ⟨A, G, s, z, rfl, hT, h60, k⟩ := h
    refine ⟨_, (pss_cons (ps_set (i := 1) sc.nd rfl (Or.inl rfl) (pe_ifExp (pt_cmpR op_isN (pe_fld (pv 0) rfl) pe_non (nomark _)) pe_int pe_int))
      (pss_cons (ps_set (i := 2) sc.nd rfl (Or.inl rfl) (pe_lst (pa_cons (pe_fld (pv 0) rfl) (pa_cons (pe_ifExp (pt_val (pe_fld (pv 0) rfl)) pe_int pe_int) (pa_cons (pe_fld (pv 0) rfl) (pa_cons (pv 1) (pa_cons (pe_fld (pv 0) rfl) pa_nil)))))))
      (pss_cons (ps_expr (pe_bm PySem.F.plainAttrs_list PySem.F.slot_list_extend PySem.F.type_list_extend mt_extend (pv 2) (pa_cons (pe_lst (pa_cons (pe_ix ix_tup (pe_fld (pv 0) rfl) pe_int (fun _ _ => rfl)) (pa_cons (pe_ix ix_tup (pe_fld (pv 0) rfl) pe_int (fun _ _ => rfl)) (pa_cons (pe_fld (pv 0) rfl) pa_nil)))) pa_nil)))
      (pss_cons (ps_expr (pe_bm PySem.F.plainAttrs_list PySem.F.slot_list_extend PySem.F.type_list_extend mt_extend (pv 2) (pa_cons (pe_fld (pv 0) rfl) pa_nil)))
      (pss_one (ps_ret (pv 2))))))), ?_⟩
    have hr := hT.req z
    unfold ReqAt at hr
    have ew : (if decide (G.rq z = V.non) = true then (0 : Int) else 1) = (Vbdcas.bit (cli s z).ask.isSome : Nat) := by
      cases e : (cli s z).ask with
      | none =>
        rw [e] at hr
        rw [show G.rq z = V.non from hr]
        rfl
      | some a =>
        rw [e] at hr
        obtain ⟨ad, dx, e1, _⟩ := hr
        rw [e1]
        rfl
    have eo : (if (cli s z).on = true then (1 : Int) else 0) = (Vbdcas.bit (cli s z).on : Nat) := by
      unfold Vbdcas.bit
      split <;> rfl
    walk_at "go"
    refine ite_join (R := fun i => tC (V.int i) _ _ _) ew ?_
    walk_at "go"
    refine ite_join (R := fun i => tC (V.int i) _ _ _) eo ?_
    walk_at "go"
    rename_i g hg
    refine k_tup 0 rfl (upd_old hg (hT.bank z).2) rfl ?_
    walk_at "go"
    refine k_tup 1 rfl (upd_old hg (hT.bank z).2) rfl ?_
    walk_at "go"
    rename_i q hq
    refine ⟨_, _, _, _, rfl, rfl, upd_old hq upd_same, upd_same, ?_, ?_⟩
    · exact Nat.le_of_ble_eq_true rfl
    have ss3 := same_put ((same_new (o := HO.lst [nV (cli s z).epoch, nV (Vbdcas.bit (cli s z).on), nV (cli s z).nextId, nV (Vbdcas.bit (cli s z).ask.isSome), nV (cli s z).learned]) hg).trans (same_new (o := HO.lst [nV (cli s z).b0, nV (cli s z).b1, nV (cli s z).over]) hq)) (g := g) (o := HO.lst ([nV (cli s z).epoch, nV (Vbdcas.bit (cli s z).on), nV (cli s z).nextId, nV (Vbdcas.bit (cli s z).ask.isSome), nV (cli s z).learned] ++ [nV (cli s z).b0, nV (cli s z).b1, nV (cli s z).over])) hg
    have hg3 : upd (upd (upd H g (HO.lst [nV (cli s z).epoch, nV (Vbdcas.bit (cli s z).on), nV (cli s z).nextId, nV (Vbdcas.bit (cli s z).ask.isSome), nV (cli s z).learned])) q (HO.lst [nV (cli s z).b0, nV (cli s z).b1, nV (cli s z).over])) g (HO.lst ([nV (cli s z).epoch, nV (Vbdcas.bit (cli s z).on), nV (cli s z).nextId, nV (Vbdcas.bit (cli s z).ask.isSome), nV (cli s z).learned] ++ [nV (cli s z).b0, nV (cli s z).b1, nV (cli s z).over])) g = _ := upd_same
    generalize upd (upd (upd H g (HO.lst [nV (cli s z).epoch, nV (Vbdcas.bit (cli s z).on), nV (cli s z).nextId, nV (Vbdcas.bit (cli s z).ask.isSome), nV (cli s z).learned])) q (HO.lst [nV (cli s z).b0, nV (cli s z).b1, nV (cli s z).over])) g (HO.lst ([nV (cli s z).epoch, nV (Vbdcas.bit (cli s z).on), nV (cli s z).nextId, nV (Vbdcas.bit (cli s z).ask.isSome), nV (cli s z).learned] ++ [nV (cli s z).b0, nV (cli s z).b1, nV (cli s z).over])) = H3 at *
    have t3 := hT.same ss3
    walk_at "go"
    refine ⟨_, _, _, _, rfl, rfl, hg3, t3.moves z, ?_, ?_⟩
    · simp only [vs, List.length_map, List.length_cons, List.length_nil, List.length_append]
      unfold sizeLine
      omega
    walk_at "go"
    refine k _ g (same_put ss3 hg) hg ?_
    rw [upd_same]
    simp [vs]
/-- what was tracked is still tracked -/
def Ex (H H' : Hp) : Prop := ∀ x o, H x = some o → ∃ o', H' x = some o'
theorem Ex.refl {H : Hp} : Ex H H := fun _ o h => ⟨o, h⟩
theorem Ex.trans {H H1 H2 : Hp} (a : Ex H H1) (b : Ex H1 H2) : Ex H H2 := fun x o h => by
  obtain ⟨o1, h1⟩ := a x o h
  exact b x o1 h1
theorem Ex.upd {H : Hp} {a : Addr} {o : HO} : Ex H (L2.upd H a o) := fun x u h => by
  by_cases e : x = a
  · subst e
    exact ⟨o, upd_same⟩
  · exact ⟨u, by rw [upd_ne e]; exact h⟩
theorem Ex.same {H H' : Hp} (s : Same H H') : Ex H H' := fun x o h => ⟨o, s x o h⟩
theorem Ex.none {H H' : Hp} (e : Ex H H') {x : Addr} (h : H' x = none) : H x = none := by
  cases q : H x with
  | none => rfl
  | some o =>
    obtain ⟨o', h'⟩ := e x o q
    rw [h] at h'
    cases h'
theorem But.ex {a : Addr} {H H' : Hp} {o : HO} (h : But a H H') (ha : H' a = some o) : Ex H H' := fun x u hx => by
  by_cases e : x = a
  · subst e
    exact ⟨o, ha⟩
  · exact ⟨u, h x u hx e⟩
theorem But.trans {a : Addr} {H H1 H2 : Hp} (h : But a H H1) (h' : But a H1 H2) : But a H H2 := fun x o e n => h' x o (h x o e n) n
theorem But.same {a : Addr} {H H1 : Hp} (h : Same H H1) : But a H H1 := fun x o e _ => h x o e
theorem But.new {a p : Addr} {H H1 : Hp} {o : HO} (h : But a H H1) (hp : H1 p = none) : But a H (L2.upd H1 p o) := h.trans (But.same (same_new hp))
def machG (mv : Addr) (z : Bool) (c : Client) (rq : V) (bt : Addr) : List (Str × V) := [("side", nV (zn z)), ("epoch", nV c.epoch), ("on", .bl c.on), ("moves", .ref mv), ("next_request", nV c.nextId), ("request", rq), ("learned", nV c.learned), ("banks", .ref bt), ("result", nV c.over)]
def houseG (lg st : Addr) (s : State) : List (Str × V) := [("log", .ref lg), ("result", nV s.over), ("runs", .bl s.running), ("since", nV s.since), ("increment", nV s.inc), ("lag", nV s.lag), ("seats", .ref st)]
def sp_K_Net (C : Cs) (K : PySem.W.Frag) : Sp := fun vv H Q _ => ∃ (a : Addr) (dx : Addr), vv = [.ref a] ∧ (H a = some (.ins C.net dx [])) ∧ (∀ H' w, H' a = some (.ins C.net dx [("waiting", .ref w), ("next_number", .int 1), ("lost", .int 0)]) → H' w = some (.dK []) → H w = none → But a H H' → Q .non H')
theorem ok_K_Net (T : Txt K mg C) : KB P w K mg base "Net" C.net 1 p_K_Net (sp_K_Net C K) := by
  have sc := sc_K_Net
  refine KB.of T.f_K_Net sc ba_K_Net (fun vv H Q E h => ?_) (fun fn cdv A0 outer s0 H vv Q E hr h => ?_)
  · obtain ⟨_, _, rfl, _⟩ := h
    rfl
  · obtain ⟨a, dx, rfl, ha, k⟩ := h
    refine ⟨_, (pss_cons (ps_fld (pv 0) pe_dnewK rfl)
      (pss_cons (ps_fld (pv 0) pe_int rfl)
      (pss_one (ps_fld (pv 0) pe_int rfl)))), ?_⟩
    walk_at "go"
    rename_i p hp
    have hpa : a ≠ p := ne_of_none ha hp
    dsimp only
    rw [upd_upd, upd_upd]
    exact k _ p upd_same (by rw [upd_ne hpa.symm, upd_same]) hp (but_upd (But.new but_refl hp))
theorem upd_none {H : Hp} {a x : Addr} {o : HO} (h : L2.upd H a o x = none) : H x = none := Ex.none Ex.upd h
theorem upd_nene {H : Hp} {a x : Addr} {o : HO} (h : L2.upd H a o x = none) : x ≠ a := fun e => by
  rw [e, upd_same] at h
  cases h
def sp_K_Machine (C : Cs) (K : PySem.W.Frag) : Sp := fun vv H Q _ => ∃ (a : Addr) (dx : Addr) (z : Bool) (e : Nat), vv = [.ref a, nV (zn z), nV e] ∧ (H a = some (.ins C.mach dx [])) ∧ (∀ H' mv bt, H' a = some (.ins C.mach dx (machG mv z { epoch := e } .non bt)) → H' mv = some (.lst []) → H' bt = some (.tup [.int 0, .int 0]) → H mv = none → H bt = none → mv ≠ bt → But a H H' → Q .non H')
theorem ok_K_Machine (T : Txt K mg C) : KB P w K mg base "Machine" C.mach 1 p_K_Machine (sp_K_Machine C K) := by
  have sc := sc_K_Machine
  refine KB.of T.f_K_Machine sc ba_K_Machine (fun vv H Q E h => ?_) (fun fn cdv A0 outer s0 H vv Q E hr h => ?_)
  · obtain ⟨_, _, _, _, rfl, _⟩ := h
    rfl
  · obtain ⟨a, dx, z, e, rfl, ha, k⟩ := h
    refine ⟨_, (pss_cons (ps_fld (pv 0) (pv 1) rfl)
      (pss_cons (ps_fld (pv 0) (pv 2) rfl)
      (pss_cons (ps_fld (pv 0) pe_bl rfl)
      (pss_cons (ps_fld (pv 0) (pe_lst pa_nil) rfl)
      (pss_cons (ps_fld (pv 0) pe_int rfl)
      (pss_cons (ps_fld (pv 0) pe_non rfl)
      (pss_cons (ps_fld (pv 0) pe_int rfl)
      (pss_cons (ps_fld (pv 0) (pe_tup (pa_cons pe_int (pa_cons pe_int pa_nil))) rfl)
      (pss_one (ps_fld (pv 0) pe_int rfl)))))))))), ?_⟩
    walk_at "go"
    rename_i mv hmv bt hbt
    dsimp only
    have n1 : mv ≠ a := upd_nene hmv
    have m0 : H mv = none := upd_none (upd_none (upd_none hmv))
    have n2 : bt ≠ a := upd_nene hbt
    have b1 := upd_none (upd_none (upd_none (upd_none hbt)))
    have n3 : bt ≠ mv := upd_nene b1
    have b0 : H bt = none := upd_none (upd_none (upd_none (upd_none b1)))
    refine k _ mv bt upd_same ?_ ?_ m0 b0 n3.symm ?_
    · simp only [upd_ne n1, upd_ne n3.symm, upd_same]
    · simp only [upd_ne n2, upd_same]
    · repeat (first | exact but_refl | apply but_upd | (refine But.new ?_ (by assumption)))
def sp_K_House (C : Cs) (K : PySem.W.Frag) : Sp := fun vv H Q _ => ∃ (a : Addr) (dx : Addr) (b0 : Nat) (b1 : Nat) (inc : Nat) (lag : Nat), vv = [.ref a, nV b0, nV b1, nV inc, nV lag] ∧ (H a = some (.ins C.house dx [])) ∧ (∀ H' lg st s0 d0 s1 d1, H' a = some (.ins C.house dx (houseG lg st { inc := inc, lag := lag })) → H' lg = some (.lst []) → H' st = some (.lst [.ref s0, .ref s1]) → H' s0 = some (.ins C.seat d0 (seatF { bank := b0 })) → H' s1 = some (.ins C.seat d1 (seatF { bank := b1 })) → ([lg, st, s0, s1] : List Addr).Nodup → (∀ x ∈ ([lg, st, s0, s1] : List Addr), H x = none) → But a H H' → Q .non H')
theorem ok_K_House (T : Txt K mg C) : KB P w K mg base "House" C.house 3 p_K_House (sp_K_House C K) := by
  have K_Seat := ok_K_Seat (P := P) (w := w) (base := base) T
  have sc := sc_K_House
  refine KB.of T.f_K_House sc ba_K_House (fun vv H Q E h => ?_) (fun fn cdv A0 outer s0 H vv Q E hr h => ?_)
  · obtain ⟨_, _, _, _, _, _, rfl, _⟩ := h
    rfl
  · obtain ⟨a, dx, b0, b1, inc, lag, rfl, ha, k⟩ := h
    refine ⟨_, (pss_cons (ps_fld (pv 0) (pe_lst pa_nil) rfl)
      (pss_cons (ps_fld (pv 0) (pe_gi T.g_GOES_ON rfl) rfl)
      (pss_cons (ps_fld (pv 0) pe_bl rfl)
      (pss_cons (ps_fld (pv 0) pe_int rfl)
      (pss_cons (ps_fld (pv 0) (pv 3) rfl)
      (pss_cons (ps_fld (pv 0) (pv 4) rfl)
      (pss_one (ps_fld (pv 0) (pe_lst (pa_cons (pe_k K_Seat (hr.mono (by decide)) rfl (pa_cons (pv 1) pa_nil)) (pa_cons (pe_k K_Seat (hr.mono (by decide)) rfl (pa_cons (pv 2) pa_nil)) pa_nil))) rfl)))))))), ?_⟩
    walk_at "go"
    rename_i lg hlg s0 d0 n0 m0 e0
    refine ⟨s0, d0, b0, rfl, upd_same, fun H2 h2 b2 => ⟨rfl, ?_⟩⟩
    have ss2 := Same.made n0 m0 b2
    walk_at "go"
    rename_i s1 d1 n1 m1 e1
    refine ⟨s1, d1, b1, rfl, upd_same, fun H3 h3 b3 => ⟨rfl, ?_⟩⟩
    have ss3 := Same.made n1 m1 b3
    have a3 := ss3 _ _ (ss2 _ _ upd_same)
    walk_at "go"
    rename_i st hst
    have nla : lg ≠ a := (ne_of_none ha hlg).symm
    have l2 : H2 lg = some (.lst []) := ss2 _ _ (by simp only [upd_ne nla, upd_same])
    have l3 := ss3 _ _ l2
    have h2' := ss3 _ _ h2
    have x1 : s1 ≠ s0 := (ne_of_none h2 n1).symm
    have x2 : s1 ≠ lg := (ne_of_none l2 n1).symm
    have x3 : s0 ≠ lg := fun e => by rw [e] at n0; simp only [upd_ne nla, upd_same] at n0; cases n0
    have y1 : st ≠ lg := (ne_of_none l3 hst).symm
    have y2 : st ≠ s0 := (ne_of_none h2' hst).symm
    have y3 : st ≠ s1 := (ne_of_none h3 hst).symm
    have z0 : s0 ≠ a := upd_nene n0
    have z1 : s1 ≠ a := (ne_of_none (ss2 _ _ upd_same) n1).symm
    have z2 : st ≠ a := (ne_of_none a3 hst).symm
    have u0 : H s0 = none := by
      have := upd_none (upd_none (upd_none (upd_none (upd_none (upd_none (upd_none n0))))))
      exact this
    have u1 : H s1 = none := by
      have := upd_none (upd_none (upd_none (upd_none (upd_none (upd_none (upd_none (ss2.free n1)))))))
      exact this
    have u2 : H st = none := by
      have := upd_none (upd_none (upd_none (upd_none (upd_none (upd_none (upd_none (ss2.free (ss3.free hst))))))))
      exact this
    refine k _ lg st s0 d0 s1 d1 upd_same ?_ ?_ ?_ ?_ ?_ ?_ ?_
    · rw [upd_ne nla, upd_ne y1.symm]
      exact l3
    · rw [upd_ne z2, upd_same]
    · rw [upd_ne z0, upd_ne y2.symm]
      exact h2'
    · rw [upd_ne z1, upd_ne y3.symm]
      exact h3
    · simp [y1.symm, x3.symm, x2.symm, y2, y3, x1.symm]
    · intro x hx
      simp at hx
      rcases hx with rfl | rfl | rfl | rfl
      · exact hlg
      · exact u2
      · exact u0
      · exact u1
    · refine but_upd (But.new ?_ hst)
      refine But.trans ?_ (But.same (ss2.trans ss3))
      repeat (first | exact but_refl | apply but_upd | (refine But.new ?_ (by assumption)))
def Trk (X : Hp) (l : List Addr) : Prop := ∀ y ∈ l, ∃ o, X y = some o
theorem Trk.ex {X Y : Hp} {l : List Addr} (h : Trk X l) (e : Ex X Y) : Trk Y l := fun y hy => by
  obtain ⟨o, q⟩ := h y hy
  exact e y o q
theorem Trk.cons {X : Hp} {l : List Addr} {x : Addr} {o : HO} (h : Trk X l) (e : X x = some o) : Trk X (x :: l) := fun y hy => by
  rcases List.mem_cons.mp hy with rfl | hy
  · exact ⟨o, e⟩
  · exact h y hy
theorem nd_new {X : Hp} {l : List Addr} {x : Addr} (h : Trk X l) (n : l.Nodup) (e : X x = none) : (x :: l).Nodup := by
  refine List.nodup_cons.mpr ⟨fun m => ?_, n⟩
  obtain ⟨o, q⟩ := h x m
  rw [e] at q
  cases q
theorem nd_app {X : Hp} {l k : List Addr} (h : Trk X l) (n : l.Nodup) (nk : k.Nodup) (e : ∀ x ∈ k, X x = none) : (k ++ l).Nodup := by
  refine List.nodup_append.mpr ⟨nk, n, fun x hx y hy q => ?_⟩
  subst q
  obtain ⟨o, q⟩ := h x hy
  rw [e x hx] at q
  cases q
def cix : Cell → Nat
  | .wait => 0 | .net => 1 | .machs => 2 | .moves false => 3 | .mach false => 4 | .moves true => 5 | .mach true => 6 | .log => 7 | .seats => 8 | .seat true => 9 | .seat false => 10 | .house => 11 | .table => 12
def uix : Nat → Cell
  | 0 => .wait | 1 => .net | 2 => .machs | 3 => .moves false | 4 => .mach false | 5 => .moves true | 6 => .mach true | 7 => .log | 8 => .seats | 9 => .seat true | 10 => .seat false | 11 => .house | _ => .table
theorem uix_cix (c : Cell) : uix (cix c) = c := by
  cases c with
  | seat z => cases z <;> rfl
  | mach z => cases z <;> rfl
  | moves z => cases z <;> rfl
  | _ => rfl
theorem cix_inj (c d : Cell) (h : cix c = cix d) : c = d := by rw [← uix_cix c, h, uix_cix d]
def mkAd (av : Addr → Prop) (a dx h dh lg st s0 d0 s1 d1 m0 e0 v0 m1 e1 v1 ms nt dn w : Addr) : Ad where
  av := av
  at_ := fun c => match c with
    | .wait => w | .net => nt | .machs => ms | .moves false => v1 | .mach false => m1 | .moves true => v0 | .mach true => m0 | .log => lg | .seats => st | .seat true => s0 | .seat false => s1 | .house => h | .table => a
  dx := fun c => match c with
    | .net => dn | .mach false => e1 | .mach true => e0 | .seat true => d0 | .seat false => d1 | .house => dh | .table => dx | _ => 0
theorem mkAd_inj {av : Addr → Prop} {a dx h dh lg st s0 d0 s1 d1 m0 e0 v0 m1 e1 v1 ms nt dn w : Addr} (nd : ([w, nt, ms, v1, m1, v0, m0, lg, st, s0, s1, h, a] : List Addr).Nodup) (c d : Cell)
    (e : (mkAd av a dx h dh lg st s0 d0 s1 d1 m0 e0 v0 m1 e1 v1 ms nt dn w).at_ c = (mkAd av a dx h dh lg st s0 d0 s1 d1 m0 e0 v0 m1 e1 v1 ms nt dn w).at_ d) : c = d := by
  have key : ∀ c : Cell, ([w, nt, ms, v1, m1, v0, m0, lg, st, s0, s1, h, a] : List Addr)[cix c]? = some ((mkAd av a dx h dh lg st s0 d0 s1 d1 m0 e0 v0 m1 e1 v1 ms nt dn w).at_ c) := by
    intro c
    cases c with
    | seat z => cases z <;> rfl
    | mach z => cases z <;> rfl
    | moves z => cases z <;> rfl
    | _ => rfl
  exact cix_inj c d (nd_ix nd (key c) (by rw [e]; exact key d))
def sp_K_Table (C : Cs) (K : PySem.W.Frag) : Sp := fun vv H Q _ => ∃ (a : Addr) (dx : Addr) (b0 : Nat) (b1 : Nat) (inc : Nat) (lag : Nat) (av : (Addr→Prop)), vv = [.ref a, nV b0, nV b1, nV inc, nV lag] ∧ (H a = some (.ins C.table dx [])) ∧ (¬ av a) ∧ (∀ b, av b → ∃ o, H b = some o) ∧ (∀ A G H', TabAt C A G { ready := true, inc := inc, lag := lag, s0 := { bank := b0 }, s1 := { bank := b1 } } H' → A.av = av → A.at_ .table = a → (∀ c, c ≠ .table → H (A.at_ c) = none) → But a H H' → Q .non H')
theorem ok_K_Table (T : Txt K mg C) : KB P w K mg base "Table" C.table 5 p_K_Table (sp_K_Table C K) := by
  have K_House := ok_K_House (P := P) (w := w) (base := base) T
  have K_Machine := ok_K_Machine (P := P) (w := w) (base := base) T
  have K_Net := ok_K_Net (P := P) (w := w) (base := base) T
  have sc := sc_K_Table
  refine KB.of T.f_K_Table sc ba_K_Table (fun vv H Q E h => ?_) (fun fn cdv A0 outer s0 H vv Q E hr h => ?_)
  · obtain ⟨_, _, _, _, _, _, _, rfl, _⟩ := h
    rfl
  · obtain ⟨a, dx, b0, b1, inc, lag, av, rfl, ha, ava, avt, k⟩ := h
    refine ⟨_, (pss_cons (ps_fld (pv 0) pe_int rfl)
      (pss_cons (ps_fld (pv 0) (pe_k K_House (hr.mono (by decide)) rfl (pa_cons (pv 1) (pa_cons (pv 2) (pa_cons (pv 3) (pa_cons (pv 4) pa_nil))))) rfl)
      (pss_cons (ps_fld (pv 0) (pe_lst (pa_cons (pe_k K_Machine (hr.mono (by decide)) rfl (pa_cons pe_int (pa_cons (pe_gi T.g_FIRST_EPOCH rfl) pa_nil))) (pa_cons (pe_k K_Machine (hr.mono (by decide)) rfl (pa_cons pe_int (pa_cons (pe_gi T.g_FIRST_EPOCH rfl) pa_nil))) pa_nil))) rfl)
      (pss_one (ps_fld (pv 0) (pe_k0 K_Net (hr.mono (by decide)) rfl) rfl))))), ?_⟩
    walk_at "go"
    rename_i h dh nh ndh neh
    refine ⟨h, dh, b0, b1, inc, lag, rfl, upd_same, fun H1 lg st s0 d0 s1 d1 qh qlg qst q0 q1 ndg frg bh => ⟨rfl, ?_⟩⟩
    have ss1 := Same.made nh ndh bh
    have T0 : Trk (upd H a (HO.ins C.table dx (putF "time" (V.int 0) []))) [a] := fun y hy => by
      rw [List.mem_singleton.mp hy]
      exact ⟨_, upd_same⟩
    have N1 := nd_new T0 (by simp) nh
    have T1 : Trk _ [h, a] := Trk.cons (T0.ex (Ex.trans Ex.upd Ex.upd)) (upd_same (H := upd (upd H a (HO.ins C.table dx (putF "time" (V.int 0) []))) dh (HO.own h)) (a := h) (o := HO.ins C.house dh []))
    have N2 := nd_app T1 N1 ndg frg
    have T2 : Trk H1 [lg, st, s0, s1, h, a] := Trk.cons (Trk.cons (Trk.cons (Trk.cons (Trk.cons (T0.ex (Ex.same ss1)) qh) q1) q0) qst) qlg
    have a1 := ss1 _ _ (upd_same (H := H) (a := a) (o := HO.ins C.table dx (putF "time" (V.int 0) [])))
    walk_at "go"
    rename_i m0 e0 nm0 ndm0 nem0
    refine ⟨m0, e0, true, 1, rfl, upd_same, fun H2 v0 t0 qm0 qv0 qt0 fv0 ft0 _ bm0 => ⟨rfl, ?_⟩⟩
    have ss2 := Same.made nm0 ndm0 bm0
    walk_at "go"
    rename_i m1 e1 nm1 ndm1 nem1
    refine ⟨m1, e1, false, 1, rfl, upd_same, fun H3 v1 t1 qm1 qv1 qt1 fv1 ft1 _ bm1 => ⟨rfl, ?_⟩⟩
    have ss3 := Same.made nm1 ndm1 bm1
    have a3 := ss3 _ _ (ss2 _ _ upd_same)
    walk_at "go"
    rename_i ms hms nt dn nnt ndnt nent
    refine ⟨nt, dn, rfl, upd_same, fun H5 w qnt qw fw bnt => ⟨rfl, ?_⟩⟩
    have ss5 := Same.made nnt ndnt bnt
    have a5 := ss5 _ _ upd_same
    walk_at "go"
    have T2' := T2.ex (Ex.upd (a := a) (o := HO.ins C.table dx (putF "house" (V.ref h) (putF "time" (V.int 0) []))))
    have N3 := nd_new T2' N2 nm0
    have T3 := Trk.cons (T2'.ex (Ex.trans (Ex.upd (a := e0) (o := HO.own m0)) (Ex.upd (a := m0) (o := HO.ins C.mach e0 [])))) upd_same
    have N4 := nd_new T3 N3 fv0
    have T4 : Trk H2 [v0, m0, lg, st, s0, s1, h, a] := Trk.cons (Trk.cons (T2'.ex (Ex.same ss2)) qm0) qv0
    have N5 := nd_new T4 N4 nm1
    have T5 := Trk.cons (T4.ex (Ex.trans (Ex.upd (a := e1) (o := HO.own m1)) (Ex.upd (a := m1) (o := HO.ins C.mach e1 [])))) upd_same
    have N6 := nd_new T5 N5 fv1
    have T6 : Trk H3 [v1, m1, v0, m0, lg, st, s0, s1, h, a] := Trk.cons (Trk.cons (T4.ex (Ex.same ss3)) qm1) qv1
    have N7 := nd_new T6 N6 hms
    have T7 := (Trk.cons (T6.ex (Ex.upd (a := ms) (o := HO.lst [V.ref m0, V.ref m1]))) upd_same).ex (Ex.upd (a := a) (o := HO.ins C.table dx (putF "machines" (V.ref ms) (putF "house" (V.ref h) (putF "time" (V.int 0) [])))))
    have N8 := nd_new T7 N7 nnt
    have T8 := Trk.cons (T7.ex (Ex.trans (Ex.upd (a := dn) (o := HO.own nt)) (Ex.upd (a := nt) (o := HO.ins C.net dn [])))) upd_same
    have N9 := nd_new T8 N8 fw
    have ne_a : ∀ (i : Nat) (x : Addr), ([w, nt, ms, v1, m1, v0, m0, lg, st, s0, s1, h, a] : List Addr)[i]? = some x → i ≠ 12 → x ≠ a := fun i x e n q => n (nd_ix N9 e (by rw [q]; rfl))
    have up5 : ∀ x o, x ≠ a → H5 x = some o → upd H5 a (HO.ins C.table dx (putF "net" (V.ref nt) (putF "machines" (V.ref ms) (putF "house" (V.ref h) (putF "time" (V.int 0) []))))) x = some o := fun x o n e => by rw [upd_ne n]; exact e
    have up3 : ∀ x o, x ≠ a → H3 x = some o → H5 x = some o := fun x o n e => ss5 _ _ (by rw [upd_ne n]; exact same_new hms _ _ e)
    have up1 : ∀ x o, x ≠ a → H1 x = some o → H3 x = some o := fun x o n e => ss3 _ _ (ss2 _ _ (by rw [upd_ne n]; exact e))
    have bk1 : ∀ x, H1 x = none → H x = none := fun x e => upd_none (ss1.free e)
    have bk2 : ∀ x, H2 x = none → H x = none := fun x e => bk1 x (upd_none (ss2.free e))
    have bk3 : ∀ x, H3 x = none → H x = none := fun x e => bk2 x (ss3.free e)
    have frs : ∀ c, c ≠ .table → H ((mkAd av a dx h dh lg st s0 d0 s1 d1 m0 e0 v0 m1 e1 v1 ms nt dn w).at_ c) = none := by
      intro c hc
      cases c with
      | table => exact absurd rfl hc
      | house => exact upd_none nh
      | net => exact bk3 _ (upd_none (upd_none nnt))
      | wait => exact bk3 _ (upd_none (upd_none (upd_none (upd_none fw))))
      | log => exact upd_none (upd_none (upd_none (frg lg (by simp))))
      | seats => exact upd_none (upd_none (upd_none (frg st (by simp))))
      | machs => exact bk3 _ hms
      | seat z => cases z with
        | true => exact upd_none (upd_none (upd_none (frg s0 (by simp))))
        | false => exact upd_none (upd_none (upd_none (frg s1 (by simp))))
      | mach z => cases z with
        | true => exact bk1 _ (upd_none nm0)
        | false => exact bk2 _ nm1
      | moves z => cases z with
        | true => exact bk1 _ (upd_none (upd_none (upd_none fv0)))
        | false => exact bk2 _ (upd_none (upd_none fv1))
    have bta : But a H (upd H5 a (HO.ins C.table dx (putF "net" (V.ref nt) (putF "machines" (V.ref ms) (putF "house" (V.ref h) (putF "time" (V.int 0) [])))))) := but_upd ((but_upd (But.new ((but_upd ((but_upd but_refl).trans (But.same ss1))).trans (But.same (ss2.trans ss3))) hms)).trans (But.same ss5))
    refine k (mkAd av a dx h dh lg st s0 d0 s1 d1 m0 e0 v0 m1 e1 v1 ms nt dn w) ⟨[], fun _ => .non, fun z => match z with | true => t0 | false => t1⟩ _ ?_ rfl rfl frs bta
    · have cells : ∀ c, upd H5 a (HO.ins C.table dx (putF "net" (V.ref nt) (putF "machines" (V.ref ms) (putF "house" (V.ref h) (putF "time" (V.int 0) []))))) ((mkAd av a dx h dh lg st s0 d0 s1 d1 m0 e0 v0 m1 e1 v1 ms nt dn w).at_ c) = some (obj C (mkAd av a dx h dh lg st s0 d0 s1 d1 m0 e0 v0 m1 e1 v1 ms nt dn w) ⟨[], fun _ => .non, fun z => match z with | true => t0 | false => t1⟩ { ready := true, inc := inc, lag := lag, s0 := { bank := b0 }, s1 := { bank := b1 } } c) := by
        intro c
        cases c with
        | table => exact upd_same
        | house => exact up5 _ _ (ne_a 11 _ rfl (by decide)) (up3 _ _ (ne_a 11 _ rfl (by decide)) (up1 _ _ (ne_a 11 _ rfl (by decide)) qh))
        | net => exact up5 _ _ (ne_a 1 _ rfl (by decide)) qnt
        | wait => exact up5 _ _ (ne_a 0 _ rfl (by decide)) qw
        | log => exact up5 _ _ (ne_a 7 _ rfl (by decide)) (up3 _ _ (ne_a 7 _ rfl (by decide)) (up1 _ _ (ne_a 7 _ rfl (by decide)) qlg))
        | seats => exact up5 _ _ (ne_a 8 _ rfl (by decide)) (up3 _ _ (ne_a 8 _ rfl (by decide)) (up1 _ _ (ne_a 8 _ rfl (by decide)) qst))
        | machs => exact up5 _ _ (ne_a 2 _ rfl (by decide)) (ss5 ms _ ((upd_ne (ne_a 2 ms rfl (by decide))).trans upd_same))
        | seat z => cases z with
          | true => exact up5 _ _ (ne_a 9 _ rfl (by decide)) (up3 _ _ (ne_a 9 _ rfl (by decide)) (up1 _ _ (ne_a 9 _ rfl (by decide)) q0))
          | false => exact up5 _ _ (ne_a 10 _ rfl (by decide)) (up3 _ _ (ne_a 10 _ rfl (by decide)) (up1 _ _ (ne_a 10 _ rfl (by decide)) q1))
        | mach z => cases z with
          | true => exact up5 _ _ (ne_a 6 _ rfl (by decide)) (up3 _ _ (ne_a 6 _ rfl (by decide)) (ss3 _ _ qm0))
          | false => exact up5 _ _ (ne_a 4 _ rfl (by decide)) (up3 _ _ (ne_a 4 _ rfl (by decide)) qm1)
        | moves z => cases z with
          | true => exact up5 _ _ (ne_a 5 _ rfl (by decide)) (up3 _ _ (ne_a 5 _ rfl (by decide)) (ss3 _ _ qv0))
          | false => exact up5 _ _ (ne_a 3 _ rfl (by decide)) (up3 _ _ (ne_a 3 _ rfl (by decide)) qv1)
      have nt0 : t0 ≠ a := (ne_of_none (upd_old ndm0 upd_same) (upd_none ft0)).symm
      have nt1 : t1 ≠ a := (ne_of_none (ss2 _ _ upd_same) (upd_none (upd_none ft1))).symm
      have tt : ∀ x, upd H5 a (HO.ins C.table dx (putF "net" (V.ref nt) (putF "machines" (V.ref ms) (putF "house" (V.ref h) (putF "time" (V.int 0) []))))) x = some (HO.tup [V.int 0, V.int 0]) → ∀ c, x ≠ (mkAd av a dx h dh lg st s0 d0 s1 d1 m0 e0 v0 m1 e1 v1 ms nt dn w).at_ c := fun x e c q => by
        rw [q, cells c] at e
        cases c <;> cases e
      have nav : ∀ x, H x = none → ¬ av x := fun x e q => by
        obtain ⟨o, w⟩ := avt x q
        rw [e] at w
        cases w
      refine ⟨mkAd_inj N9, fun c => ?_, fun b hb => ?_, cells, fun z => by cases z <;> rfl, fun z => ?_, .nil⟩
      · by_cases hc : c = .table
        · rw [hc]
          exact ava
        · exact nav _ (frs c hc)
      · obtain ⟨o, w⟩ := avt b hb
        exact ⟨o, bta b o w (fun q => ava (by rw [← q]; exact hb))⟩
      cases z with
      | true =>
        have := up5 t0 _ nt0 (up3 _ _ nt0 (ss3 _ _ qt0))
        exact ⟨⟨tt _ this, nav _ (bk1 _ (upd_none (upd_none (upd_none ft0))))⟩, this⟩
      | false =>
        have := up5 t1 _ nt1 (up3 _ _ nt1 qt1)
        exact ⟨⟨tt _ this, nav _ (bk2 _ (upd_none (upd_none ft1)))⟩, this⟩
def sp_M_Table_arrive (C : Cs) (K : PySem.W.Frag) : Sp := fun vv H Q _ => ∃ (A : Ad) (G : Gh) (s : State) (m : Msg) (v : V), vv = [.ref (A.at_ .table), v] ∧ (TabAt C A G s H) ∧ (Ok s) ∧ (MsgOk s.c0.epoch s.c1.epoch s.log.length m) ∧ (MsgAt C A H v m) ∧ (∀ G' H', TabAt C A G' (Vbdcas.arrive s m) H' → Frm A H H' → Q .non H')
theorem ok_M_Table_arrive (T : Txt K mg C) : MB P w K mg base C.table "arrive" 6 p_M_Table_arrive (sp_M_Table_arrive C K) := by
  have M_Machine_take_news := ok_M_Machine_take_news (P := P) (w := w) (base := base) T
  have M_House_arrive := ok_M_House_arrive (P := P) (w := w) (base := base) T
  have sc := sc_M_Table_arrive
  refine MB.of T.f_M_Table_arrive T.c_Table sc ba_M_Table_arrive (fun vv H Q E h => ?_) (fun fn cdv A0 outer s0 H vv Q E hr h => ?_)
  · obtain ⟨_, _, _, _, _, rfl, _⟩ := h
    rfl
  · obtain ⟨A, G, s, m, v, rfl, hT, hO, hm, hv, k⟩ := h
    refine ⟨_, (pss_one (ps_if (pt_cmpR op_eq (pe_fld (pv 1) rfl) (pe_gi T.g_NEWS rfl) (nomark _)) (pss_one (ps_expr (pe_m M_Machine_take_news (hr.mono (by decide)) (pe_ix ix_list (pe_fld (pv 0) rfl) (pe_fld (pv 1) rfl) (fun _ _ => rfl)) (pa_cons (pv 1) (pa_cons (pe_fld (pv 0) rfl) (pa_cons (pe_fld (pv 0) rfl) pa_nil)))))) (pss_one (ps_expr (pe_m M_House_arrive (hr.mono (by decide)) (pe_fld (pv 0) rfl) (pa_cons (pv 1) (pa_cons (pe_fld (pv 0) rfl) (pa_cons (pe_fld (pv 0) rfl) pa_nil)))))))), ?_⟩
    cases m with
    | news p e f ms hd b0 b1 ov =>
      obtain ⟨a, dx, l, t, rfl, hq, hl, ht⟩ := hv
      have hq0 := hq.2
      have hp : p < 2 := hm.1
      walk_at "go"
      refine ite2 (fun _ => ?_) (fun h1 => absurd rfl h1)
      walk_at "go"
      have ez := zn_zb hp
      refine ⟨A, G, s, zb p, a, dx, e, f, l, ms, hd, t, b0, b1, ov, rfl, hT, hO, hm.2, by rw [ez]; exact hq, hl, ht, fun G' H' t' f' => k G' H' ?_ f'⟩
      rw [ez] at t'
      exact t'
    | hello p e =>
      have hv' := hv
      obtain ⟨a, dx, rfl, hq⟩ := hv'
      have hq0 := hq.2
      walk_at "go"
      refine ite2 (fun h1 => absurd h1 (by decide)) (fun _ => ?_)
      walk_at "go"
      exact ⟨A, G, s, _, _, rfl, hT, hO, hm, (fun _ _ _ _ _ _ _ _ => by simp), hv, k⟩
    | req p e id ply mv th =>
      have hv' := hv
      obtain ⟨a, dx, rfl, hq⟩ := hv'
      have hq0 := hq.2
      walk_at "go"
      refine ite2 (fun h1 => absurd h1 (by decide)) (fun _ => ?_)
      walk_at "go"
      exact ⟨A, G, s, _, _, rfl, hT, hO, hm, (fun _ _ _ _ _ _ _ _ => by simp), hv, k⟩
    | ack p e n =>
      have hv' := hv
      obtain ⟨a, dx, rfl, hq⟩ := hv'
      have hq0 := hq.2
      walk_at "go"
      refine ite2 (fun h1 => absurd h1 (by decide)) (fun _ => ?_)
      walk_at "go"
      exact ⟨A, G, s, _, _, rfl, hT, hO, hm, (fun _ _ _ _ _ _ _ _ => by simp), hv, k⟩
def sp_F_within (C : Cs) (K : PySem.W.Frag) : Sp := fun vv H Q _ => ∃ (i : Int) (lo : Int) (hi : Int), vv = [.int i, .int lo, .int hi] ∧ (True) ∧ (Q (.bl (Vbdcas.from_ i lo hi)) H)
theorem ok_F_within (T : Txt K mg C) : FB P w K mg base "within" 1 p_F_within (sp_F_within C K) := by
  have sc := sc_F_within
  refine FB.of T.f_F_within sc ba_F_within (fun vv H Q E h => ?_) (fun fn cdv A0 outer s0 H vv Q E hr h => ?_)
  · obtain ⟨_, _, _, rfl, _⟩ := h
    rfl
  · obtain ⟨i, lo, hi, rfl, _h, k⟩ := h
    refine ⟨_, (pss_one (ps_ret (pe_and (pe_cmpR op_le (pv 1) (pv 0) (nomark _)) (pe_one (pe_cmpR op_le (pv 0) (pv 2) (nomark _)))))), ?_⟩
    walk_at "go"
    have e : Vbdcas.from_ i lo hi = (decide (lo ≤ i) && decide (i ≤ hi)) := by unfold Vbdcas.from_; simp
    rw [e] at k
    refine ite2 (fun h1 => ?_) (fun h1 => ?_)
    · walk_at "go"
      rw [h1, Bool.true_and] at k
      exact k
    · have h1' : decide (lo ≤ i) = false := by simpa using h1
      rw [h1', Bool.false_and] at k
      exact k
def sp_F_is_side (C : Cs) (K : PySem.W.Frag) : Sp := fun vv H Q _ => ∃ (i : Int), vv = [.int i] ∧ (True) ∧ (Q (.bl (Vbdcas.from_ i 0 1)) H)
theorem ok_F_is_side (T : Txt K mg C) : FB P w K mg base "is_side" 2 p_F_is_side (sp_F_is_side C K) := by
  have F_within := ok_F_within (P := P) (w := w) (base := base) T
  have sc := sc_F_is_side
  refine FB.of T.f_F_is_side sc ba_F_is_side (fun vv H Q E h => ?_) (fun fn cdv A0 outer s0 H vv Q E hr h => ?_)
  · obtain ⟨_, rfl, _⟩ := h
    rfl
  · obtain ⟨i, rfl, _h, k⟩ := h
    refine ⟨_, (pss_one (ps_ret (pe_f F_within (hr.mono (by decide)) rfl (pa_cons (pv 0) (pa_cons pe_int (pa_cons pe_int pa_nil)))))), ?_⟩
    walk_at "go"
    exact ⟨i, 0, 1, rfl, trivial, k⟩
def Fits (b0 b1 inc lag : Int) : Prop := Vbdcas.from_ b0 1 1000000000 = true ∧ Vbdcas.from_ b1 1 1000000000 = true ∧ Vbdcas.from_ inc 0 1000000 = true ∧ Vbdcas.from_ lag 0 100000 = true
theorem from_nat {i lo hi : Int} (h : Vbdcas.from_ i lo hi = true) (h0 : 0 ≤ lo) : i = ((i.toNat : Nat) : Int) ∧ lo ≤ i ∧ i ≤ hi := by
  unfold Vbdcas.from_ at h
  have := of_decide_eq_true h
  omega
def sp_F_new_table (C : Cs) (K : PySem.W.Frag) : Sp := fun vv H Q _ => ∃ (b0 : Int) (b1 : Int) (inc : Int) (lag : Int) (av : (Addr→Prop)), vv = [.int b0, .int b1, .int inc, .int lag] ∧ (∀ b, av b → ∃ o, H b = some o) ∧ ((¬ Fits b0 b1 inc lag → Q .non H) ∧ (Fits b0 b1 inc lag → ∀ A G H', TabAt C A G { ready := true, inc := inc.toNat, lag := lag.toNat, s0 := { bank := b0.toNat }, s1 := { bank := b1.toNat } } H' → A.av = av → (∀ c, H (A.at_ c) = none) → Same H H' → Q (.ref (A.at_ .table)) H'))
theorem ok_F_new_table (T : Txt K mg C) : FB P w K mg base "new_table" 7 p_F_new_table (sp_F_new_table C K) := by
  have F_within := ok_F_within (P := P) (w := w) (base := base) T
  have K_Table := ok_K_Table (P := P) (w := w) (base := base) T
  have sc := sc_F_new_table
  refine FB.of T.f_F_new_table sc ba_F_new_table (fun vv H Q E h => ?_) (fun fn cdv A0 outer s0 H vv Q E hr h => ?_)
  · obtain ⟨_, _, _, _, _, rfl, _⟩ := h
    rfl
  · obtain ⟨b0, b1, inc, lag, av, rfl, avt, k⟩ := h
    refine ⟨_, (pss_cons (ps_if (PW.pt (pw_or (pt_not (pt_val (pe_f F_within (hr.mono (by decide)) rfl (pa_cons (pv 0) (pa_cons pe_int (pa_cons (pe_gi T.g_MOST_BANK rfl) pa_nil)))))) (pw_or1 (pt_not (pt_val (pe_f F_within (hr.mono (by decide)) rfl (pa_cons (pv 1) (pa_cons pe_int (pa_cons (pe_gi T.g_MOST_BANK rfl) pa_nil))))))))) (pss_one (ps_ret pe_non)) pss_nil)
      (pss_cons (ps_if (PW.pt (pw_or (pt_not (pt_val (pe_f F_within (hr.mono (by decide)) rfl (pa_cons (pv 2) (pa_cons pe_int (pa_cons (pe_gi T.g_MOST_INCREMENT rfl) pa_nil)))))) (pw_or1 (pt_not (pt_val (pe_f F_within (hr.mono (by decide)) rfl (pa_cons (pv 3) (pa_cons pe_int (pa_cons (pe_gi T.g_MOST_LAG rfl) pa_nil))))))))) (pss_one (ps_ret pe_non)) pss_nil)
      (pss_one (ps_ret (pe_k K_Table (hr.mono (by decide)) rfl (pa_cons (pv 0) (pa_cons (pv 1) (pa_cons (pv 2) (pa_cons (pv 3) pa_nil))))))))), ?_⟩
    walk_at "go"
    refine ⟨b0, 1, 1000000000, rfl, trivial, ?_⟩
    walk_at "go"
    refine ite2 (fun h1 => ?_) (fun h1 => ?_)
    · walk_at "go"
      exact k.1 fun q => by rw [q.1] at h1; cases h1
    · walk_at "go"
      refine ⟨b1, 1, 1000000000, rfl, trivial, ?_⟩
      walk_at "go"
      refine ite2 (fun h2 => ?_) (fun h2 => ?_)
      · walk_at "go"
        exact k.1 fun q => by rw [q.2.1] at h2; cases h2
      · walk_at "go"
        refine ⟨inc, 0, 1000000, rfl, trivial, ?_⟩
        walk_at "go"
        refine ite2 (fun h3 => ?_) (fun h3 => ?_)
        · walk_at "go"
          exact k.1 fun q => by rw [q.2.2.1] at h3; cases h3
        · walk_at "go"
          refine ⟨lag, 0, 100000, rfl, trivial, ?_⟩
          walk_at "go"
          refine ite2 (fun h4 => ?_) (fun h4 => ?_)
          · walk_at "go"
            exact k.1 fun q => by rw [q.2.2.2] at h4; cases h4
          · have e1 : Vbdcas.from_ b0 1 1000000000 = true := by simpa using h1
            have e2 : Vbdcas.from_ b1 1 1000000000 = true := by simpa using h2
            have e3 : Vbdcas.from_ inc 0 1000000 = true := by simpa using h3
            have e4 : Vbdcas.from_ lag 0 100000 = true := by simpa using h4
            walk_at "go"
            rename_i a dx na nd ne
            refine ⟨a, dx, b0.toNat, b1.toNat, inc.toNat, lag.toNat, av, ?_, upd_same, ?_, ?_, fun A G H' t eav ea fr bt => ⟨rfl, ?_⟩⟩
            · show [V.ref a, V.int b0, V.int b1, V.int inc, V.int lag] = [V.ref a, V.int (b0.toNat : Int), V.int (b1.toNat : Int), V.int (inc.toNat : Int), V.int (lag.toNat : Int)]
              rw [← (from_nat e1 (by decide)).1, ← (from_nat e2 (by decide)).1, ← (from_nat e3 (by decide)).1, ← (from_nat e4 (by decide)).1]
            · intro q
              obtain ⟨o, w⟩ := avt a q
              rw [na] at w
              cases w
            · exact avs_upd (avs_upd avt)
            · rw [← ea]
              refine k.2 ⟨e1, e2, e3, e4⟩ A G H' t eav (fun c => ?_) (Same.made na nd bt)
              by_cases hc : c = .table
              · rw [hc, ea]
                exact na
              · exact upd_none (upd_none (fr c hc))
/-- how the table's places may have moved -/
def Mv (A A' : Ad) (H : Hp) : Prop := (A'.at_ .table = A.at_ .table ∧ A'.av = A.av) ∧ ∀ c, (∃ d, A'.at_ c = A.at_ d) ∨ H (A'.at_ c) = none
theorem Mv.refl {A : Ad} {H : Hp} : Mv A A H := ⟨⟨rfl, rfl⟩, fun c => .inl ⟨c, rfl⟩⟩
/-- what a call on a table gives -/
def Ans (C : Cs) (A : Ad) (H : Hp) (Q : VK) (x : State × List Int) : Prop := ∀ A' G' H' l, TabAt C A' G' x.1 H' → Mv A A' H → Frm A H H' → H' l = some (.lst (x.2.map V.int)) → H l = none → Q (.ref l) H'
theorem Frm.back {A : Ad} {G G' : Gh} {s s' : State} {H H1 : Hp} (hT : TabAt C A G s H) (t : TabAt C A G' s' H1) (f : Frm A H H1) {l : Addr} (hl : H1 l = none) : H l = none := by
  cases q : H l with
  | none => rfl
  | some o =>
    have n : ∀ c, l ≠ A.at_ c := (t.free hl).1
    rw [f l o q n] at hl
    cases hl
theorem Ans.give {A : Ad} {G G' : Gh} {s : State} {H H1 : Hp} {Q : VK} {x : State × List Int} (k : Ans C A H Q x) (hT : TabAt C A G s H) (t : TabAt C A G' x.1 H1) (f : Frm A H H1) {l : Addr} (hl : H1 l = none) {xs : List V} (e : xs = x.2.map V.int) : Q (.ref l) (upd H1 l (.lst xs)) :=
  k A G' _ l (t.new hl) Mv.refl (f.new hl) (by rw [upd_same, e]) (Frm.back hT t f hl)
def sp_F_tick (C : Cs) (K : PySem.W.Frag) : Sp := fun vv H Q _ => ∃ (A : Ad) (G : Gh) (s : State) (i : Int), vv = [.ref (A.at_ .table), .int i] ∧ (TabAt C A G s H) ∧ (Ok s) ∧ (Ans C A H Q (Vbdcas.does s (.tick i)))
theorem ok_F_tick (T : Txt K mg C) : FB P w K mg base "tick" 4 p_F_tick (sp_F_tick C K) := by
  have F_within := ok_F_within (P := P) (w := w) (base := base) T
  have M_House_check_clock := ok_M_House_check_clock (P := P) (w := w) (base := base) T
  have sc := sc_F_tick
  refine FB.of T.f_F_tick sc ba_F_tick (fun vv H Q E h => ?_) (fun fn cdv A0 outer s0 H vv Q E hr h => ?_)
  · obtain ⟨_, _, _, _, rfl, _⟩ := h
    rfl
  · obtain ⟨A, G, s, i, rfl, hT, hO, k⟩ := h
    refine ⟨_, (pss_cons (ps_if (pt_not (pt_val (pe_f F_within (hr.mono (by decide)) rfl (pa_cons (pv 1) (pa_cons pe_int (pa_cons (pe_gi T.g_MOST_MS rfl) pa_nil)))))) (pss_one (ps_ret (pe_lst (pa_cons (pe_gi T.g_OUT_OF_RANGE rfl) pa_nil)))) pss_nil)
      (pss_cons (ps_fldaug (pv 0) (pv 1) in_add)
      (pss_cons (ps_expr (pe_m M_House_check_clock (hr.mono (by decide)) (pe_fld (pv 0) rfl) (pa_cons (pe_fld (pv 0) rfl) pa_nil)))
      (pss_one (ps_ret (pe_lst (pa_cons (pe_gi T.g_DONE rfl) (pa_cons (pe_fld (pv 0) rfl) (pa_cons (pe_fld (pe_fld (pv 0) rfl) rfl) pa_nil))))))))), ?_⟩
    walk_at "go"
    have e : Vbdcas.does s (.tick i) = if Vbdcas.from_ i 0 1000000000 = false then Vbdcas.no s 1 else Vbdcas.yes (Vbdcas.flag { s with now := s.now + i.toNat }) [(Vbdcas.flag { s with now := s.now + i.toNat }).now, (Vbdcas.flag { s with now := s.now + i.toNat }).over] := rfl
    rw [e] at k
    refine ⟨i, 0, 1000000000, rfl, trivial, ?_⟩
    walk_at "go"
    refine ite2 (fun h1 => ?_) (fun h1 => ?_)
    · rw [if_pos (by simpa using h1)] at k
      walk_at "go"
      rename_i l hl
      exact k.give hT hT Frm.refl hl rfl
    · have h1' : Vbdcas.from_ i 0 1000000000 = true := by simpa using h1
      have hi := from_nat h1' (by decide)
      rw [if_neg (by rw [h1']; decide)] at k
      walk_at "go"
      rw [show ((s.now : Int) + i) = ((s.now + i.toNat : Nat) : Int) by omega]
      have t1 := hT.setNow (n := s.now + i.toNat) (fs := putF "time" (nV (s.now + i.toNat)) (tableF A s)) rfl
      have f1 : Frm A H (upd H (A.at_ .table) (.ins C.table (A.dx .table) (putF "time" (nV (s.now + i.toNat)) (tableF A s)))) := Frm.put Frm.refl
      have o1 := hO.tick i.toNat
      walk_at "go"
      refine ⟨A, G, _, rfl, t1, o1, fun H2 t2 f2 => ?_⟩
      walk_at "go"
      rename_i l hl
      exact k.give hT t2 (f1.trans f2) hl rfl
def sp_F_nudge (C : Cs) (K : PySem.W.Frag) : Sp := fun vv H Q _ => ∃ (A : Ad) (G : Gh) (s : State), vv = [.ref (A.at_ .table)] ∧ (TabAt C A G s H) ∧ (Ok s) ∧ (Ans C A H Q (Vbdcas.does s .nudge))
theorem ok_F_nudge (T : Txt K mg C) : FB P w K mg base "nudge" 5 p_F_nudge (sp_F_nudge C K) := by
  have M_House_tell_both := ok_M_House_tell_both (P := P) (w := w) (base := base) T
  have sc := sc_F_nudge
  refine FB.of T.f_F_nudge sc ba_F_nudge (fun vv H Q E h => ?_) (fun fn cdv A0 outer s0 H vv Q E hr h => ?_)
  · obtain ⟨_, _, _, rfl, _⟩ := h
    rfl
  · obtain ⟨A, G, s, rfl, hT, hO, k⟩ := h
    refine ⟨_, (pss_cons (ps_expr (pe_m M_House_tell_both (hr.mono (by decide)) (pe_fld (pv 0) rfl) (pa_cons (pe_fld (pv 0) rfl) pa_nil)))
      (pss_one (ps_ret (pe_lst (pa_cons (pe_gi T.g_DONE rfl) pa_nil))))), ?_⟩
    walk_at "go"
    refine ⟨A, G, s, rfl, hT, hO, fun G1 H1 t1 f1 => ?_⟩
    walk_at "go"
    rename_i l hl
    exact k.give hT t1 f1 hl rfl

def sp_F_again (C : Cs) (K : PySem.W.Frag) : Sp := fun vv H Q _ => ∃ (A : Ad) (G : Gh) (s : State) (i : Int), vv = [.ref (A.at_ .table), .int i] ∧ (TabAt C A G s H) ∧ (Ok s) ∧ (Ans C A H Q (Vbdcas.does s (.again i)))
theorem ok_F_again (T : Txt K mg C) : FB P w K mg base "again" 5 p_F_again (sp_F_again C K) := by
  have F_is_side := ok_F_is_side (P := P) (w := w) (base := base) T
  have M_Machine_timer := ok_M_Machine_timer (P := P) (w := w) (base := base) T
  have sc := sc_F_again
  refine FB.of T.f_F_again sc ba_F_again (fun vv H Q E h => ?_) (fun fn cdv A0 outer s0 H vv Q E hr h => ?_)
  · obtain ⟨_, _, _, _, rfl, _⟩ := h
    rfl
  · obtain ⟨A, G, s, i, rfl, hT, hO, k⟩ := h
    refine ⟨_, (pss_cons (ps_if (pt_not (pt_val (pe_f F_is_side (hr.mono (by decide)) rfl (pa_cons (pv 1) pa_nil)))) (pss_one (ps_ret (pe_lst (pa_cons (pe_gi T.g_OUT_OF_RANGE rfl) pa_nil)))) pss_nil)
      (pss_cons (ps_expr (pe_m M_Machine_timer (hr.mono (by decide)) (pe_ix ix_list (pe_fld (pv 0) rfl) (pv 1) (fun _ _ => rfl)) (pa_cons (pe_fld (pv 0) rfl) pa_nil)))
      (pss_one (ps_ret (pe_lst (pa_cons (pe_gi T.g_DONE rfl) pa_nil)))))), ?_⟩
    walk_at "go"
    have e : Vbdcas.does s (.again i) = if Vbdcas.from_ i 0 1 = false then Vbdcas.no s 1 else Vbdcas.yes (Vbdcas.again s i.toNat) [] := rfl
    rw [e] at k
    refine ⟨i, rfl, trivial, ?_⟩
    walk_at "go"
    refine ite2 (fun h1 => ?_) (fun h1 => ?_)
    · rw [if_pos (by simpa using h1)] at k
      walk_at "go"
      rename_i l hl
      exact k.give hT hT Frm.refl hl rfl
    · have h1' : Vbdcas.from_ i 0 1 = true := by simpa using h1
      have hi := from_nat h1' (by decide)
      rw [if_neg (by rw [h1']; decide)] at k
      have hp : i.toNat < 2 := by omega
      generalize i.toNat = p at *
      obtain ⟨rfl, _⟩ := hi
      walk_at "go"
      refine ⟨A, G, s, zb p, rfl, hT, hO, fun G1 H1 t1 f1 => ?_⟩
      rw [zn_zb hp] at t1
      walk_at "go"
      rename_i l hl
      exact k.give hT t1 f1 hl rfl
def sp_F_drop (C : Cs) (K : PySem.W.Frag) : Sp := fun vv H Q _ => ∃ (A : Ad) (G : Gh) (s : State) (i : Int), vv = [.ref (A.at_ .table), .int i] ∧ (TabAt C A G s H) ∧ (Ok s) ∧ (Ans C A H Q (Vbdcas.does s (.drop i)))
theorem ok_F_drop (T : Txt K mg C) : FB P w K mg base "drop" 2 p_F_drop (sp_F_drop C K) := by
  have M_Net_holds := ok_M_Net_holds (P := P) (w := w) (base := base) T
  have M_Net_take := ok_M_Net_take (P := P) (w := w) (base := base) T
  have sc := sc_F_drop
  refine FB.of T.f_F_drop sc ba_F_drop (fun vv H Q E h => ?_) (fun fn cdv A0 outer s0 H vv Q E hr h => ?_)
  · obtain ⟨_, _, _, _, rfl, _⟩ := h
    rfl
  · obtain ⟨A, G, s, i, rfl, hT, hO, k⟩ := h
    refine ⟨_, (pss_cons (ps_if (pt_not (pt_val (pe_m M_Net_holds (hr.mono (by decide)) (pe_fld (pv 0) rfl) (pa_cons (pv 1) pa_nil)))) (pss_one (ps_ret (pe_lst (pa_cons (pe_gi T.g_NO_SUCH_MESSAGE rfl) pa_nil)))) pss_nil)
      (pss_cons (ps_expr (pe_m M_Net_take (hr.mono (by decide)) (pe_fld (pv 0) rfl) (pa_cons (pv 1) pa_nil)))
      (pss_one (ps_ret (pe_lst (pa_cons (pe_gi T.g_DONE rfl) pa_nil)))))), ?_⟩
    walk_at "go"
    have e : Vbdcas.does s (.drop i) = match Vbdcas.find s i with | none => Vbdcas.no s 2 | some _ => Vbdcas.yes (Vbdcas.without s i) [] := rfl
    rw [e] at k
    refine ⟨A, G, s, i, rfl, hT, ?_⟩
    cases hf : Vbdcas.find s i with
    | none =>
      rw [hf] at k
      dsimp only [Option.isSome]
      walk_at "go"
      rename_i l hl
      exact k.give hT hT Frm.refl hl rfl
    | some m =>
      rw [hf] at k
      dsimp only [Option.isSome]
      walk_at "go"
      refine ⟨A, G, s, i, m, rfl, hT, hf, fun v G1 H1 t1 f1 _ => ?_⟩
      walk_at "go"
      rename_i l hl
      exact k.give hT t1 f1 hl rfl
def sp_F_deliver (C : Cs) (K : PySem.W.Frag) : Sp := fun vv H Q _ => ∃ (A : Ad) (G : Gh) (s : State) (i : Int), vv = [.ref (A.at_ .table), .int i] ∧ (TabAt C A G s H) ∧ (Ok s) ∧ (Ans C A H Q (Vbdcas.does s (.deliver i)))
theorem ok_F_deliver (T : Txt K mg C) : FB P w K mg base "deliver" 7 p_F_deliver (sp_F_deliver C K) := by
  have M_Net_holds := ok_M_Net_holds (P := P) (w := w) (base := base) T
  have M_Net_take := ok_M_Net_take (P := P) (w := w) (base := base) T
  have M_Table_arrive := ok_M_Table_arrive (P := P) (w := w) (base := base) T
  have sc := sc_F_deliver
  refine FB.of T.f_F_deliver sc ba_F_deliver (fun vv H Q E h => ?_) (fun fn cdv A0 outer s0 H vv Q E hr h => ?_)
  · obtain ⟨_, _, _, _, rfl, _⟩ := h
    rfl
  · obtain ⟨A, G, s, i, rfl, hT, hO, k⟩ := h
    refine ⟨_, (pss_cons (ps_if (pt_not (pt_val (pe_m M_Net_holds (hr.mono (by decide)) (pe_fld (pv 0) rfl) (pa_cons (pv 1) pa_nil)))) (pss_one (ps_ret (pe_lst (pa_cons (pe_gi T.g_NO_SUCH_MESSAGE rfl) pa_nil)))) pss_nil)
      (pss_cons (ps_set (i := 2) sc.nd rfl (Or.inl rfl) (pe_m M_Net_take (hr.mono (by decide)) (pe_fld (pv 0) rfl) (pa_cons (pv 1) pa_nil)))
      (pss_cons (ps_expr (pe_m M_Table_arrive (hr.mono (by decide)) (pv 0) (pa_cons (pv 2) pa_nil)))
      (pss_one (ps_ret (pe_lst (pa_cons (pe_gi T.g_DONE rfl) pa_nil))))))), ?_⟩
    walk_at "go"
    have e : Vbdcas.does s (.deliver i) = match Vbdcas.find s i with | none => Vbdcas.no s 2 | some m => Vbdcas.yes (Vbdcas.arrive (Vbdcas.without s i) m) [] := rfl
    rw [e] at k
    refine ⟨A, G, s, i, rfl, hT, ?_⟩
    cases hf : Vbdcas.find s i with
    | none =>
      rw [hf] at k
      dsimp only [Option.isSome]
      walk_at "go"
      rename_i l hl
      exact k.give hT hT Frm.refl hl rfl
    | some m =>
      rw [hf] at k
      dsimp only [Option.isSome]
      walk_at "go"
      refine ⟨A, G, s, i, m, rfl, hT, hf, fun v G1 H1 t1 f1 m1 => ?_⟩
      obtain ⟨n, hn, _⟩ := find_mem hf
      walk_at "go"
      refine ⟨A, G1, _, m, v, rfl, t1, hO.without i, hO.msg _ hn, m1, fun G2 H2 t2 f2 => ?_⟩
      walk_at "go"
      rename_i l hl
      exact k.give hT t2 (f1.trans f2) hl rfl
def sp_F_double (C : Cs) (K : PySem.W.Frag) : Sp := fun vv H Q _ => ∃ (A : Ad) (G : Gh) (s : State) (i : Int), vv = [.ref (A.at_ .table), .int i] ∧ (TabAt C A G s H) ∧ (Ok s) ∧ (Ans C A H Q (Vbdcas.does s (.double i)))
theorem ok_F_double (T : Txt K mg C) : FB P w K mg base "double" 3 p_F_double (sp_F_double C K) := by
  have M_Net_holds := ok_M_Net_holds (P := P) (w := w) (base := base) T
  have M_Net_is_full := ok_M_Net_is_full (P := P) (w := w) (base := base) T
  have M_Net_send := ok_M_Net_send (P := P) (w := w) (base := base) T
  have M_Net_look := ok_M_Net_look (P := P) (w := w) (base := base) T
  have sc := sc_F_double
  refine FB.of T.f_F_double sc ba_F_double (fun vv H Q E h => ?_) (fun fn cdv A0 outer s0 H vv Q E hr h => ?_)
  · obtain ⟨_, _, _, _, rfl, _⟩ := h
    rfl
  · obtain ⟨A, G, s, i, rfl, hT, hO, k⟩ := h
    refine ⟨_, (pss_cons (ps_if (pt_not (pt_val (pe_m M_Net_holds (hr.mono (by decide)) (pe_fld (pv 0) rfl) (pa_cons (pv 1) pa_nil)))) (pss_one (ps_ret (pe_lst (pa_cons (pe_gi T.g_NO_SUCH_MESSAGE rfl) pa_nil)))) pss_nil)
      (pss_cons (ps_if (pt_val (pe_m0 M_Net_is_full (hr.mono (by decide)) (pe_fld (pv 0) rfl))) (pss_one (ps_ret (pe_lst (pa_cons (pe_gi T.g_NET_IS_FULL rfl) pa_nil)))) pss_nil)
      (pss_one (ps_ret (pe_lst (pa_cons (pe_gi T.g_DONE rfl) (pa_cons (pe_m M_Net_send (hr.mono (by decide)) (pe_fld (pv 0) rfl) (pa_cons (pe_m M_Net_look (hr.mono (by decide)) (pe_fld (pv 0) rfl) (pa_cons (pv 1) pa_nil)) pa_nil)) pa_nil))))))), ?_⟩
    walk_at "go"
    have e : Vbdcas.does s (.double i) = match Vbdcas.find s i with | none => Vbdcas.no s 2 | some m => if Vbdcas.NET ≤ s.net.length then Vbdcas.no s 4 else Vbdcas.yes (Vbdcas.send s m) [s.next] := rfl
    rw [e] at k
    refine ⟨A, G, s, i, rfl, hT, ?_⟩
    cases hf : Vbdcas.find s i with
    | none =>
      rw [hf] at k
      dsimp only [Option.isSome]
      walk_at "go"
      rename_i l hl
      exact k.give hT hT Frm.refl hl rfl
    | some m =>
      rw [hf] at k
      dsimp only at k
      dsimp only [Option.isSome]
      walk_at "go"
      refine ⟨A, G, s, rfl, hT, ?_⟩
      walk_at "go"
      refine ite2 (fun h1 => ?_) (fun h1 => ?_)
      · rw [if_pos (show Vbdcas.NET ≤ s.net.length from of_decide_eq_true h1)] at k
        walk_at "go"
        rename_i l hl
        exact k.give hT hT Frm.refl hl rfl
      · rw [if_neg (show ¬ Vbdcas.NET ≤ s.net.length from fun q => h1 (decide_eq_true q))] at k
        walk_at "go"
        refine ⟨A, G, s, i, m, rfl, hT, hf, fun v m1 => ?_⟩
        walk_at "go"
        refine ⟨A, G, s, m, v, rfl, hT, hO, m1, fun G2 H2 t2 f2 => ?_⟩
        walk_at "go"
        rename_i l hl
        exact k.give hT t2 f2 hl rfl
def sp_F_press (C : Cs) (K : PySem.W.Frag) : Sp := fun vv H Q _ => ∃ (A : Ad) (G : Gh) (s : State) (i : Int) (j : Int), vv = [.ref (A.at_ .table), .int i, .int j] ∧ (TabAt C A G s H) ∧ (Ok s) ∧ (Ans C A H Q (Vbdcas.does s (.press i j)))
theorem ok_F_press (T : Txt K mg C) : FB P w K mg base "press" 4 p_F_press (sp_F_press C K) := by
  have F_is_side := ok_F_is_side (P := P) (w := w) (base := base) T
  have F_within := ok_F_within (P := P) (w := w) (base := base) T
  have M_Machine_can_press := ok_M_Machine_can_press (P := P) (w := w) (base := base) T
  have M_Machine_is_last_move := ok_M_Machine_is_last_move (P := P) (w := w) (base := base) T
  have M_Machine_press := ok_M_Machine_press (P := P) (w := w) (base := base) T
  have sc := sc_F_press
  refine FB.of T.f_F_press sc ba_F_press (fun vv H Q E h => ?_) (fun fn cdv A0 outer s0 H vv Q E hr h => ?_)
  · obtain ⟨_, _, _, _, _, rfl, _⟩ := h
    rfl
  · obtain ⟨A, G, s, i, j, rfl, hT, hO, k⟩ := h
    refine ⟨_, (pss_cons (ps_if (PW.pt (pw_or (pt_not (pt_val (pe_f F_is_side (hr.mono (by decide)) rfl (pa_cons (pv 1) pa_nil)))) (pw_or1 (pt_not (pt_val (pe_f F_within (hr.mono (by decide)) rfl (pa_cons (pv 2) (pa_cons pe_int (pa_cons (pe_gi T.g_MOST_MOVE rfl) pa_nil))))))))) (pss_one (ps_ret (pe_lst (pa_cons (pe_gi T.g_OUT_OF_RANGE rfl) pa_nil)))) pss_nil)
      (pss_cons (ps_set (i := 3) sc.nd rfl (Or.inl rfl) (pe_ix ix_list (pe_fld (pv 0) rfl) (pv 1) (fun _ _ => rfl)))
      (pss_cons (ps_if (pt_not (pt_val (pe_m0 M_Machine_can_press (hr.mono (by decide)) (pv 3)))) (pss_one (ps_ret (pe_lst (pa_cons (pe_gi T.g_NOT_NOW rfl) pa_nil)))) pss_nil)
      (pss_cons (ps_if (pt_val (pe_m M_Machine_is_last_move (hr.mono (by decide)) (pv 3) (pa_cons (pv 2) pa_nil))) (pss_one (ps_ret (pe_lst (pa_cons (pe_gi T.g_SAME_MOVE rfl) pa_nil)))) pss_nil)
      (pss_cons (ps_set (i := 4) sc.nd rfl (Or.inl rfl) (pe_m M_Machine_press (hr.mono (by decide)) (pv 3) (pa_cons (pv 2) (pa_cons (pe_fld (pv 0) rfl) (pa_cons (pe_fld (pv 0) rfl) pa_nil)))))
      (pss_one (ps_ret (pe_lst (pa_cons (pe_gi T.g_DONE rfl) (pa_cons (pe_fld (pv 4) rfl) (pa_cons (pe_fld (pv 4) rfl) pa_nil))))))))))), ?_⟩
    walk_at "go"
    simp only [Vbdcas.does] at k
    refine ⟨i, rfl, trivial, ?_⟩
    walk_at "go"
    refine ite2 (fun h1 => ?_) (fun h1 => ?_)
    · rw [if_pos (.inl (by simpa using h1))] at k
      walk_at "go"
      rename_i l hl
      exact k.give hT hT Frm.refl hl rfl
    · have h1' : Vbdcas.from_ i 0 1 = true := by simpa using h1
      have hi := from_nat h1' (by decide)
      walk_at "go"
      refine ⟨j, 0, 999, rfl, trivial, ?_⟩
      walk_at "go"
      refine ite2 (fun h2 => ?_) (fun h2 => ?_)
      · rw [if_pos (.inr (by simpa using h2))] at k
        walk_at "go"
        rename_i l hl
        exact k.give hT hT Frm.refl hl rfl
      · have h2' : Vbdcas.from_ j 0 999 = true := by simpa using h2
        have hj := from_nat h2' (by decide)
        rw [if_neg (by rw [h1', h2']; simp)] at k
        have hp : i.toNat < 2 := by omega
        clear h1 h2 h1' h2'
        generalize i.toNat = p at *
        generalize j.toNat = n at *
        obtain ⟨rfl, _⟩ := hi
        obtain ⟨rfl, _⟩ := hj
        rw [← cli_zb, ← setCli_zb] at k
        have ez := zn_zb hp
        walk_at "go"
        refine ⟨A, G, s, zb p, rfl, hT, fun hc => ?_, fun hc => ?_⟩
        · rw [if_neg (by
            rintro (q | q | q | q)
            · rw [hc.1] at q; cases q
            · rw [hc.2.1] at q; cases q
            · exact q hc.2.2.1
            · exact q (by rw [hc.2.2.2, ez]))] at k
          walk_at "go"
          refine ⟨A, G, s, zb p, n, rfl, hT, fun H1 t1 ss => ?_⟩
          have f1 : Frm A H H1 := Frm.same ss
          walk_at "go"
          refine ite2 (fun h3 => ?_) (fun h3 => ?_)
          · rw [if_pos (of_decide_eq_true h3)] at k
            walk_at "go"
            rename_i l hl
            exact k.give hT t1 f1 hl rfl
          · rw [if_neg (fun q => h3 (decide_eq_true q))] at k
            walk_at "go"
            refine ⟨A, G, s, zb p, n, rfl, t1, hO, fun G2 H2 a dx t2 f2 h2 => ?_⟩
            rw [ez] at t2 h2
            walk_at "go"
            rename_i l hl
            exact k.give hT t2 (f1.trans f2) hl rfl
        · rw [if_pos (by
            refine Classical.byContradiction fun q => hc ⟨?_, ?_, ?_, ?_⟩
            · cases hh : (cli s (zb p)).on with
              | true => rfl
              | false => exact absurd (.inl hh) q
            · cases hh : (cli s (zb p)).ask with
              | none => rfl
              | some a => exact absurd (.inr (.inl (by rw [hh]; rfl))) q
            · exact Classical.byContradiction fun w => q (.inr (.inr (.inl w)))
            · rw [ez]
              exact Classical.byContradiction fun w => q (.inr (.inr (.inr w))))] at k
          walk_at "go"
          rename_i l hl
          exact k.give hT hT Frm.refl hl rfl
section
variable {A A' : Ad} {G : Gh} {s : State} {H H' : Hp}
theorem Im.move {a : Addr} {o : HO} (i : Im A H a o) (mv : Mv A A' H) (f : Frm A H H') : Im A' H' a o := by
  refine ⟨⟨fun c e => ?_, by rw [mv.1.2]; exact i.1.2⟩, f a o i.2 i.1.1⟩
  rcases mv.2 c with ⟨d, hd⟩ | hn
  · exact i.1.1 d (e.trans hd)
  · rw [← e, i.2] at hn
    cases hn
theorem MsgAt.move {v : V} (mv : Mv A A' H) (f : Frm A H H') : ∀ {m : Msg}, MsgAt C A H v m → MsgAt C A' H' v m
  | .hello p e, h => by obtain ⟨a, dx, e1, h⟩ := h; exact ⟨a, dx, e1, h.move mv f⟩
  | .req p e id ply move think, h => by obtain ⟨a, dx, e1, h⟩ := h; exact ⟨a, dx, e1, h.move mv f⟩
  | .ack p e n, h => by obtain ⟨a, dx, e1, h⟩ := h; exact ⟨a, dx, e1, h.move mv f⟩
  | .news p e g ms hd b0 b1 ov, h => by obtain ⟨a, dx, l, t, e1, h, h2, h3⟩ := h; exact ⟨a, dx, l, t, e1, h.move mv f, h2.move mv f, h3.move mv f⟩
theorem ReqAt.move {z : Bool} {c : Client} {v : V} (h : ReqAt C A H z c v) (mv : Mv A A' H) (f : Frm A H H') : ReqAt C A' H' z c v := by
  unfold ReqAt at h ⊢
  revert h
  cases c.ask with
  | none => exact id
  | some a => intro h; obtain ⟨ad, dx, e1, h⟩ := h; exact ⟨ad, dx, e1, h.move mv f⟩
/-- a machine begins anew, some of its places are new -/
theorem TabAt.crash (h : TabAt C A G s H) (z : Bool) {t : Addr} {e : Nat} (mv : Mv A A' H) (f : Frm A H H') (inj : ∀ c d, A'.at_ c = A'.at_ d → c = d)
    (cells : ∀ c, H' (A'.at_ c) = some (obj C A' (setRq G z .non t) (setCli s z { epoch := e }) c)) (ht : Im A' H' t (.tup [.int 0, .int 0])) : TabAt C A' (setRq G z .non t) (setCli s z { epoch := e }) H' := by
  have cl : ∀ y, y ≠ z → cli (setCli s z { epoch := e }) y = cli s y := fun y hy => by cases y <;> cases z <;> first | rfl | exact absurd rfl hy
  refine ⟨inj, fun c hc => ?_, fun b hb => ?_, cells, fun y => ?_, fun y => ?_, ?_⟩
  · rw [mv.1.2] at hc
    rcases mv.2 c with ⟨d, hd⟩ | hn
    · rw [hd] at hc
      exact h.cav d hc
    · obtain ⟨o, q⟩ := h.avs _ hc
      rw [q] at hn
      cases hn
  · rw [mv.1.2] at hb
    obtain ⟨o, q⟩ := h.avs b hb
    exact ⟨o, f b o q fun c w => h.cav c (by rw [← w]; exact hb)⟩
  · by_cases hy : y = z
    · subst hy
      show ReqAt C A' H' y (cli (setCli s y { epoch := e }) y) (if y = y then .non else _)
      rw [cli_setCli, if_pos rfl]
      rfl
    · show ReqAt C A' H' y (cli (setCli s z { epoch := e }) y) (if y = z then .non else G.rq y)
      rw [cl y hy, if_neg hy]
      exact (h.req y).move mv f
  · by_cases hy : y = z
    · subst hy
      show Im A' H' (if y = y then t else _) (.tup [nV (cli (setCli s y { epoch := e }) y).b0, nV (cli (setCli s y { epoch := e }) y).b1])
      rw [cli_setCli, if_pos rfl]
      exact ht
    · show Im A' H' (if y = z then t else G.bt y) (.tup [nV (cli (setCli s z { epoch := e }) y).b0, nV (cli (setCli s z { epoch := e }) y).b1])
      rw [cl y hy, if_neg hy]
      exact (h.bank y).move mv f
  · have : (setCli s z { epoch := e }).net = s.net := (fld_setCli s z _).2.1
    rw [this]
    exact Paired.mapP h.net fun x kv q => ⟨q.1, q.2.move mv f⟩
/-- the places behind: a new machine object, or only new moves -/
def crAd (A : Ad) (z : Bool) (m dm v : Addr) : Ad where
  at_ := fun c => match c with
    | .mach y => if y = z then m else A.at_ (.mach y)
    | .moves y => if y = z then v else A.at_ (.moves y)
    | c => A.at_ c
  dx := fun c => match c with
    | .mach y => if y = z then dm else A.dx (.mach y)
    | c => A.dx c
  av := A.av
theorem crAd_at (A : Ad) (z : Bool) (m dm v : Addr) (c : Cell) (h1 : c ≠ .mach z) (h2 : c ≠ .moves z) : (crAd A z m dm v).at_ c = A.at_ c := by
  cases c with
  | mach y => show (if y = z then m else _) = _; rw [if_neg (fun e => h1 (by rw [e]))]
  | moves y => show (if y = z then v else _) = _; rw [if_neg (fun e => h2 (by rw [e]))]
  | _ => rfl
theorem crAd_m (A : Ad) (z : Bool) (m dm v : Addr) : (crAd A z m dm v).at_ (.mach z) = m := by show (if z = z then m else _) = m; rw [if_pos rfl]
theorem crAd_v (A : Ad) (z : Bool) (m dm v : Addr) : (crAd A z m dm v).at_ (.moves z) = v := by show (if z = z then v else _) = v; rw [if_pos rfl]
theorem crAd_inj {z : Bool} {m dm v : Addr} (h : ∀ c d, A.at_ c = A.at_ d → c = d) (hm : ∀ c, c ≠ .mach z → m ≠ A.at_ c) (hv : ∀ c, v ≠ A.at_ c) (hmv : m ≠ v) (c d : Cell) (e : (crAd A z m dm v).at_ c = (crAd A z m dm v).at_ d) : c = d := by
  have key : ∀ c : Cell, c = .mach z ∨ c = .moves z ∨ (c ≠ .mach z ∧ c ≠ .moves z) := fun c => by
    by_cases h1 : c = .mach z
    · exact .inl h1
    · by_cases h2 : c = .moves z
      · exact .inr (.inl h2)
      · exact .inr (.inr ⟨h1, h2⟩)
  rcases key c with rfl | rfl | ⟨c1, c2⟩ <;> rcases key d with rfl | rfl | ⟨d1, d2⟩
  · rfl
  · rw [crAd_m, crAd_v] at e; exact absurd e hmv
  · rw [crAd_m, crAd_at _ _ _ _ _ _ d1 d2] at e; exact absurd e (hm d d1)
  · rw [crAd_m, crAd_v] at e; exact absurd e.symm hmv
  · rfl
  · rw [crAd_v, crAd_at _ _ _ _ _ _ d1 d2] at e; exact absurd e (hv d)
  · rw [crAd_m, crAd_at _ _ _ _ _ _ c1 c2] at e; exact absurd e.symm (hm c c1)
  · rw [crAd_v, crAd_at _ _ _ _ _ _ c1 c2] at e; exact absurd e.symm (hv c)
  · rw [crAd_at _ _ _ _ _ _ c1 c2, crAd_at _ _ _ _ _ _ d1 d2] at e
    exact h c d e
/-- all but the machine, its moves and the list of machines stand as they stood -/
theorem crAd_obj {z : Bool} {m dm v t : Addr} {e : Nat} (c : Cell) (h1 : c ≠ .mach z) (h2 : c ≠ .moves z) (h3 : c ≠ .machs) : obj C (crAd A z m dm v) (setRq G z .non t) (setCli s z { epoch := e }) c = obj C A G s c := by
  cases c with
  | mach y =>
    have hy : y ≠ z := fun e => h1 (by rw [e])
    have cl : cli (setCli s z { epoch := e }) y = cli s y := by cases y <;> cases z <;> first | rfl | exact absurd rfl hy
    show HO.ins _ (if y = z then dm else _) (machF (crAd A z m dm v) y (cli (setCli s z { epoch := e }) y) (if y = z then .non else G.rq y) (if y = z then t else G.bt y)) = _
    rw [cl, if_neg hy, if_neg hy, if_neg hy]
    show HO.ins _ _ [_, _, _, (_, V.ref (if y = z then v else _)), _, _, _, _, _] = _
    rw [if_neg hy]
    rfl
  | moves y =>
    have hy : y ≠ z := fun e => h2 (by rw [e])
    have cl : cli (setCli s z { epoch := e }) y = cli s y := by cases y <;> cases z <;> first | rfl | exact absurd rfl hy
    show HO.lst (vs (cli (setCli s z { epoch := e }) y).known) = _
    rw [cl]
    rfl
  | machs => exact absurd rfl h3
  | seat y => cases y <;> cases z <;> rfl
  | _ => cases z <;> rfl
/-- the new machine -/
theorem crAd_new {z : Bool} {m dm v t : Addr} {e : Nat} : obj C (crAd A z m dm v) (setRq G z .non t) (setCli s z { epoch := e }) (.mach z) = .ins C.mach dm (machG v z { epoch := e } .non t) := by
  show HO.ins _ (if z = z then dm else _) (machF (crAd A z m dm v) z (cli (setCli s z { epoch := e }) z) (if z = z then .non else G.rq z) (if z = z then t else G.bt z)) = _
  rw [cli_setCli, if_pos rfl, if_pos rfl, if_pos rfl]
  show HO.ins _ _ [_, _, _, (_, V.ref (if z = z then v else _)), _, _, _, _, _] = _
  rw [if_pos rfl]
  rfl
theorem crAd_mv {z : Bool} {m dm v : Addr} (hm : m = A.at_ (.mach z) ∨ H m = none) (hv : H v = none) : Mv A (crAd A z m dm v) H := by
  refine ⟨⟨rfl, rfl⟩, fun c => ?_⟩
  by_cases h1 : c = .mach z
  · subst h1
    rw [crAd_m]
    rcases hm with hm | hm
    · exact .inl ⟨_, hm⟩
    · exact .inr hm
  · by_cases h2 : c = .moves z
    · subst h2
      rw [crAd_v]
      exact .inr hv
    · exact .inl ⟨c, crAd_at _ _ _ _ _ _ h1 h2⟩
end
theorem r_gsub {to ti : TE} {t : TSet} {v : V} {σ : L2.St} {H : Hp} {Q : L2.St → Hp → Prop} (h : to σ H fun o H1 => ti σ H1 fun i H2 => t o i v H2 fun H3 => Q σ H3) : gSub to ti t v σ H Q := h
theorem ixN2 {n : Nat} (hp : n < 2) : ixN 2 (n : Int) = some n := by
  have : n = 0 ∨ n = 1 := by omega
  rcases this with rfl | rfl <;> rfl
def sp_M_Table_crash (C : Cs) (K : PySem.W.Frag) : Sp := fun vv H Q _ => ∃ (A : Ad) (G : Gh) (s : State) (p : Nat), vv = [.ref (A.at_ .table), nV p] ∧ (TabAt C A G s H) ∧ (p < 2) ∧ (∀ A' G' H', TabAt C A' G' (Vbdcas.setClient s p { epoch := (Vbdcas.client s p).epoch + 1 }) H' → Mv A A' H → Frm A H H' → Ex H H' → Q (nV ((Vbdcas.client s p).epoch + 1)) H')
theorem ok_M_Table_crash (T : Txt K mg C) : MB P w K mg base C.table "crash" 3 p_M_Table_crash (sp_M_Table_crash C K) := by
  have K_Machine := ok_K_Machine (P := P) (w := w) (base := base) T
  have sc := sc_M_Table_crash
  refine MB.of T.f_M_Table_crash T.c_Table sc ba_M_Table_crash (fun vv H Q E h => ?_) (fun fn cdv A0 outer s0 H vv Q E hr h => ?_)
  · obtain ⟨_, _, _, _, rfl, _⟩ := h
    rfl
  · obtain ⟨A, G, s, p, rfl, hT, hp, k⟩ := h
    refine ⟨_, (pss_cons (ps_set (i := 2) sc.nd rfl (Or.inl rfl) (pe_op op_add (pe_fld (pe_ix ix_list (pe_fld (pv 0) rfl) (pv 1) (fun _ _ => rfl)) rfl) pe_int))
      (pss_cons (ps_asg (pe_k K_Machine (hr.mono (by decide)) rfl (pa_cons (pv 1) (pa_cons (pv 2) pa_nil))) (pg_sub (pe_fld (pv 0) rfl) (pv 1) set_list (fun _ => rfl)))
      (pss_one (ps_ret (pv 2))))), ?_⟩
    walk_at "go"
    rw [cli_zb]
    rename_i m dm nm ndm nem
    refine ⟨m, dm, zb p, (Vbdcas.client s p).epoch + 1, ?_, upd_same, fun H1 v t qm qv qt fv ft nvt bm => ⟨rfl, ?_⟩⟩
    · rw [zn_zb hp]
      rfl
    have ss := Same.made nm ndm bm
    have t1 := hT.same ss
    walk_at "go"
    refine r_gsub ?_
    walk_at "go"
    refine ⟨_, _, _, p, rfl, rfl, t1.machs, ixN2 hp, ?_⟩
    walk_at "go"
    have hv0 : H v = none := upd_none (upd_none fv)
    have ht0 : H t = none := upd_none (upd_none ft)
    have om := hT.free nm
    have ov := hT.free hv0
    have ot := hT.free ht0
    have nvm : v ≠ m := upd_nene fv
    have ntm : t ≠ m := upd_nene ft
    have mv : Mv A (crAd A (zb p) m dm v) H := crAd_mv (.inr nm) hv0
    have ex : Ex H (upd H1 (A.at_ .machs) (HO.lst (List.set [V.ref (A.at_ (.mach true)), V.ref (A.at_ (.mach false))] p (V.ref m)))) := Ex.trans (Ex.same ss) Ex.upd
    have fr : Frm A H (upd H1 (A.at_ .machs) (HO.lst (List.set [V.ref (A.at_ (.mach true)), V.ref (A.at_ (.mach false))] p (V.ref m)))) := (Frm.same ss).trans (Frm.put Frm.refl)
    have tt : TabAt C (crAd A (zb p) m dm v) (setRq G (zb p) .non t) (setCli s (zb p) { epoch := (Vbdcas.client s p).epoch + 1 }) (upd H1 (A.at_ .machs) (HO.lst (List.set [V.ref (A.at_ (.mach true)), V.ref (A.at_ (.mach false))] p (V.ref m)))) := by
      refine hT.crash (zb p) mv fr (crAd_inj hT.inj (fun c _ => om.1 c) (fun c => ov.1 c) nvm.symm) (fun c => ?_) ⟨⟨fun c => ?_, ot.2⟩, ?_⟩
      · by_cases h1 : c = .mach (zb p)
        · subst h1
          rw [crAd_m, crAd_new, upd_ne (om.1 .machs)]
          exact qm
        · by_cases h2 : c = .moves (zb p)
          · subst h2
            rw [crAd_v, upd_ne (ov.1 .machs), qv]
            show _ = some (HO.lst (vs (cli (setCli s (zb p) _) (zb p)).known))
            rw [cli_setCli]
            rfl
          · rw [crAd_at _ _ _ _ _ _ h1 h2]
            by_cases h3 : c = .machs
            · subst h3
              rw [upd_same]
              have : p = 0 ∨ p = 1 := by omega
              rcases this with rfl | rfl <;> rfl
            · rw [upd_ne (fun q => h3 (hT.inj _ _ q)), t1.cell c, crAd_obj c h1 h2 h3]
      · by_cases h1 : c = .mach (zb p)
        · subst h1
          rw [crAd_m]
          exact ntm
        · by_cases h2 : c = .moves (zb p)
          · subst h2
            rw [crAd_v]
            exact nvt.symm
          · rw [crAd_at _ _ _ _ _ _ h1 h2]
            exact ot.1 c
      · rw [upd_ne (ot.1 .machs)]
        exact qt
    rw [setCli_zb] at tt
    exact k _ _ _ tt mv fr ex
def sp_M_Table_restart (C : Cs) (K : PySem.W.Frag) : Sp := fun vv H Q _ => ∃ (A : Ad) (G : Gh) (s : State), vv = [.ref (A.at_ .table)] ∧ (TabAt C A G s H) ∧ (Ok s) ∧ (∀ H', TabAt C A G (Vbdcas.restart s) H' → Frm A H H' → Q .non H')
theorem ok_M_Table_restart (T : Txt K mg C) : MB P w K mg base C.table "restart" 3 p_M_Table_restart (sp_M_Table_restart C K) := by
  have M_House_restart := ok_M_House_restart (P := P) (w := w) (base := base) T
  have sc := sc_M_Table_restart
  refine MB.of T.f_M_Table_restart T.c_Table sc ba_M_Table_restart (fun vv H Q E h => ?_) (fun fn cdv A0 outer s0 H vv Q E hr h => ?_)
  · obtain ⟨_, _, _, rfl, _⟩ := h
    rfl
  · obtain ⟨A, G, s, rfl, hT, hO, k⟩ := h
    refine ⟨_, (pss_one (ps_expr (pe_m M_House_restart (hr.mono (by decide)) (pe_fld (pv 0) rfl) (pa_cons (pe_fld (pv 0) rfl) pa_nil)))), ?_⟩
    walk_at "go"
    exact ⟨A, G, s, rfl, hT, hO, k⟩
def agSt (s : State) : Nat → State
  | 0 => s
  | 1 => Vbdcas.again s 0
  | _ => Vbdcas.again (Vbdcas.again s 0) 1
theorem ok_agSt {s : State} (h : Ok s) : ∀ i, Ok (agSt s i)
  | 0 => h
  | 1 => h.again (by decide)
  | _ + 2 => (h.again (p := 0) (by decide)).again (p := 1) (by decide)
theorem drain_nil {s : State} (h : s.net = []) : ∀ k, Vbdcas.drain k s = s
  | 0 => rfl
  | k + 1 => by rw [Vbdcas.drain, h]
theorem drain_cons {s : State} {n : Nat} {m : Msg} {r : List (Nat × Msg)} (h : s.net = (n, m) :: r) (k : Nat) : Vbdcas.drain (k + 1) s = Vbdcas.drain k (Vbdcas.arrive { s with net := r } m) := by rw [Vbdcas.drain, h]
def sp_M_Table_go_round (C : Cs) (K : PySem.W.Frag) : Sp := fun vv H Q _ => ∃ (A : Ad) (G : Gh) (s : State), vv = [.ref (A.at_ .table)] ∧ (TabAt C A G s H) ∧ (Ok s) ∧ (∀ G' H', TabAt C A G' (Vbdcas.round s) H' → Frm A H H' → Q .non H')
theorem ok_M_Table_go_round (T : Txt K mg C) : MB P w K mg base C.table "go_round" 7 p_M_Table_go_round (sp_M_Table_go_round C K) := by
  have M_Machine_timer := ok_M_Machine_timer (P := P) (w := w) (base := base) T
  have M_House_tell_both := ok_M_House_tell_both (P := P) (w := w) (base := base) T
  have M_Net_is_empty := ok_M_Net_is_empty (P := P) (w := w) (base := base) T
  have M_Table_arrive := ok_M_Table_arrive (P := P) (w := w) (base := base) T
  have M_Net_take_oldest := ok_M_Net_take_oldest (P := P) (w := w) (base := base) T
  have sc := sc_M_Table_go_round
  refine MB.of T.f_M_Table_go_round T.c_Table sc ba_M_Table_go_round (fun vv H Q E h => ?_) (fun fn cdv A0 outer s0 H vv Q E hr h => ?_)
  · obtain ⟨_, _, _, rfl, _⟩ := h
    rfl
  · obtain ⟨A, G, s, rfl, hT, hO, k⟩ := h
    refine ⟨_, (pss_cons (ps_for PassesOwn.never rfl (pi_list (pe_fld (pv 0) rfl)) (pg_name (i := 1) sc.nd rfl (Or.inl rfl)) (pss_one (ps_expr (pe_m M_Machine_timer (hr.mono (by decide)) (pv 1) (pa_cons (pe_fld (pv 0) rfl) pa_nil)))))
      (pss_cons (ps_expr (pe_m M_House_tell_both (hr.mono (by decide)) (pe_fld (pv 0) rfl) (pa_cons (pe_fld (pv 0) rfl) pa_nil)))
      (pss_one (ps_while PassesOwn.never (pt_not (pt_val (pe_m0 M_Net_is_empty (hr.mono (by decide)) (pe_fld (pv 0) rfl)))) (pss_one (ps_expr (pe_m M_Table_arrive (hr.mono (by decide)) (pv 0) (pa_cons (pe_m0 M_Net_take_oldest (hr.mono (by decide)) (pe_fld (pv 0) rfl)) pa_nil)))))))), ?_⟩
    walk_at "go"
    try dsimp only
    generalize hD : Ends.mk _ _ _ _ = D0
    refine r_forL ?_
    walk_at "go"
    refine ⟨_, rfl, ⟨_, .inl (.inl hT.machs)⟩, for_list (xs := [.ref (A.at_ (.mach true)), .ref (A.at_ (.mach false))]) (fun i σ H3 => (∃ x, σ = [some (.ref (A.at_ .table)), x]) ∧ ∃ G3, TabAt C A G3 (agSt s i) H3 ∧ Frm A H H3) ?_ ?_ ?_ ?_⟩
    · exact ⟨⟨_, rfl⟩, G, hT, Frm.refl⟩
    · rintro i σ H3 _ ⟨_, G3, t3, _⟩
      exact .inl (.inl t3.machs)
    · rintro i x σ H3 e ⟨⟨x1, rfl⟩, G3, t3, f3⟩
      have o3 := ok_agSt hO i
      match i, e, t3, o3 with
      | 0, e, t3, o3 =>
        cases e
        refine r_gn ?_
        walk_at "go"
        refine ⟨A, G3, _, true, rfl, t3, o3, fun G4 H4 t4 f4 => ?_⟩
        walk_at "go"
        exact ⟨⟨_, rfl⟩, G4, t4, f3.trans f4⟩
      | 1, e, t3, o3 =>
        cases e
        refine r_gn ?_
        walk_at "go"
        refine ⟨A, G3, _, false, rfl, t3, o3, fun G4 H4 t4 f4 => ?_⟩
        walk_at "go"
        exact ⟨⟨_, rfl⟩, G4, t4, f3.trans f4⟩
      | n + 2, e, t3, o3 => cases e
    · rintro σ H3 ⟨⟨x1, rfl⟩, G3, t3, f3⟩
      subst hD
      have o3 := ok_agSt hO 2
      walk_at "go"
      refine ⟨A, G3, _, rfl, t3, o3, fun G4 H4 t4 f4 => ?_⟩
      have o4 : Ok (Vbdcas.nudge (Vbdcas.again (Vbdcas.again s 0) 1)) := hO.ready
      obtain ⟨F, hF, er⟩ : ∃ F, 560 ≤ F ∧ Vbdcas.round s = Vbdcas.drain F (Vbdcas.nudge (Vbdcas.again (Vbdcas.again s 0) 1)) := ⟨Vbdcas.FUEL, by unfold Vbdcas.FUEL; omega, rfl⟩
      rw [er] at k
      have t4' : TabAt C A G4 (Vbdcas.nudge (Vbdcas.again (Vbdcas.again s 0) 1)) H4 := t4
      clear t4 er
      have f5 := f3.trans f4
      generalize Vbdcas.nudge (Vbdcas.again (Vbdcas.again s 0) 1) = s4 at *
      have hmu := mu_le o4
      walk_at "go"
      refine ⟨fun n σ H5 => ∃ G5 s5, σ = [some (.ref (A.at_ .table)), x1] ∧ TabAt C A G5 s5 H5 ∧ Ok s5 ∧ Frm A H H5 ∧ mu s5 ≤ n ∧ Vbdcas.drain n s5 = Vbdcas.drain F s4, ⟨F, G4, s4, rfl, t4', o4, f5, by omega, rfl⟩, ?_⟩
      rintro n σ H5 ⟨G5, s5, rfl, t5, o5, f5, m5, d5⟩
      walk_at "go"
      refine ⟨A, G5, s5, rfl, t5, ?_⟩
      walk_at "go"
      cases e : s5.net with
      | nil =>
        walk_at "go"
        rw [← d5, drain_nil e] at k
        exact k G5 H5 t5 f5
      | cons x r =>
        obtain ⟨a, mm⟩ := x
        have q := turn o5 e
        obtain ⟨n', rfl⟩ : ∃ n', n = n' + 1 := ⟨n - 1, by omega⟩
        refine ite2 (fun _ => ?_) (fun h => absurd (by simp) h)
        refine ⟨fun σ' H' => ∃ n1, n1 < n' + 1 ∧ ∃ G5 s5, σ' = [some (.ref (A.at_ .table)), x1] ∧ TabAt C A G5 s5 H' ∧ Ok s5 ∧ Frm A H H' ∧ mu s5 ≤ n1 ∧ Vbdcas.drain n1 s5 = Vbdcas.drain F s4, fun _ _ h => h, ?_⟩
        walk_at "go"
        refine ⟨A, G5, s5, a, mm, r, rfl, t5, o5, e, fun v G6 H6 t6 f6 m6 => ?_⟩
        walk_at "go"
        refine ⟨A, G6, _, mm, v, rfl, t6, o5.rest (by rw [e]; exact List.sublist_cons_self _ _), o5.msg (a, mm) (by rw [e]; exact List.mem_cons_self), m6, fun G7 H7 t7 f7 => ?_⟩
        walk_at "go"
        refine ⟨n', by omega, G7, _, rfl, t7, q.1, (f5.trans f6).trans f7, by omega, ?_⟩
        rw [← drain_cons e]
        exact d5
theorem rounds_succ : ∀ (k : Nat) (s : State), Vbdcas.rounds (k + 1) s = Vbdcas.round (Vbdcas.rounds k s)
  | 0, _ => rfl
  | k + 1, s => by
    show Vbdcas.rounds (k + 1) (Vbdcas.round s) = _
    rw [rounds_succ k (Vbdcas.round s)]
    rfl
def sp_F_crash (C : Cs) (K : PySem.W.Frag) : Sp := fun vv H Q _ => ∃ (A : Ad) (G : Gh) (s : State) (i : Int), vv = [.ref (A.at_ .table), .int i] ∧ (TabAt C A G s H) ∧ (Ok s) ∧ (Ans C A H Q (Vbdcas.does s (.crash i)))
theorem ok_F_crash (T : Txt K mg C) : FB P w K mg base "crash" 4 p_F_crash (sp_F_crash C K) := by
  have F_is_side := ok_F_is_side (P := P) (w := w) (base := base) T
  have M_Table_crash := ok_M_Table_crash (P := P) (w := w) (base := base) T
  have sc := sc_F_crash
  refine FB.of T.f_F_crash sc ba_F_crash (fun vv H Q E h => ?_) (fun fn cdv A0 outer s0 H vv Q E hr h => ?_)
  · obtain ⟨_, _, _, _, rfl, _⟩ := h
    rfl
  · obtain ⟨A, G, s, i, rfl, hT, hO, k⟩ := h
    refine ⟨_, (pss_cons (ps_if (pt_not (pt_val (pe_f F_is_side (hr.mono (by decide)) rfl (pa_cons (pv 1) pa_nil)))) (pss_one (ps_ret (pe_lst (pa_cons (pe_gi T.g_OUT_OF_RANGE rfl) pa_nil)))) pss_nil)
      (pss_one (ps_ret (pe_lst (pa_cons (pe_gi T.g_DONE rfl) (pa_cons (pe_m M_Table_crash (hr.mono (by decide)) (pv 0) (pa_cons (pv 1) pa_nil)) pa_nil)))))), ?_⟩
    walk_at "go"
    have e : Vbdcas.does s (.crash i) = if Vbdcas.from_ i 0 1 = false then Vbdcas.no s 1 else Vbdcas.yes (Vbdcas.setClient s i.toNat { epoch := (Vbdcas.client s i.toNat).epoch + 1 }) [(Vbdcas.client s i.toNat).epoch + 1] := rfl
    rw [e] at k
    refine ⟨i, rfl, trivial, ?_⟩
    walk_at "go"
    refine ite2 (fun h1 => ?_) (fun h1 => ?_)
    · rw [if_pos (by simpa using h1)] at k
      walk_at "go"
      rename_i l hl
      exact k.give hT hT Frm.refl hl rfl
    · have h1' : Vbdcas.from_ i 0 1 = true := by simpa using h1
      have hi := from_nat h1' (by decide)
      rw [if_neg (by rw [h1']; decide)] at k
      have hp : i.toNat < 2 := by omega
      generalize i.toNat = p at *
      obtain ⟨rfl, _⟩ := hi
      walk_at "go"
      refine ⟨A, G, s, p, rfl, hT, hp, fun A' G' H' t' mv f' ex => ?_⟩
      walk_at "go"
      rename_i l hl
      exact k A' G' _ l (t'.new hl) mv (f'.new hl) upd_same (ex.none hl)
def sp_F_restart (C : Cs) (K : PySem.W.Frag) : Sp := fun vv H Q _ => ∃ (A : Ad) (G : Gh) (s : State), vv = [.ref (A.at_ .table)] ∧ (TabAt C A G s H) ∧ (Ok s) ∧ (Ans C A H Q (Vbdcas.does s .restart))
theorem ok_F_restart (T : Txt K mg C) : FB P w K mg base "restart" 4 p_F_restart (sp_F_restart C K) := by
  have M_Table_restart := ok_M_Table_restart (P := P) (w := w) (base := base) T
  have sc := sc_F_restart
  refine FB.of T.f_F_restart sc ba_F_restart (fun vv H Q E h => ?_) (fun fn cdv A0 outer s0 H vv Q E hr h => ?_)
  · obtain ⟨_, _, _, rfl, _⟩ := h
    rfl
  · obtain ⟨A, G, s, rfl, hT, hO, k⟩ := h
    refine ⟨_, (pss_cons (ps_expr (pe_m0 M_Table_restart (hr.mono (by decide)) (pv 0)))
      (pss_one (ps_ret (pe_lst (pa_cons (pe_gi T.g_DONE rfl) pa_nil))))), ?_⟩
    walk_at "go"
    refine ⟨A, G, s, rfl, hT, hO, fun H1 t1 f1 => ?_⟩
    walk_at "go"
    rename_i l hl
    exact k.give hT t1 f1 hl rfl
def sp_F_rounds (C : Cs) (K : PySem.W.Frag) : Sp := fun vv H Q _ => ∃ (A : Ad) (G : Gh) (s : State) (i : Int), vv = [.ref (A.at_ .table), .int i] ∧ (TabAt C A G s H) ∧ (Ok s) ∧ (Ans C A H Q (Vbdcas.does s (.rounds i)))
theorem ok_F_rounds (T : Txt K mg C) : FB P w K mg base "rounds" 8 p_F_rounds (sp_F_rounds C K) := by
  have F_within := ok_F_within (P := P) (w := w) (base := base) T
  have M_Table_go_round := ok_M_Table_go_round (P := P) (w := w) (base := base) T
  have sc := sc_F_rounds
  refine FB.of T.f_F_rounds sc ba_F_rounds (fun vv H Q E h => ?_) (fun fn cdv A0 outer s0 H vv Q E hr h => ?_)
  · obtain ⟨_, _, _, _, rfl, _⟩ := h
    rfl
  · obtain ⟨A, G, s, i, rfl, hT, hO, k⟩ := h
    refine ⟨_, (pss_cons (ps_if (pt_not (pt_val (pe_f F_within (hr.mono (by decide)) rfl (pa_cons (pv 1) (pa_cons pe_int (pa_cons (pe_gi T.g_MOST_ROUNDS rfl) pa_nil)))))) (pss_one (ps_ret (pe_lst (pa_cons (pe_gi T.g_OUT_OF_RANGE rfl) pa_nil)))) pss_nil)
      (pss_cons (ps_for PassesOwn.never rfl (pi_range1 rfl T.b_range (pa_cons (pv 1) pa_nil)) (pg_name (i := 2) sc.nd rfl (Or.inl rfl)) (pss_one (ps_expr (pe_m0 M_Table_go_round (hr.mono (by decide)) (pv 0)))))
      (pss_one (ps_ret (pe_lst (pa_cons (pe_gi T.g_DONE rfl) pa_nil)))))), ?_⟩
    walk_at "go"
    have e : Vbdcas.does s (.rounds i) = if Vbdcas.from_ i 1 10 = false then Vbdcas.no s 1 else Vbdcas.yes (Vbdcas.rounds i.toNat s) [] := rfl
    rw [e] at k
    refine ⟨i, 1, 10, rfl, trivial, ?_⟩
    walk_at "go"
    refine ite2 (fun h1 => ?_) (fun h1 => ?_)
    · rw [if_pos (by simpa using h1)] at k
      walk_at "go"
      rename_i l hl
      exact k.give hT hT Frm.refl hl rfl
    · have h1' : Vbdcas.from_ i 1 10 = true := by simpa using h1
      have hi := from_nat h1' (by decide)
      rw [if_neg (by rw [h1']; decide)] at k
      walk_at "go"
      try dsimp only
      generalize hD : Ends.mk _ _ _ _ = D0
      refine r_forR ?_
      walk_at "go"
      refine ⟨i, rfl, by omega, by omega, for_range (fun n σ H3 => (∃ x, σ = [some (.ref (A.at_ .table)), some (.int i), x]) ∧ ∃ G3, TabAt C A G3 (Vbdcas.rounds n s) H3 ∧ Frm A H H3) ?_ ?_ ?_⟩
      · exact ⟨⟨_, rfl⟩, G, hT, Frm.refl⟩
      · rintro n σ H3 _ ⟨⟨x, rfl⟩, G3, t3, f3⟩
        refine r_gn ?_
        walk_at "go"
        refine ⟨A, G3, _, rfl, t3, hO.rounds n, fun G4 H4 t4 f4 => ?_⟩
        walk_at "go"
        refine ⟨⟨_, rfl⟩, G4, ?_, f3.trans f4⟩
        rw [rounds_succ]
        exact t4
      · rintro σ H3 ⟨⟨x, rfl⟩, G3, t3, f3⟩
        subst hD
        walk_at "go"
        rename_i l hl
        exact k.give hT t3 f3 hl rfl
theorem map_nV (l : List Nat) : (l.map fun (n : Nat) => (n : Int)).map V.int = vs l := by
  rw [List.map_map]
  rfl
/-- an answer that leaves all as it was -/
theorem Ans.look {A : Ad} {G : Gh} {s : State} {H H1 : Hp} {Q : VK} {x : List Nat} (k : Ans C A H Q (Vbdcas.yes s x)) (hT : TabAt C A G s H) (ss : Same H H1) {l : Addr} (hl : H l = none) (h : H1 l = some (.lst (vs (0 :: x)))) : Q (.ref l) H1 :=
  k A G _ l (hT.same ss) Mv.refl (Frm.same ss) (by rw [h]; show _ = some (HO.lst (List.map V.int (0 :: x.map fun (n : Nat) => (n : Int)))); rw [List.map_cons, map_nV]; rfl) hl
def sp_F_show_net (C : Cs) (K : PySem.W.Frag) : Sp := fun vv H Q _ => ∃ (A : Ad) (G : Gh) (s : State), vv = [.ref (A.at_ .table)] ∧ (TabAt C A G s H) ∧ (Ok s) ∧ (Ans C A H Q (Vbdcas.does s .net))
theorem ok_F_show_net (T : Txt K mg C) : FB P w K mg base "show_net" 3 p_F_show_net (sp_F_show_net C K) := by
  have M_Net_told := ok_M_Net_told (P := P) (w := w) (base := base) T
  have sc := sc_F_show_net
  refine FB.of T.f_F_show_net sc ba_F_show_net (fun vv H Q E h => ?_) (fun fn cdv A0 outer s0 H vv Q E hr h => ?_)
  · obtain ⟨_, _, _, rfl, _⟩ := h
    rfl
  · obtain ⟨A, G, s, rfl, hT, hO, k⟩ := h
    refine ⟨_, (pss_one (ps_ret (pe_op op_cat (pe_lst (pa_cons (pe_gi T.g_DONE rfl) pa_nil)) (pe_m0 M_Net_told (hr.mono (by decide)) (pe_fld (pv 0) rfl))))), ?_⟩
    walk_at "go"
    rename_i q hq
    refine ⟨A, G, s, rfl, hT.new hq, hO, fun H2 l ss hl hl2 => ?_⟩
    walk_at "go"
    refine ⟨_, _, _, _, rfl, rfl, ss _ _ upd_same, hl2, ?_, fun p hp => ?_⟩
    · have := rows_take_len hO s.net.length
      rw [List.take_length] at this
      simp only [vs, List.length_map, List.length_cons, List.length_nil]
      unfold sizeLine
      omega
    have ss2 := (same_new (o := HO.lst [V.int 0]) hq).trans ss
    exact Ans.look (x := rows s.net) k hT (ss2.trans (same_new hp)) (ss2.free hp) upd_same
def sp_F_show_log (C : Cs) (K : PySem.W.Frag) : Sp := fun vv H Q _ => ∃ (A : Ad) (G : Gh) (s : State), vv = [.ref (A.at_ .table)] ∧ (TabAt C A G s H) ∧ (Ok s) ∧ (Ans C A H Q (Vbdcas.does s .log))
theorem ok_F_show_log (T : Txt K mg C) : FB P w K mg base "show_log" 1 p_F_show_log (sp_F_show_log C K) := by
  have sc := sc_F_show_log
  refine FB.of T.f_F_show_log sc ba_F_show_log (fun vv H Q E h => ?_) (fun fn cdv A0 outer s0 H vv Q E hr h => ?_)
  · obtain ⟨_, _, _, rfl, _⟩ := h
    rfl
  · obtain ⟨A, G, s, rfl, hT, hO, k⟩ := h
    refine ⟨_, (pss_one (ps_ret (pe_op op_cat (pe_lst (pa_cons (pe_gi T.g_DONE rfl) pa_nil)) (pe_fld (pe_fld (pv 0) rfl) rfl)))), ?_⟩
    walk_at "go"
    rename_i q hq
    refine ⟨_, _, _, _, rfl, rfl, upd_same, (hT.new hq).log, ?_, fun p hp => ?_⟩
    · have := hO.log
      simp only [vs, List.length_map, List.length_cons, List.length_nil]
      unfold sizeLine
      omega
    have ss2 := same_new (o := HO.lst [V.int 0]) hq
    exact Ans.look (x := s.log) k hT (ss2.trans (same_new hp)) (ss2.free hp) upd_same
def sp_F_show_machine (C : Cs) (K : PySem.W.Frag) : Sp := fun vv H Q _ => ∃ (A : Ad) (G : Gh) (s : State) (i : Int), vv = [.ref (A.at_ .table), .int i] ∧ (TabAt C A G s H) ∧ (Ok s) ∧ (Ans C A H Q (Vbdcas.does s (.client i)))
theorem ok_F_show_machine (T : Txt K mg C) : FB P w K mg base "show_machine" 3 p_F_show_machine (sp_F_show_machine C K) := by
  have F_is_side := ok_F_is_side (P := P) (w := w) (base := base) T
  have M_Machine_told := ok_M_Machine_told (P := P) (w := w) (base := base) T
  have sc := sc_F_show_machine
  refine FB.of T.f_F_show_machine sc ba_F_show_machine (fun vv H Q E h => ?_) (fun fn cdv A0 outer s0 H vv Q E hr h => ?_)
  · obtain ⟨_, _, _, _, rfl, _⟩ := h
    rfl
  · obtain ⟨A, G, s, i, rfl, hT, hO, k⟩ := h
    refine ⟨_, (pss_cons (ps_if (pt_not (pt_val (pe_f F_is_side (hr.mono (by decide)) rfl (pa_cons (pv 1) pa_nil)))) (pss_one (ps_ret (pe_lst (pa_cons (pe_gi T.g_OUT_OF_RANGE rfl) pa_nil)))) pss_nil)
      (pss_one (ps_ret (pe_op op_cat (pe_lst (pa_cons (pe_gi T.g_DONE rfl) pa_nil)) (pe_m0 M_Machine_told (hr.mono (by decide)) (pe_ix ix_list (pe_fld (pv 0) rfl) (pv 1) (fun _ _ => rfl))))))), ?_⟩
    walk_at "go"
    simp only [Vbdcas.does] at k
    refine ⟨i, rfl, trivial, ?_⟩
    walk_at "go"
    refine ite2 (fun h1 => ?_) (fun h1 => ?_)
    · rw [if_pos (by simpa using h1)] at k
      walk_at "go"
      rename_i l hl
      exact k.give hT hT Frm.refl hl rfl
    · have h1' : Vbdcas.from_ i 0 1 = true := by simpa using h1
      have hi := from_nat h1' (by decide)
      rw [if_neg (by rw [h1']; decide)] at k
      have hp : i.toNat < 2 := by omega
      generalize i.toNat = p at *
      obtain ⟨rfl, _⟩ := hi
      have h60 : (cli s (zb p)).known.length ≤ 60 := by
        rw [cli_zb]
        exact Nat.le_trans (cliOk_of hO p).known hO.log
      walk_at "go"
      rename_i q hq
      refine ⟨A, G, s, zb p, rfl, hT.new hq, h60, fun H2 l ss hl hl2 => ?_⟩
      walk_at "go"
      refine ⟨_, _, _, _, rfl, rfl, ss _ _ upd_same, hl2, ?_, fun pp hpp => ?_⟩
      · simp only [vs, List.length_map, List.length_cons, List.length_nil, List.length_append]
        unfold sizeLine
        omega
      rw [cli_zb] at *
      have ss2 := (same_new (o := HO.lst [V.int 0]) hq).trans ss
      exact Ans.look k hT (ss2.trans (same_new hpp)) (ss2.free hpp) upd_same
def houseRow (s : State) : Nat → List Nat
  | 0 => [0, s.now, s.over, Vbdcas.bit s.running, Vbdcas.elapsed s, s.log.length, s.lost]
  | 1 => [0, s.now, s.over, Vbdcas.bit s.running, Vbdcas.elapsed s, s.log.length, s.lost] ++ Vbdcas.seatRow s.s0
  | _ => [0, s.now, s.over, Vbdcas.bit s.running, Vbdcas.elapsed s, s.log.length, s.lost] ++ Vbdcas.seatRow s.s0 ++ Vbdcas.seatRow s.s1
def sp_F_show_house (C : Cs) (K : PySem.W.Frag) : Sp := fun vv H Q _ => ∃ (A : Ad) (G : Gh) (s : State), vv = [.ref (A.at_ .table)] ∧ (TabAt C A G s H) ∧ (Ok s) ∧ (Ans C A H Q (Vbdcas.does s .house))
theorem ok_F_show_house (T : Txt K mg C) : FB P w K mg base "show_house" 2 p_F_show_house (sp_F_show_house C K) := by
  have M_House_has_had := ok_M_House_has_had (P := P) (w := w) (base := base) T
  have M_Seat_told := ok_M_Seat_told (P := P) (w := w) (base := base) T
  have sc := sc_F_show_house
  refine FB.of T.f_F_show_house sc ba_F_show_house (fun vv H Q E h => ?_) (fun fn cdv A0 outer s0 H vv Q E hr h => ?_)
  · obtain ⟨_, _, _, rfl, _⟩ := h
    rfl
  · obtain ⟨A, G, s, rfl, hT, hO, k⟩ := h
    refine ⟨_, (pss_cons (ps_set (i := 1) sc.nd rfl (Or.inl rfl) (pe_fld (pv 0) rfl))
      (pss_cons (ps_set (i := 2) sc.nd rfl (Or.inl rfl) (pe_fld (pv 0) rfl))
      (pss_cons (ps_set (i := 3) sc.nd rfl (Or.inl rfl) (pe_ifExp (pt_val (pe_fld (pv 1) rfl)) pe_int pe_int))
      (pss_cons (ps_set (i := 4) sc.nd rfl (Or.inl rfl) (pe_lst (pa_cons (pe_gi T.g_DONE rfl) (pa_cons (pv 2) (pa_cons (pe_fld (pv 1) rfl) (pa_cons (pv 3) (pa_cons (pe_m M_House_has_had (hr.mono (by decide)) (pv 1) (pa_cons (pv 2) pa_nil)) (pa_cons (pe_callB call_len_seq (by rfl) T.b_len PySem.boot_len (pa_cons (pe_fld (pv 1) rfl) pa_nil)) (pa_cons (pe_fld (pe_fld (pv 0) rfl) rfl) pa_nil)))))))))
      (pss_cons (ps_for PassesOwn.never rfl (pi_list (pe_fld (pv 1) rfl)) (pg_name (i := 5) sc.nd rfl (Or.inl rfl)) (pss_one (ps_expr (pe_bm PySem.F.plainAttrs_list PySem.F.slot_list_extend PySem.F.type_list_extend mt_extend (pv 4) (pa_cons (pe_m0 M_Seat_told (hr.mono (by decide)) (pv 5)) pa_nil)))))
      (pss_one (ps_ret (pv 4)))))))), ?_⟩
    have er : (if s.running = true then (1 : Int) else 0) = (Vbdcas.bit s.running : Nat) := by
      unfold Vbdcas.bit
      split <;> rfl
    walk_at "go"
    refine ite_join (R := fun i => tC (V.int i) _ _ _) er ?_
    walk_at "go"
    refine ⟨A, G, s, rfl, hT, hO, ?_⟩
    walk_at "go"
    rename_i g hg
    have hg1 : upd H g (HO.lst [V.int 0, nV s.now, nV s.over, nV (Vbdcas.bit s.running), nV (Vbdcas.elapsed s), V.int ((vs s.log).length : Int), nV s.lost]) g = some (.lst (vs (houseRow s 0))) := by
      rw [upd_same, List.length_map]
      rfl
    have ss1 := same_new (o := HO.lst [V.int 0, nV s.now, nV s.over, nV (Vbdcas.bit s.running), nV (Vbdcas.elapsed s), V.int ((vs s.log).length : Int), nV s.lost]) hg
    generalize upd H g (HO.lst [V.int 0, nV s.now, nV s.over, nV (Vbdcas.bit s.running), nV (Vbdcas.elapsed s), V.int ((vs s.log).length : Int), nV s.lost]) = H1 at *
    have t1 := hT.same ss1
    try dsimp only
    generalize hD : Ends.mk _ _ _ _ = D0
    refine r_forL ?_
    walk_at "go"
    refine ⟨_, rfl, ⟨_, .inl (.inl t1.seats)⟩, for_list (xs := [.ref (A.at_ (.seat true)), .ref (A.at_ (.seat false))]) (fun i σ H3 => (∃ a b c d x, σ = [some (.ref a), some (.ref b), some c, some d, some (.ref g), x]) ∧ Same H H3 ∧ H3 g = some (.lst (vs (houseRow s i)))) ?_ ?_ ?_ ?_⟩
    · exact ⟨⟨_, _, _, _, _, rfl⟩, ss1, hg1⟩
    · rintro i σ H3 _ ⟨_, s3, _⟩
      exact .inl (.inl (hT.same s3).seats)
    · rintro i x σ H3 e ⟨⟨a, b, c, d, x1, rfl⟩, s3, g3⟩
      have t3 := hT.same s3
      match i, e, g3 with
      | 0, e, g3 =>
        cases e
        refine r_gn ?_
        walk_at "go"
        refine ⟨A, G, s, true, rfl, t3, fun H4 l s4 hl hl4 => ?_⟩
        walk_at "go"
        refine ⟨_, _, _, _, rfl, rfl, s4 _ _ g3, hl4, Nat.le_of_ble_eq_true rfl, ?_⟩
        walk_at "go"
        exact ⟨⟨_, _, _, _, _, rfl⟩, same_put (s3.trans s4) hg, upd_same⟩
      | 1, e, g3 =>
        cases e
        refine r_gn ?_
        walk_at "go"
        refine ⟨A, G, s, false, rfl, t3, fun H4 l s4 hl hl4 => ?_⟩
        walk_at "go"
        refine ⟨_, _, _, _, rfl, rfl, s4 _ _ g3, hl4, Nat.le_of_ble_eq_true rfl, ?_⟩
        walk_at "go"
        exact ⟨⟨_, _, _, _, _, rfl⟩, same_put (s3.trans s4) hg, upd_same⟩
      | n + 2, e, g3 => cases e
    · rintro σ H3 ⟨⟨a, b, c, d, x, rfl⟩, s3, g3⟩
      subst hD
      walk_at "go"
      exact Ans.look k hT s3 hg g3
/-- a desk whose table is in the state s stands at d; what stands at av is of others -/
def DeskAt (C : Cs) (av : Addr → Prop) (H : Hp) (d : Addr) (s : State) : Prop := ¬ av d ∧ (∀ b, av b → ∃ o, H b = some o) ∧
  ((∃ dx, s.ready = false ∧ H d = some (.ins C.desk dx [("table", .non)])) ∨
  ∃ dx A G, s.ready = true ∧ H d = some (.ins C.desk dx [("table", .ref (A.at_ .table))]) ∧ TabAt C A G s H ∧ A.av = av ∧ (∀ c, d ≠ A.at_ c))
theorem desk_obj {av : Addr → Prop} {H : Hp} {d : Addr} {s : State} (hD : DeskAt C av H d s) : ∃ dx v, H d = some (.ins C.desk dx [("table", v)]) := by
  rcases hD.2.2 with ⟨dx, _, h⟩ | ⟨dx, A, G, _, h, _⟩
  · exact ⟨dx, _, h⟩
  · exact ⟨dx, _, h⟩
theorem DeskAt.same {av : Addr → Prop} {H H' : Hp} {d : Addr} {s : State} (hD : DeskAt C av H d s) (ss : Same H H') : DeskAt C av H' d s := by
  refine ⟨hD.1, fun b hb => by obtain ⟨o, e⟩ := hD.2.1 b hb; exact ⟨o, ss _ _ e⟩, ?_⟩
  rcases hD.2.2 with ⟨dx, h1, h2⟩ | ⟨dx, A, G, h1, h2, h3, h4, h5⟩
  · exact .inl ⟨dx, h1, ss _ _ h2⟩
  · exact .inr ⟨dx, A, G, h1, ss _ _ h2, h3.same ss, h4, h5⟩
theorem DeskAt.aside {av : Addr → Prop} {H : Hp} {d g : Addr} {s : State} {o : HO} (hD : DeskAt C av H d s) (hg : av g) : DeskAt C av (upd H g o) d s := by
  have nd : d ≠ g := fun e => hD.1 (by rw [e]; exact hg)
  refine ⟨hD.1, avs_upd hD.2.1, ?_⟩
  rcases hD.2.2 with ⟨dx, h1, h2⟩ | ⟨dx, A, G, h1, h2, h3, h4, h5⟩
  · exact .inl ⟨dx, h1, by rw [upd_ne nd]; exact h2⟩
  · exact .inr ⟨dx, A, G, h1, by rw [upd_ne nd]; exact h2, h3.aside (by rw [h4]; exact hg), h4, h5⟩
/-- what a call on the desk gives -/
def AnsD (C : Cs) (av : Addr → Prop) (H : Hp) (Q : VK) (d : Addr) (x : State × List Int) : Prop := ∀ H' l, DeskAt C av H' d x.1 → (∀ b o, av b → H b = some o → H' b = some o) → H' l = some (.lst (x.2.map V.int)) → H l = none → Q (.ref l) H'
def sp_K_Desk (C : Cs) (K : PySem.W.Frag) : Sp := fun vv H Q _ => ∃ (a : Addr) (dx : Addr), vv = [.ref a] ∧ (H a = some (.ins C.desk dx [])) ∧ (∀ H', H' a = some (.ins C.desk dx [("table", .non)]) → But a H H' → Q .non H')
theorem ok_K_Desk (T : Txt K mg C) : KB P w K mg base "Desk" C.desk 1 p_K_Desk (sp_K_Desk C K) := by
  have sc := sc_K_Desk
  refine KB.of T.f_K_Desk sc ba_K_Desk (fun vv H Q E h => ?_) (fun fn cdv A0 outer s0 H vv Q E hr h => ?_)
  · obtain ⟨_, _, rfl, _⟩ := h
    rfl
  · obtain ⟨a, dx, rfl, ha, k⟩ := h
    refine ⟨_, (pss_one (ps_fld (pv 0) pe_non rfl)), ?_⟩
    walk_at "go"
    exact k _ upd_same (by repeat (first | exact but_refl | apply but_upd))
theorem at0 {xs : List Int} {x : Int} {i : Nat} (h : xs[i]? = some x) : atI (xs.map V.int) (i : Int) = some (.int x) := atI_nat (by rw [List.getElem?_map, h]; rfl)
theorem k_at {H : Hp} {Q : VK} {p : Addr} {xs : List Int} {i : Int} {x : Int} (hs : H p = some (.lst (xs.map V.int))) (n : Nat) (hi : i = (n : Int)) (h : xs[n]? = some x) (q : Q (.int x) H) : rIxL K (.ref p) (.int i) H Q := by
  subst hi
  exact ⟨_, _, _, _, rfl, rfl, .inl (.inl hs), at0 h, q⟩
def sp_F_ask (C : Cs) (K : PySem.W.Frag) : Sp := fun vv H Q _ => ∃ (A : Ad) (G : Gh) (s : State) (n : Int) (xs : (List Int)) (l : Addr) (c : Vbdcas.Call), vv = [.ref (A.at_ .table), .int n, .ref l] ∧ (TabAt C A G s H) ∧ (Ok s) ∧ (H l = some (.lst (xs.map V.int))) ∧ (Is n xs c) ∧ (n ≠ 0) ∧ (Ans C A H Q (Vbdcas.does s c))
theorem ok_F_ask (T : Txt K mg C) : FB P w K mg base "ask" 9 p_F_ask (sp_F_ask C K) := by
  have F_tick := ok_F_tick (P := P) (w := w) (base := base) T
  have F_press := ok_F_press (P := P) (w := w) (base := base) T
  have F_again := ok_F_again (P := P) (w := w) (base := base) T
  have F_nudge := ok_F_nudge (P := P) (w := w) (base := base) T
  have F_deliver := ok_F_deliver (P := P) (w := w) (base := base) T
  have F_drop := ok_F_drop (P := P) (w := w) (base := base) T
  have F_double := ok_F_double (P := P) (w := w) (base := base) T
  have F_crash := ok_F_crash (P := P) (w := w) (base := base) T
  have F_restart := ok_F_restart (P := P) (w := w) (base := base) T
  have F_rounds := ok_F_rounds (P := P) (w := w) (base := base) T
  have F_show_net := ok_F_show_net (P := P) (w := w) (base := base) T
  have F_show_house := ok_F_show_house (P := P) (w := w) (base := base) T
  have F_show_machine := ok_F_show_machine (P := P) (w := w) (base := base) T
  have F_show_log := ok_F_show_log (P := P) (w := w) (base := base) T
  have sc := sc_F_ask
  refine FB.of T.f_F_ask sc ba_F_ask (fun vv H Q E h => ?_) (fun fn cdv A0 outer s0 H vv Q E hr h => ?_)
  · obtain ⟨_, _, _, _, _, _, _, rfl, _⟩ := h
    rfl
  · obtain ⟨A, G, s, n, xs, l, c, rfl, hT, hO, hl, hc, hs, k⟩ := h
    refine ⟨_, (pss_cons (ps_if (pt_cmpR op_eq (pv 1) (pe_gi T.g_TICK rfl) (nomark _)) (pss_one (ps_ret (pe_f F_tick (hr.mono (by decide)) rfl (pa_cons (pv 0) (pa_cons (pe_ix ix_list (pv 2) pe_int (fun _ _ => rfl)) pa_nil))))) pss_nil)
      (pss_cons (ps_if (pt_cmpR op_eq (pv 1) (pe_gi T.g_PRESS rfl) (nomark _)) (pss_one (ps_ret (pe_f F_press (hr.mono (by decide)) rfl (pa_cons (pv 0) (pa_cons (pe_ix ix_list (pv 2) pe_int (fun _ _ => rfl)) (pa_cons (pe_ix ix_list (pv 2) pe_int (fun _ _ => rfl)) pa_nil)))))) pss_nil)
      (pss_cons (ps_if (pt_cmpR op_eq (pv 1) (pe_gi T.g_AGAIN rfl) (nomark _)) (pss_one (ps_ret (pe_f F_again (hr.mono (by decide)) rfl (pa_cons (pv 0) (pa_cons (pe_ix ix_list (pv 2) pe_int (fun _ _ => rfl)) pa_nil))))) pss_nil)
      (pss_cons (ps_if (pt_cmpR op_eq (pv 1) (pe_gi T.g_NUDGE rfl) (nomark _)) (pss_one (ps_ret (pe_f F_nudge (hr.mono (by decide)) rfl (pa_cons (pv 0) pa_nil)))) pss_nil)
      (pss_cons (ps_if (pt_cmpR op_eq (pv 1) (pe_gi T.g_DELIVER rfl) (nomark _)) (pss_one (ps_ret (pe_f F_deliver (hr.mono (by decide)) rfl (pa_cons (pv 0) (pa_cons (pe_ix ix_list (pv 2) pe_int (fun _ _ => rfl)) pa_nil))))) pss_nil)
      (pss_cons (ps_if (pt_cmpR op_eq (pv 1) (pe_gi T.g_DROP rfl) (nomark _)) (pss_one (ps_ret (pe_f F_drop (hr.mono (by decide)) rfl (pa_cons (pv 0) (pa_cons (pe_ix ix_list (pv 2) pe_int (fun _ _ => rfl)) pa_nil))))) pss_nil)
      (pss_cons (ps_if (pt_cmpR op_eq (pv 1) (pe_gi T.g_DOUBLE rfl) (nomark _)) (pss_one (ps_ret (pe_f F_double (hr.mono (by decide)) rfl (pa_cons (pv 0) (pa_cons (pe_ix ix_list (pv 2) pe_int (fun _ _ => rfl)) pa_nil))))) pss_nil)
      (pss_cons (ps_if (pt_cmpR op_eq (pv 1) (pe_gi T.g_CRASH rfl) (nomark _)) (pss_one (ps_ret (pe_f F_crash (hr.mono (by decide)) rfl (pa_cons (pv 0) (pa_cons (pe_ix ix_list (pv 2) pe_int (fun _ _ => rfl)) pa_nil))))) pss_nil)
      (pss_cons (ps_if (pt_cmpR op_eq (pv 1) (pe_gi T.g_RESTART rfl) (nomark _)) (pss_one (ps_ret (pe_f F_restart (hr.mono (by decide)) rfl (pa_cons (pv 0) pa_nil)))) pss_nil)
      (pss_cons (ps_if (pt_cmpR op_eq (pv 1) (pe_gi T.g_ROUNDS rfl) (nomark _)) (pss_one (ps_ret (pe_f F_rounds (hr.mono (by decide)) rfl (pa_cons (pv 0) (pa_cons (pe_ix ix_list (pv 2) pe_int (fun _ _ => rfl)) pa_nil))))) pss_nil)
      (pss_cons (ps_if (pt_cmpR op_eq (pv 1) (pe_gi T.g_NET rfl) (nomark _)) (pss_one (ps_ret (pe_f F_show_net (hr.mono (by decide)) rfl (pa_cons (pv 0) pa_nil)))) pss_nil)
      (pss_cons (ps_if (pt_cmpR op_eq (pv 1) (pe_gi T.g_HOUSE rfl) (nomark _)) (pss_one (ps_ret (pe_f F_show_house (hr.mono (by decide)) rfl (pa_cons (pv 0) pa_nil)))) pss_nil)
      (pss_cons (ps_if (pt_cmpR op_eq (pv 1) (pe_gi T.g_MACHINE rfl) (nomark _)) (pss_one (ps_ret (pe_f F_show_machine (hr.mono (by decide)) rfl (pa_cons (pv 0) (pa_cons (pe_ix ix_list (pv 2) pe_int (fun _ _ => rfl)) pa_nil))))) pss_nil)
      (pss_one (ps_ret (pe_f F_show_log (hr.mono (by decide)) rfl (pa_cons (pv 0) pa_nil))))))))))))))))), ?_⟩
    cases c with
    | set a b c d => exact absurd hc.1 hs
    | tick a =>
      obtain ⟨rfl, rfl⟩ := hc
      walk_at "go"
      refine ite2 (fun _ => ?_) (fun h => absurd rfl h)
      walk_at "go"
      refine k_at hl 0 rfl rfl ?_
      walk_at "go"
      exact ⟨A, G, s, a, rfl, hT, hO, k⟩
    | press a b =>
      obtain ⟨rfl, rfl⟩ := hc
      walk_at "go"
      refine ite2 (fun h => absurd h (by decide)) (fun _ => ?_)
      walk_at "go"
      refine ite2 (fun _ => ?_) (fun h => absurd rfl h)
      walk_at "go"
      refine k_at hl 0 rfl rfl ?_
      walk_at "go"
      refine k_at hl 1 rfl rfl ?_
      walk_at "go"
      exact ⟨A, G, s, a, b, rfl, hT, hO, k⟩
    | again a =>
      obtain ⟨rfl, rfl⟩ := hc
      walk_at "go"
      iterate 2
        refine ite2 (fun h => absurd h (by decide)) (fun _ => ?_)
        walk_at "go"
      refine ite2 (fun _ => ?_) (fun h => absurd rfl h)
      walk_at "go"
      refine k_at hl 0 rfl rfl ?_
      walk_at "go"
      exact ⟨A, G, s, a, rfl, hT, hO, k⟩
    | nudge =>
      obtain ⟨rfl, rfl⟩ := hc
      walk_at "go"
      iterate 3
        refine ite2 (fun h => absurd h (by decide)) (fun _ => ?_)
        walk_at "go"
      refine ite2 (fun _ => ?_) (fun h => absurd rfl h)
      walk_at "go"
      exact ⟨A, G, s, rfl, hT, hO, k⟩
    | deliver a =>
      obtain ⟨rfl, rfl⟩ := hc
      walk_at "go"
      iterate 4
        refine ite2 (fun h => absurd h (by decide)) (fun _ => ?_)
        walk_at "go"
      refine ite2 (fun _ => ?_) (fun h => absurd rfl h)
      walk_at "go"
      refine k_at hl 0 rfl rfl ?_
      walk_at "go"
      exact ⟨A, G, s, a, rfl, hT, hO, k⟩
    | drop a =>
      obtain ⟨rfl, rfl⟩ := hc
      walk_at "go"
      iterate 5
        refine ite2 (fun h => absurd h (by decide)) (fun _ => ?_)
        walk_at "go"
      refine ite2 (fun _ => ?_) (fun h => absurd rfl h)
      walk_at "go"
      refine k_at hl 0 rfl rfl ?_
      walk_at "go"
      exact ⟨A, G, s, a, rfl, hT, hO, k⟩
    | double a =>
      obtain ⟨rfl, rfl⟩ := hc
      walk_at "go"
      iterate 6
        refine ite2 (fun h => absurd h (by decide)) (fun _ => ?_)
        walk_at "go"
      refine ite2 (fun _ => ?_) (fun h => absurd rfl h)
      walk_at "go"
      refine k_at hl 0 rfl rfl ?_
      walk_at "go"
      exact ⟨A, G, s, a, rfl, hT, hO, k⟩
    | crash a =>
      obtain ⟨rfl, rfl⟩ := hc
      walk_at "go"
      iterate 7
        refine ite2 (fun h => absurd h (by decide)) (fun _ => ?_)
        walk_at "go"
      refine ite2 (fun _ => ?_) (fun h => absurd rfl h)
      walk_at "go"
      refine k_at hl 0 rfl rfl ?_
      walk_at "go"
      exact ⟨A, G, s, a, rfl, hT, hO, k⟩
    | restart =>
      obtain ⟨rfl, rfl⟩ := hc
      walk_at "go"
      iterate 8
        refine ite2 (fun h => absurd h (by decide)) (fun _ => ?_)
        walk_at "go"
      refine ite2 (fun _ => ?_) (fun h => absurd rfl h)
      walk_at "go"
      exact ⟨A, G, s, rfl, hT, hO, k⟩
    | rounds a =>
      obtain ⟨rfl, rfl⟩ := hc
      walk_at "go"
      iterate 9
        refine ite2 (fun h => absurd h (by decide)) (fun _ => ?_)
        walk_at "go"
      refine ite2 (fun _ => ?_) (fun h => absurd rfl h)
      walk_at "go"
      refine k_at hl 0 rfl rfl ?_
      walk_at "go"
      exact ⟨A, G, s, a, rfl, hT, hO, k⟩
    | net =>
      obtain ⟨rfl, rfl⟩ := hc
      walk_at "go"
      iterate 10
        refine ite2 (fun h => absurd h (by decide)) (fun _ => ?_)
        walk_at "go"
      refine ite2 (fun _ => ?_) (fun h => absurd rfl h)
      walk_at "go"
      exact ⟨A, G, s, rfl, hT, hO, k⟩
    | house =>
      obtain ⟨rfl, rfl⟩ := hc
      walk_at "go"
      iterate 11
        refine ite2 (fun h => absurd h (by decide)) (fun _ => ?_)
        walk_at "go"
      refine ite2 (fun _ => ?_) (fun h => absurd rfl h)
      walk_at "go"
      exact ⟨A, G, s, rfl, hT, hO, k⟩
    | client a =>
      obtain ⟨rfl, rfl⟩ := hc
      walk_at "go"
      iterate 12
        refine ite2 (fun h => absurd h (by decide)) (fun _ => ?_)
        walk_at "go"
      refine ite2 (fun _ => ?_) (fun h => absurd rfl h)
      walk_at "go"
      refine k_at hl 0 rfl rfl ?_
      walk_at "go"
      exact ⟨A, G, s, a, rfl, hT, hO, k⟩
    | log =>
      obtain ⟨rfl, rfl⟩ := hc
      walk_at "go"
      iterate 13
        refine ite2 (fun h => absurd h (by decide)) (fun _ => ?_)
        walk_at "go"
      exact ⟨A, G, s, rfl, hT, hO, k⟩
theorem net_nil {A : Ad} {H H' : Hp} {kvs : List (Key × V)} (h : NetAt C A H [] kvs) : NetAt C A H' [] kvs := by
  cases h
  exact .nil
def sp_M_Desk_set_table (C : Cs) (K : PySem.W.Frag) : Sp := fun vv H Q _ => ∃ (d : Addr) (l : Addr) (s : State) (a : Int) (b : Int) (c : Int) (e : Int) (av : (Addr→Prop)), vv = [.ref d, .ref l] ∧ (DeskAt C av H d s) ∧ (H l = some (.lst ([a, b, c, e].map V.int))) ∧ (AnsD C av H Q d (Vbdcas.step s (.set a b c e)))
theorem ok_M_Desk_set_table (T : Txt K mg C) : MB P w K mg base C.desk "set_table" 8 p_M_Desk_set_table (sp_M_Desk_set_table C K) := by
  have F_new_table := ok_F_new_table (P := P) (w := w) (base := base) T
  have sc := sc_M_Desk_set_table
  refine MB.of T.f_M_Desk_set_table T.c_Desk sc ba_M_Desk_set_table (fun vv H Q E h => ?_) (fun fn cdv A0 outer s0 H vv Q E hr h => ?_)
  · obtain ⟨_, _, _, _, _, _, _, _, rfl, _⟩ := h
    rfl
  · obtain ⟨d, l, s, a, b, c, e, av, rfl, hD, hl, k⟩ := h
    refine ⟨_, (pss_cons (ps_set (i := 2) sc.nd rfl (Or.inl rfl) (pe_f F_new_table (hr.mono (by decide)) rfl (pa_cons (pe_ix ix_list (pv 1) pe_int (fun _ _ => rfl)) (pa_cons (pe_ix ix_list (pv 1) pe_int (fun _ _ => rfl)) (pa_cons (pe_ix ix_list (pv 1) pe_int (fun _ _ => rfl)) (pa_cons (pe_ix ix_list (pv 1) pe_int (fun _ _ => rfl)) pa_nil))))))
      (pss_cons (ps_if (pt_cmpR op_isN (pv 2) pe_non (nomark _)) (pss_one (ps_ret (pe_lst (pa_cons (pe_gi T.g_OUT_OF_RANGE rfl) pa_nil)))) pss_nil)
      (pss_cons (ps_fld (pv 0) (pv 2) rfl)
      (pss_one (ps_ret (pe_lst (pa_cons (pe_gi T.g_DONE rfl) pa_nil))))))), ?_⟩
    obtain ⟨dx, v, hd⟩ := desk_obj hD
    walk_at "go"
    refine k_at hl 0 rfl rfl ?_
    walk_at "go"
    refine k_at hl 1 rfl rfl ?_
    walk_at "go"
    refine k_at hl 2 rfl rfl ?_
    walk_at "go"
    refine k_at hl 3 rfl rfl ?_
    walk_at "go"
    refine ⟨a, b, c, e, av, rfl, hD.2.1, fun hf => ?_, fun hf A G H1 t1 eav fr ss => ?_⟩
    · have es : Vbdcas.step s (.set a b c e) = Vbdcas.no s 1 := by
        show (if _ then _ else _) = _
        rw [if_pos]
        refine Classical.byContradiction fun q => hf ⟨?_, ?_, ?_, ?_⟩
        · cases h : Vbdcas.from_ a 1 1000000000 with | true => rfl | false => exact absurd (.inl h) q
        · cases h : Vbdcas.from_ b 1 1000000000 with | true => rfl | false => exact absurd (.inr (.inl h)) q
        · cases h : Vbdcas.from_ c 0 1000000 with | true => rfl | false => exact absurd (.inr (.inr (.inl h))) q
        · cases h : Vbdcas.from_ e 0 100000 with | true => rfl | false => exact absurd (.inr (.inr (.inr h))) q
      rw [es] at k
      walk_at "go"
      refine ite2 (fun _ => ?_) (fun h => absurd rfl h)
      walk_at "go"
      rename_i p hp
      have ss := same_new (o := .lst [V.int (-1)]) hp
      exact k _ p (hD.same ss) (fun b o _ h => ss b o h) upd_same hp
    · have es : Vbdcas.step s (.set a b c e) = Vbdcas.yes { ready := true, inc := c.toNat, lag := e.toNat, s0 := { bank := a.toNat }, s1 := { bank := b.toNat } } [] := by
        show (if _ then _ else _) = _
        rw [if_neg]
        rintro (q | q | q | q)
        · rw [hf.1] at q; cases q
        · rw [hf.2.1] at q; cases q
        · rw [hf.2.2.1] at q; cases q
        · rw [hf.2.2.2] at q; cases q
      rw [es] at k
      have hd1 := ss _ _ hd
      walk_at "go"
      refine ite2 (fun h => absurd h (by simp)) (fun _ => ?_)
      walk_at "go"
      rename_i p hp
      have dc : ∀ c, d ≠ A.at_ c := fun c q => by rw [q, fr c] at hd; cases hd
      have nb : ∀ z, G.bt z ≠ d := fun z q => by
        have := (t1.bank z).2
        rw [q, hd1] at this
        cases this
      have t2 : TabAt C A G _ (upd H1 d (HO.ins C.desk dx (putF "table" (V.ref (A.at_ Cell.table)) [("table", v)]))) :=
        ⟨t1.inj, t1.cav, avs_upd t1.avs, fun c => (upd_ne (fun q => dc c q.symm)).trans (t1.cell c), fun z => by have := t1.req z; cases z <;> exact this, fun z => ⟨(t1.bank z).1, (upd_ne (nb z)).trans (t1.bank z).2⟩, net_nil t1.net⟩
      refine k _ p ⟨hD.1, ?_, .inr ⟨dx, A, G, rfl, upd_old hp upd_same, t2.new hp, eav, dc⟩⟩ ?_ upd_same (ss.free (upd_none hp))
      · rw [← eav]
        exact (t2.new hp).avs
      · intro b o hb no
        refine upd_old hp ?_
        rw [upd_ne (fun q => hD.1 (by rw [← q]; exact hb))]
        exact ss _ _ no
theorem step_ready {s : State} {n : Int} {xs : List Int} {c : Vbdcas.Call} (hc : Is n xs c) (hn : n ≠ 0) : Vbdcas.step s c = if s.ready = false then Vbdcas.no s 5 else Vbdcas.does s c := by
  cases c with
  | set _ _ _ _ => exact absurd hc.1 hn
  | _ => rfl
def sp_M_Desk_answer (C : Cs) (K : PySem.W.Frag) : Sp := fun vv H Q _ => ∃ (d : Addr) (n : Int) (l : Addr) (s : State) (xs : (List Int)) (c : Vbdcas.Call) (av : (Addr→Prop)), vv = [.ref d, .int n, .ref l] ∧ (DeskAt C av H d s) ∧ (Ok s) ∧ (H l = some (.lst (xs.map V.int))) ∧ (Is n xs c) ∧ (AnsD C av H Q d (Vbdcas.step s c))
theorem ok_M_Desk_answer (T : Txt K mg C) : MB P w K mg base C.desk "answer" 10 p_M_Desk_answer (sp_M_Desk_answer C K) := by
  have M_Desk_set_table := ok_M_Desk_set_table (P := P) (w := w) (base := base) T
  have F_ask := ok_F_ask (P := P) (w := w) (base := base) T
  have sc := sc_M_Desk_answer
  refine MB.of T.f_M_Desk_answer T.c_Desk sc ba_M_Desk_answer (fun vv H Q E h => ?_) (fun fn cdv A0 outer s0 H vv Q E hr h => ?_)
  · obtain ⟨_, _, _, _, _, _, _, rfl, _⟩ := h
    rfl
  · obtain ⟨d, n, l, s, xs, c, av, rfl, hD, hO, hl, hc, k⟩ := h
    refine ⟨_, (pss_cons (ps_if (pt_cmpR op_eq (pv 1) (pe_gi T.g_SET rfl) (nomark _)) (pss_one (ps_ret (pe_m M_Desk_set_table (hr.mono (by decide)) (pv 0) (pa_cons (pv 2) pa_nil)))) pss_nil)
      (pss_cons (ps_if (pt_cmpR op_isN (pe_fld (pv 0) rfl) pe_non (nomark _)) (pss_one (ps_ret (pe_lst (pa_cons (pe_gi T.g_NOT_SET rfl) pa_nil)))) pss_nil)
      (pss_one (ps_ret (pe_f F_ask (hr.mono (by decide)) rfl (pa_cons (pe_fld (pv 0) rfl) (pa_cons (pv 1) (pa_cons (pv 2) pa_nil)))))))), ?_⟩
    by_cases h0 : n = 0
    · obtain ⟨dx, v, hd⟩ := desk_obj hD
      cases c with
      | set a b c e =>
        obtain ⟨rfl, rfl⟩ := hc
        walk_at "go"
        refine ite2 (fun _ => ?_) (fun h => absurd rfl h)
        walk_at "go"
        exact ⟨d, l, s, a, b, c, e, av, rfl, hD, hl, k⟩
      | _ => exact absurd (hc.1.symm.trans h0) (by decide)
    · rw [step_ready hc h0] at k
      rcases hD.2.2 with ⟨dx, h1, h2⟩ | ⟨dx, A, G, h1, h2, h3, h4, h5⟩
      · rw [if_pos h1] at k
        walk_at "go"
        refine ite2 (fun h => absurd (of_decide_eq_true h) h0) (fun _ => ?_)
        walk_at "go"
        refine ite2 (fun _ => ?_) (fun h => absurd rfl h)
        walk_at "go"
        rename_i p hp
        have ss := same_new (o := .lst [V.int (-5)]) hp
        exact k _ p (hD.same ss) (fun b o _ h => ss b o h) upd_same hp
      · rw [if_neg (by rw [h1]; decide)] at k
        walk_at "go"
        refine ite2 (fun h => absurd (of_decide_eq_true h) h0) (fun _ => ?_)
        walk_at "go"
        refine ite2 (fun h => absurd h (by simp)) (fun _ => ?_)
        walk_at "go"
        refine ⟨A, G, s, n, xs, l, c, rfl, h3, hO, hl, hc, h0, fun A' G' H' p t' mv f' hp pn => ?_⟩
        have dc : ∀ c, d ≠ A'.at_ c := fun c q => by
          rcases mv.2 c with ⟨e, he⟩ | he
          · exact h5 e (q.trans he)
          · rw [← q, h2] at he
            cases he
        refine k H' p ⟨hD.1, ?_, .inr ⟨dx, A', G', by rw [ready_does]; exact h1, by rw [mv.1.1]; exact f' _ _ h2 h5, t', mv.1.2.trans h4, dc⟩⟩ ?_ hp pn
        · rw [← h4, ← mv.1.2]
          exact t'.avs
        · intro b o hb hbo
          exact f' b o hbo fun c q => h3.cav c (by rw [← q, h4]; exact hb)
theorem cut_mid (l : List Int) (i n : Nat) (h : i + n ≤ l.length) : cutV (l.map V.int) (some (i : Int)) (some ((i : Int) + (n : Int))) = ((l.drop i).take n).map V.int := by
  unfold cutV
  rw [show ((i : Int) + (n : Int)) = ((i + n : Nat) : Int) by omega, HT.sIx_nat, HT.sIx_nat, List.length_map]
  rw [show min i l.length = i by omega, show min (i + n) l.length - i = n by omega, List.map_take, List.map_drop]
theorem asked_ns {ns : List Int} (h : PyVbdcas.answers_asked ns = true) : ∃ cs, PyFlat.calls PyVbdcas.shape ns.length ns = some cs ∧ cs.length ≤ 400 ∧ PyVbdcas.answers ns = tail Vbdcas.start cs := by
  unfold PyVbdcas.answers_asked at h
  unfold PyVbdcas.answers
  rw [calls_eq] at h ⊢
  cases e : PyFlat.calls PyVbdcas.shape ns.length ns with
  | none => rw [e] at h; cases h
  | some cs =>
    rw [e] at h
    dsimp only at h
    rw [Bool.and_eq_true] at h
    exact ⟨cs, rfl, of_decide_eq_true h.1, rfl⟩
/-- a list of the text -/
def KLst (K : PySem.W.Frag) (a : Addr) (xs : List V) : Prop := ∃ (o : Obj) (its : Array Value) (n : Nat), K.lookup a = some o ∧ o.cls = .type "list" ∧ o.dict = none ∧ o.data = .seq its n ∧ its.size ≤ sizeLine ∧ Vals xs its.toList
theorem rd_some {H : Hp} {a : Addr} {u : HO} (h : Rd H a u) : ∃ o, H a = some o := by
  rcases h with h | ⟨o, h⟩
  · exact ⟨_, h⟩
  · exact ⟨_, h⟩
theorem rd_keep {H H' : Hp} {a : Addr} {u : HO} (h : Rd H a u) (k : ∀ o, H a = some o → H' a = some o) : Rd H' a u := by
  rcases h with h | ⟨o, h⟩
  · exact .inl (k _ h)
  · exact .inr ⟨o, k _ h⟩
/-- the loop's word -/
structure Lp (C : Cs) (K : PySem.W.Frag) (ns : List Int) (a d g : Addr) (σ : L2.St) (H : Hp) (pos : Nat) (s : State) (av : Addr → Prop) (f done : Nat) (cs : List (List (List Int))) (gl : List Int) (x y z : Option V) : Prop where
  st : σ = [some (.ref a), some (.ref d), some (.ref g), some (.int (pos : Int)), x, y, z]
  pos_le : pos ≤ ns.length
  calls : (Rd H a (.lst (ns.map V.int)) ∧ av a ∧ g ≠ a) ∨ KLst K a (ns.map V.int)
  avg : av g
  giv : H g = some (.lst (gl.map V.int))
  dsk : DeskAt C av H d s
  ok : Ok s
  parse : PyFlat.calls PyVbdcas.shape f (ns.drop pos) = some cs
  few : done + cs.length ≤ 400
  len : gl.length ≤ 1001 * done
  eq : PyVbdcas.answers ns = gl ++ tail s cs
def mea (n : Nat) (σ : List (Option V)) : Nat := match (σ[3]? : Option (Option V)) with
  | some (some (V.int i)) => n - i.toNat
  | _ => 0
def sp_F_answers (C : Cs) (K : PySem.W.Frag) : Sp := fun vv H Q _ => ∃ (a : Addr) (ns : (List Int)), vv = [.ref a] ∧ (SqL K H a (ns.map V.int)) ∧ (PyVbdcas.answers_asked ns = true) ∧ (∀ (H' : Hp) (p : Addr), H' p = some (.lst ((PyVbdcas.answers ns).map V.int)) → Q (.ref p) H')
theorem body_F_answers (T : Txt K mg C) : Body P w K mg base "answers" s_F_answers n_F_answers 10 (sp_F_answers C K) := by
  have K_Desk := ok_K_Desk (P := P) (w := w) (base := base) T
  have M_Desk_answer := ok_M_Desk_answer (P := P) (w := w) (base := base) T
  have sc := sc_F_answers
  intro fn cdv A0 outer s0 H vv Q E hr h
  obtain ⟨a, ns, rfl, hS, hA, k⟩ := h
  obtain ⟨a_HOW_MANY, e_HOW_MANY, t_HOW_MANY⟩ := T.a_HOW_MANY
  refine ⟨_, (pss_cons (ps_set (i := 1) sc.nd rfl (Or.inl rfl) (pe_k0 K_Desk (hr.mono (by decide)) rfl))
      (pss_cons (ps_set (i := 2) sc.nd rfl (Or.inl rfl) (pe_lst pa_nil))
      (pss_cons (ps_set (i := 3) sc.nd rfl (Or.inl rfl) pe_int)
      (pss_cons (ps_while PassesOwn.never (pt_cmpR op_lt (pv 3) (pe_callB call_len_seq (by rfl) T.b_len PySem.boot_len (pa_cons (pv 0) pa_nil)) (nomark _)) (pss_cons (ps_set (i := 4) sc.nd rfl (Or.inl rfl) (pe_ix ix_list (pv 0) (pv 3) (fun _ _ => rfl)))
      (pss_cons (ps_set (i := 5) sc.nd rfl (Or.inl rfl) (pe_op op_add (pe_op op_add (pv 3) pe_int) (pe_ix ix_tup (pe_gr e_HOW_MANY rfl) (pv 4) (fun _ _ => rfl))))
      (pss_cons (ps_set (i := 6) sc.nd rfl (Or.inl rfl) (pe_m M_Desk_answer (hr.mono (by decide)) (pv 1) (pa_cons (pv 4) (pa_cons (pe_slice sl_list (pv 0) (po_some (pe_op op_add (pv 3) pe_int)) (po_some (pv 5))) pa_nil))))
      (pss_cons (ps_expr (pe_bm PySem.F.plainAttrs_list PySem.F.slot_list_append PySem.F.type_list_append mt_append (pv 2) (pa_cons (pe_callB call_len_seq (by rfl) T.b_len PySem.boot_len (pa_cons (pv 6) pa_nil)) pa_nil)))
      (pss_cons (ps_expr (pe_bm PySem.F.plainAttrs_list PySem.F.slot_list_extend PySem.F.type_list_extend mt_extend (pv 2) (pa_cons (pv 6) pa_nil)))
      (pss_one (ps_set (i := 3) sc.nd rfl (Or.inl rfl) (pv 5)))))))))
      (pss_one (ps_ret (pv 2))))))), ?_⟩
  obtain ⟨cs0, hp0, hl0, he0⟩ := asked_ns hA
  walk_at "go"
  rename_i d dx nd ndx ned
  refine ⟨d, dx, rfl, upd_same, fun H1 h1 b1 => ⟨rfl, ?_⟩⟩
  have s1 := Same.made nd ndx b1
  walk_at "go"
  rename_i g hg
  have s2 := s1.trans (same_new (o := HO.lst []) hg)
  have hd1 : upd H1 g (HO.lst []) d = some (.ins C.desk dx [("table", .non)]) := upd_old hg h1
  obtain ⟨av, avg, hC, hD0⟩ : ∃ av : Addr → Prop, av g ∧ ((Rd (upd H1 g (HO.lst [])) a (.lst (ns.map V.int)) ∧ av a ∧ g ≠ a) ∨ KLst K a (ns.map V.int)) ∧ DeskAt C av (upd H1 g (HO.lst [])) d Vbdcas.start := by
    rcases hS with hS | hS
    · obtain ⟨o, ho⟩ := rd_some hS
      refine ⟨fun b => b = g ∨ b = a, .inl rfl, .inl ⟨rd_keep hS fun o h => s2 _ _ h, .inr rfl, fun q => ne_of_none (s1 _ _ ho) hg q.symm⟩, ?_, ?_, .inl ⟨dx, rfl, hd1⟩⟩
      · rintro (q | q)
        · exact ne_of_none h1 hg q
        · exact ne_of_none ho nd q.symm
      · rintro b (rfl | rfl)
        · exact ⟨_, upd_same⟩
        · exact ⟨_, s2 _ _ ho⟩
    · refine ⟨fun b => b = g, rfl, .inr hS, fun q => ne_of_none h1 hg q, ?_, .inl ⟨dx, rfl, hd1⟩⟩
      rintro b rfl
      exact ⟨_, upd_same⟩
  refine while_by (fun σ H => ∃ pos s f done cs gl x y z, Lp C K ns a d g σ H pos s av f done cs gl x y z) (fun σ _ => mea ns.length σ) ?_ ?_ ?_
  · exact ⟨0, Vbdcas.start, ns.length, 0, cs0, [], none, none, none, rfl, Nat.zero_le _, hC, avg, upd_same, hD0, ok_start, hp0, by omega, Nat.zero_le _, he0⟩
  · rintro σ H2 ⟨pos, s, f, done, cs, gl, x, y, z, L⟩
    obtain ⟨rfl, hpos, hC2, _, hgl, hD, hO, hp, hfew, hlen, heq⟩ := L
    have hS2 : SqL K H2 a (ns.map V.int) := by
      rcases hC2 with h | h
      · exact .inl h.1
      · exact .inr h
    obtain ⟨dx2, v2, hd2⟩ := desk_obj hD
    walk_at "go"
    refine ite2 (fun h2 => ?_) (fun h2 => ?_)
    · have h2' : pos < ns.length := by
        have := of_decide_eq_true h2
        rw [List.length_map] at this
        omega
      obtain ⟨p, r, hpr⟩ : ∃ p r, ns.drop pos = p :: r := by
        cases e : ns.drop pos with
        | nil =>
          have := List.drop_eq_nil_iff.mp e
          omega
        | cons p r => exact ⟨p, r, rfl⟩
      rw [hpr] at hp
      obtain ⟨f', n, cs', hsh, hn, rfl, hp'⟩ := parse_cons hp
      obtain ⟨_, q, rfl, hq14, hhm⟩ := shape_some hsh
      have hat : ns[pos]? = some (q : Int) := by
        have := congrArg List.head? hpr
        rw [List.head?_drop] at this
        exact this
      have hr1 : ns.drop (pos + 1) = r := by
        rw [← List.drop_drop, hpr]
        rfl
      have hrl : r.length = ns.length - (pos + 1) := by rw [← hr1, List.length_drop]
      obtain ⟨_, c, hc, hIs⟩ := call_of hhm (xs := r.take n) (by rw [List.length_take]; omega)
      walk_at "go"
      refine k_ixS hS2 (at0 hat) ?_
      walk_at "go"
      refine ⟨_, _, _, _, rfl, rfl, .inr t_HOW_MANY, atI_nat (v := .int (n : Int)) ?_, ?_⟩
      · have : ([V.int 4, V.int 1, V.int 2, V.int 1, V.int 0, V.int 1, V.int 1, V.int 1, V.int 1, V.int 0, V.int 1, V.int 0, V.int 0, V.int 1, V.int 0] : List V) = hm.map fun (n : Nat) => V.int (n : Int) := rfl
        rw [this, List.getElem?_map, hhm]
        rfl
      walk_at "go"
      rename_i nb hnb
      rw [show ((pos : Int) + 1 + (n : Int)) = ((pos + 1 : Nat) : Int) + (n : Int) by omega, show ((pos : Int) + 1) = ((pos + 1 : Nat) : Int) by omega, cut_mid _ _ _ (by omega), hr1]
      have ss3 := same_new (o := HO.lst (List.map V.int (List.take n r))) hnb
      refine ⟨d, (q : Int), nb, s, r.take n, c, av, rfl, hD.same ss3, hO, upd_same, hIs, fun H4 l hD4 fr4 hl4 ln4 => ?_⟩
      have hg4 : H4 g = some (.lst (gl.map V.int)) := fr4 _ _ avg (ss3 _ _ hgl)
      have ngl : l ≠ g := fun e => by
        rw [e, ss3 _ _ hgl] at ln4
        cases ln4
      have hstep := step_callOf (s := s) hc
      have hlen4 := step_len hO c
      have hok4 := ok_step hO c
      rw [tail_cons, hstep] at heq
      revert hD4 hl4 hlen4 hok4 heq
      generalize Vbdcas.step s c = st
      intro heq hD4 hl4 hlen4 hok4
      have hdn : done < 400 := by
        have := hfew
        rw [List.length_cons] at this
        omega
      walk_at "go"
      refine ⟨_, _, _, rfl, rfl, hg4, ?_, ?_⟩
      · rw [List.length_map]
        unfold sizeLine
        omega
      walk_at "go"
      have hl5 : upd H4 g (HO.lst (List.map V.int gl ++ [V.int ↑(List.map V.int st.2).length])) l = some (.lst (st.2.map V.int)) := by
        rw [upd_ne ngl]
        exact hl4
      refine ⟨_, _, _, _, rfl, rfl, upd_same, hl5, ?_, ?_⟩
      · rw [List.length_append, List.length_map, List.length_map, List.length_singleton]
        unfold sizeLine
        omega
      walk_at "go"
      rw [upd_upd]
      have ex : List.map V.int gl ++ [V.int ((List.map V.int st.2).length : Int)] ++ List.map V.int st.2 = (gl ++ [(st.2.length : Int)] ++ st.2).map V.int := by
        simp
      rw [ex, show (((pos + 1 : Nat) : Int) + (n : Int)) = ((pos + 1 + n : Nat) : Int) by omega]
      refine ⟨⟨pos + 1 + n, st.1, f', done + 1, cs', gl ++ [(st.2.length : Int)] ++ st.2, some (.int (q : Int)), some (.int ((pos + 1 + n : Nat) : Int)), some (.ref l), rfl, by omega, ?_, avg, upd_same, hD4.aside avg, hok4, ?_, ?_, ?_, ?_⟩, ?_⟩
      · rcases hC2 with ⟨h1, h2, h3⟩ | h
        · exact .inl ⟨rd_keep h1 fun o h => (by rw [upd_ne (fun e => h3 e.symm)]; exact fr4 _ _ h2 (ss3 _ _ h)), h2, h3⟩
        · exact .inr h
      · rw [← List.drop_drop, hr1]
        exact hp'
      · rw [List.length_cons] at hfew
        omega
      · rw [List.length_append, List.length_append, List.length_singleton]
        omega
      · rw [heq]
        simp
      · show ns.length - (((pos + 1 + n : Nat) : Int)).toNat < ns.length - ((pos : Int)).toNat
        omega
    · walk_at "go"
      have hend : pos = ns.length := by
        have : ¬ ((pos : Int) < ((ns.map V.int).length : Int)) := fun q => h2 (decide_eq_true q)
        rw [List.length_map] at this
        omega
      subst hend
      rw [List.drop_length] at hp
      have : cs = [] := by
        cases f <;> exact (Option.some.inj hp).symm
      subst this
      rw [tail_nil, List.append_nil] at heq
      refine k H2 g ?_
      rw [heq]
      exact hgl
  · intro σ H Q1 Q2 hq h
    obtain ⟨v, h1, u, h2, p, ys, h3, h4, i, j, h5, h6, kk, h7, h8⟩ := h
    exact ⟨v, h1, u, h2, p, ys, h3, h4, i, j, h5, h6, kk, h7, hq _ _ h8⟩
end
end Nd

set_option Elab.async false
set_option linter.all false
set_option maxRecDepth 100000
set_option maxHeartbeats 2000000
namespace Nd
open PySem PySem.Spec PyProof.Rows L2
open Vbdcas (State Msg Seat Client Ask)
def spAns (K : PySem.W.Frag) : Sp := fun vv H Q _ => ∃ (a : Addr) (ns : List Int), vv = [.ref a] ∧ SqL K H a (ns.map V.int) ∧ PyVbdcas.answers_asked ns = true ∧ ∀ (H' : Hp) (p : Addr), H' p = some (.lst ((PyVbdcas.answers ns).map V.int)) → Q (.ref p) H'

theorem txt_mk {K : PySem.W.Frag} {h : Heap} {mg : Str → Option Value} (X : K.In h) (G : h.Ns mainGlobals mg)
    {C_Hello : Addr}
    {C_Request : Addr}
    {C_Ack : Addr}
    {C_News : Addr}
    {C_Seat : Addr}
    {C_House : Addr}
    {C_Machine : Addr}
    {C_Net : Addr}
    {C_Table : Addr}
    {C_Desk : Addr}
    {t_HELLO : Tok}
    {t_REQUEST : Tok}
    {t_ACK : Tok}
    {t_NEWS : Tok}
    {t_GOES_ON : Tok}
    {t_EVEN : Tok}
    {t_FULL_LOG : Tok}
    {t_MOVES_IN_NEWS : Tok}
    {t_MOST_MESSAGES : Tok}
    {t_FIRST_EPOCH : Tok}
    {t_DONE : Tok}
    {t_OUT_OF_RANGE : Tok}
    {t_NO_SUCH_MESSAGE : Tok}
    {t_NOT_NOW : Tok}
    {t_NET_IS_FULL : Tok}
    {t_SAME_MOVE : Tok}
    {t_MOST_BANK : Tok}
    {t_MOST_INCREMENT : Tok}
    {t_MOST_LAG : Tok}
    {t_MOST_MS : Tok}
    {t_MOST_MOVE : Tok}
    {t_MOST_ROUNDS : Tok}
    {t_NOT_SET : Tok}
    {t_SET : Tok}
    {t_TICK : Tok}
    {t_PRESS : Tok}
    {t_AGAIN : Tok}
    {t_NUDGE : Tok}
    {t_DELIVER : Tok}
    {t_DROP : Tok}
    {t_DOUBLE : Tok}
    {t_CRASH : Tok}
    {t_RESTART : Tok}
    {t_ROUNDS : Tok}
    {t_NET : Tok}
    {t_HOUSE : Tok}
    {t_MACHINE : Tok}
    {A_HOW_MANY : Addr}
    {t_HOW_MANY_0 t_HOW_MANY_1 t_HOW_MANY_2 t_HOW_MANY_3 t_HOW_MANY_4 t_HOW_MANY_5 t_HOW_MANY_6 t_HOW_MANY_7 t_HOW_MANY_8 t_HOW_MANY_9 t_HOW_MANY_10 t_HOW_MANY_11 t_HOW_MANY_12 t_HOW_MANY_13 t_HOW_MANY_14 : Tok}
    {n_HOW_MANY : Nat}
    {od_HOW_MANY : Option Addr}
    {sl_HOW_MANY : Array (Option Value)}
    {f_K_Hello : Addr}
    {od_K_Hello an_K_Hello : Option Addr}
    {sl_K_Hello : Array (Option Value)}
    {oc_K_Hello kV_K_Hello dc_K_Hello pm_K_Hello cd_K_Hello ct_K_Hello : Value}
    {f_M_Hello_told : Addr}
    {od_M_Hello_told an_M_Hello_told : Option Addr}
    {sl_M_Hello_told : Array (Option Value)}
    {oc_M_Hello_told kV_M_Hello_told dc_M_Hello_told pm_M_Hello_told cd_M_Hello_told ct_M_Hello_told : Value}
    {f_K_Request : Addr}
    {od_K_Request an_K_Request : Option Addr}
    {sl_K_Request : Array (Option Value)}
    {oc_K_Request kV_K_Request dc_K_Request pm_K_Request cd_K_Request ct_K_Request : Value}
    {f_M_Request_told : Addr}
    {od_M_Request_told an_M_Request_told : Option Addr}
    {sl_M_Request_told : Array (Option Value)}
    {oc_M_Request_told kV_M_Request_told dc_M_Request_told pm_M_Request_told cd_M_Request_told ct_M_Request_told : Value}
    {f_K_Ack : Addr}
    {od_K_Ack an_K_Ack : Option Addr}
    {sl_K_Ack : Array (Option Value)}
    {oc_K_Ack kV_K_Ack dc_K_Ack pm_K_Ack cd_K_Ack ct_K_Ack : Value}
    {f_M_Ack_told : Addr}
    {od_M_Ack_told an_M_Ack_told : Option Addr}
    {sl_M_Ack_told : Array (Option Value)}
    {oc_M_Ack_told kV_M_Ack_told dc_M_Ack_told pm_M_Ack_told cd_M_Ack_told ct_M_Ack_told : Value}
    {f_K_News : Addr}
    {od_K_News an_K_News : Option Addr}
    {sl_K_News : Array (Option Value)}
    {oc_K_News kV_K_News dc_K_News pm_K_News cd_K_News ct_K_News : Value}
    {f_M_News_told : Addr}
    {od_M_News_told an_M_News_told : Option Addr}
    {sl_M_News_told : Array (Option Value)}
    {oc_M_News_told kV_M_News_told dc_M_News_told pm_M_News_told cd_M_News_told ct_M_News_told : Value}
    {f_K_Seat : Addr}
    {od_K_Seat an_K_Seat : Option Addr}
    {sl_K_Seat : Array (Option Value)}
    {oc_K_Seat kV_K_Seat dc_K_Seat pm_K_Seat cd_K_Seat ct_K_Seat : Value}
    {f_M_Seat_begin : Addr}
    {od_M_Seat_begin an_M_Seat_begin : Option Addr}
    {sl_M_Seat_begin : Array (Option Value)}
    {oc_M_Seat_begin kV_M_Seat_begin dc_M_Seat_begin pm_M_Seat_begin cd_M_Seat_begin ct_M_Seat_begin : Value}
    {f_M_Seat_pay : Addr}
    {od_M_Seat_pay an_M_Seat_pay : Option Addr}
    {sl_M_Seat_pay : Array (Option Value)}
    {oc_M_Seat_pay kV_M_Seat_pay dc_M_Seat_pay pm_M_Seat_pay cd_M_Seat_pay ct_M_Seat_pay : Value}
    {f_M_Seat_told : Addr}
    {od_M_Seat_told an_M_Seat_told : Option Addr}
    {sl_M_Seat_told : Array (Option Value)}
    {oc_M_Seat_told kV_M_Seat_told dc_M_Seat_told pm_M_Seat_told cd_M_Seat_told ct_M_Seat_told : Value}
    {f_K_House : Addr}
    {od_K_House an_K_House : Option Addr}
    {sl_K_House : Array (Option Value)}
    {oc_K_House kV_K_House dc_K_House pm_K_House cd_K_House ct_K_House : Value}
    {f_M_House_side_to_move : Addr}
    {od_M_House_side_to_move an_M_House_side_to_move : Option Addr}
    {sl_M_House_side_to_move : Array (Option Value)}
    {oc_M_House_side_to_move kV_M_House_side_to_move dc_M_House_side_to_move pm_M_House_side_to_move cd_M_House_side_to_move ct_M_House_side_to_move : Value}
    {f_M_House_has_had : Addr}
    {od_M_House_has_had an_M_House_has_had : Option Addr}
    {sl_M_House_has_had : Array (Option Value)}
    {oc_M_House_has_had kV_M_House_has_had dc_M_House_has_had pm_M_House_has_had cd_M_House_has_had ct_M_House_has_had : Value}
    {f_M_House_lose_on_time : Addr}
    {od_M_House_lose_on_time an_M_House_lose_on_time : Option Addr}
    {sl_M_House_lose_on_time : Array (Option Value)}
    {oc_M_House_lose_on_time kV_M_House_lose_on_time dc_M_House_lose_on_time pm_M_House_lose_on_time cd_M_House_lose_on_time ct_M_House_lose_on_time : Value}
    {f_M_House_check_clock : Addr}
    {od_M_House_check_clock an_M_House_check_clock : Option Addr}
    {sl_M_House_check_clock : Array (Option Value)}
    {oc_M_House_check_clock kV_M_House_check_clock dc_M_House_check_clock pm_M_House_check_clock cd_M_House_check_clock ct_M_House_check_clock : Value}
    {f_M_House_restart : Addr}
    {od_M_House_restart an_M_House_restart : Option Addr}
    {sl_M_House_restart : Array (Option Value)}
    {oc_M_House_restart kV_M_House_restart dc_M_House_restart pm_M_House_restart cd_M_House_restart ct_M_House_restart : Value}
    {f_M_House_tell : Addr}
    {od_M_House_tell an_M_House_tell : Option Addr}
    {sl_M_House_tell : Array (Option Value)}
    {oc_M_House_tell kV_M_House_tell dc_M_House_tell pm_M_House_tell cd_M_House_tell ct_M_House_tell : Value}
    {f_M_House_tell_both : Addr}
    {od_M_House_tell_both an_M_House_tell_both : Option Addr}
    {sl_M_House_tell_both : Array (Option Value)}
    {oc_M_House_tell_both kV_M_House_tell_both dc_M_House_tell_both pm_M_House_tell_both cd_M_House_tell_both ct_M_House_tell_both : Value}
    {f_M_House_hear : Addr}
    {od_M_House_hear an_M_House_hear : Option Addr}
    {sl_M_House_hear : Array (Option Value)}
    {oc_M_House_hear kV_M_House_hear dc_M_House_hear pm_M_House_hear cd_M_House_hear ct_M_House_hear : Value}
    {f_M_House_arrive : Addr}
    {od_M_House_arrive an_M_House_arrive : Option Addr}
    {sl_M_House_arrive : Array (Option Value)}
    {oc_M_House_arrive kV_M_House_arrive dc_M_House_arrive pm_M_House_arrive cd_M_House_arrive ct_M_House_arrive : Value}
    {f_M_House_take_hello : Addr}
    {od_M_House_take_hello an_M_House_take_hello : Option Addr}
    {sl_M_House_take_hello : Array (Option Value)}
    {oc_M_House_take_hello kV_M_House_take_hello dc_M_House_take_hello pm_M_House_take_hello cd_M_House_take_hello ct_M_House_take_hello : Value}
    {f_M_House_take_request : Addr}
    {od_M_House_take_request an_M_House_take_request : Option Addr}
    {sl_M_House_take_request : Array (Option Value)}
    {oc_M_House_take_request kV_M_House_take_request dc_M_House_take_request pm_M_House_take_request cd_M_House_take_request ct_M_House_take_request : Value}
    {f_M_House_take_ack : Addr}
    {od_M_House_take_ack an_M_House_take_ack : Option Addr}
    {sl_M_House_take_ack : Array (Option Value)}
    {oc_M_House_take_ack kV_M_House_take_ack dc_M_House_take_ack pm_M_House_take_ack cd_M_House_take_ack ct_M_House_take_ack : Value}
    {f_M_House_allows : Addr}
    {od_M_House_allows an_M_House_allows : Option Addr}
    {sl_M_House_allows : Array (Option Value)}
    {oc_M_House_allows kV_M_House_allows dc_M_House_allows pm_M_House_allows cd_M_House_allows ct_M_House_allows : Value}
    {f_M_House_cost_of : Addr}
    {od_M_House_cost_of an_M_House_cost_of : Option Addr}
    {sl_M_House_cost_of : Array (Option Value)}
    {oc_M_House_cost_of kV_M_House_cost_of dc_M_House_cost_of pm_M_House_cost_of cd_M_House_cost_of ct_M_House_cost_of : Value}
    {f_M_House_look_at : Addr}
    {od_M_House_look_at an_M_House_look_at : Option Addr}
    {sl_M_House_look_at : Array (Option Value)}
    {oc_M_House_look_at kV_M_House_look_at dc_M_House_look_at pm_M_House_look_at cd_M_House_look_at ct_M_House_look_at : Value}
    {f_K_Machine : Addr}
    {od_K_Machine an_K_Machine : Option Addr}
    {sl_K_Machine : Array (Option Value)}
    {oc_K_Machine kV_K_Machine dc_K_Machine pm_K_Machine cd_K_Machine ct_K_Machine : Value}
    {f_M_Machine_is_to_move : Addr}
    {od_M_Machine_is_to_move an_M_Machine_is_to_move : Option Addr}
    {sl_M_Machine_is_to_move : Array (Option Value)}
    {oc_M_Machine_is_to_move kV_M_Machine_is_to_move dc_M_Machine_is_to_move pm_M_Machine_is_to_move cd_M_Machine_is_to_move ct_M_Machine_is_to_move : Value}
    {f_M_Machine_can_press : Addr}
    {od_M_Machine_can_press an_M_Machine_can_press : Option Addr}
    {sl_M_Machine_can_press : Array (Option Value)}
    {oc_M_Machine_can_press kV_M_Machine_can_press dc_M_Machine_can_press pm_M_Machine_can_press cd_M_Machine_can_press ct_M_Machine_can_press : Value}
    {f_M_Machine_is_last_move : Addr}
    {od_M_Machine_is_last_move an_M_Machine_is_last_move : Option Addr}
    {sl_M_Machine_is_last_move : Array (Option Value)}
    {oc_M_Machine_is_last_move kV_M_Machine_is_last_move dc_M_Machine_is_last_move pm_M_Machine_is_last_move cd_M_Machine_is_last_move ct_M_Machine_is_last_move : Value}
    {f_M_Machine_press : Addr}
    {od_M_Machine_press an_M_Machine_press : Option Addr}
    {sl_M_Machine_press : Array (Option Value)}
    {oc_M_Machine_press kV_M_Machine_press dc_M_Machine_press pm_M_Machine_press cd_M_Machine_press ct_M_Machine_press : Value}
    {f_M_Machine_send_ack : Addr}
    {od_M_Machine_send_ack an_M_Machine_send_ack : Option Addr}
    {sl_M_Machine_send_ack : Array (Option Value)}
    {oc_M_Machine_send_ack kV_M_Machine_send_ack dc_M_Machine_send_ack pm_M_Machine_send_ack cd_M_Machine_send_ack ct_M_Machine_send_ack : Value}
    {f_M_Machine_timer : Addr}
    {od_M_Machine_timer an_M_Machine_timer : Option Addr}
    {sl_M_Machine_timer : Array (Option Value)}
    {oc_M_Machine_timer kV_M_Machine_timer dc_M_Machine_timer pm_M_Machine_timer cd_M_Machine_timer ct_M_Machine_timer : Value}
    {f_M_Machine_take_news : Addr}
    {od_M_Machine_take_news an_M_Machine_take_news : Option Addr}
    {sl_M_Machine_take_news : Array (Option Value)}
    {oc_M_Machine_take_news kV_M_Machine_take_news dc_M_Machine_take_news pm_M_Machine_take_news cd_M_Machine_take_news ct_M_Machine_take_news : Value}
    {f_M_Machine_add_moves : Addr}
    {od_M_Machine_add_moves an_M_Machine_add_moves : Option Addr}
    {sl_M_Machine_add_moves : Array (Option Value)}
    {oc_M_Machine_add_moves kV_M_Machine_add_moves dc_M_Machine_add_moves pm_M_Machine_add_moves cd_M_Machine_add_moves ct_M_Machine_add_moves : Value}
    {f_M_Machine_forget_request : Addr}
    {od_M_Machine_forget_request an_M_Machine_forget_request : Option Addr}
    {sl_M_Machine_forget_request : Array (Option Value)}
    {oc_M_Machine_forget_request kV_M_Machine_forget_request dc_M_Machine_forget_request pm_M_Machine_forget_request cd_M_Machine_forget_request ct_M_Machine_forget_request : Value}
    {f_M_Machine_told : Addr}
    {od_M_Machine_told an_M_Machine_told : Option Addr}
    {sl_M_Machine_told : Array (Option Value)}
    {oc_M_Machine_told kV_M_Machine_told dc_M_Machine_told pm_M_Machine_told cd_M_Machine_told ct_M_Machine_told : Value}
    {f_K_Net : Addr}
    {od_K_Net an_K_Net : Option Addr}
    {sl_K_Net : Array (Option Value)}
    {oc_K_Net kV_K_Net dc_K_Net pm_K_Net cd_K_Net ct_K_Net : Value}
    {f_M_Net_is_empty : Addr}
    {od_M_Net_is_empty an_M_Net_is_empty : Option Addr}
    {sl_M_Net_is_empty : Array (Option Value)}
    {oc_M_Net_is_empty kV_M_Net_is_empty dc_M_Net_is_empty pm_M_Net_is_empty cd_M_Net_is_empty ct_M_Net_is_empty : Value}
    {f_M_Net_is_full : Addr}
    {od_M_Net_is_full an_M_Net_is_full : Option Addr}
    {sl_M_Net_is_full : Array (Option Value)}
    {oc_M_Net_is_full kV_M_Net_is_full dc_M_Net_is_full pm_M_Net_is_full cd_M_Net_is_full ct_M_Net_is_full : Value}
    {f_M_Net_holds : Addr}
    {od_M_Net_holds an_M_Net_holds : Option Addr}
    {sl_M_Net_holds : Array (Option Value)}
    {oc_M_Net_holds kV_M_Net_holds dc_M_Net_holds pm_M_Net_holds cd_M_Net_holds ct_M_Net_holds : Value}
    {f_M_Net_look : Addr}
    {od_M_Net_look an_M_Net_look : Option Addr}
    {sl_M_Net_look : Array (Option Value)}
    {oc_M_Net_look kV_M_Net_look dc_M_Net_look pm_M_Net_look cd_M_Net_look ct_M_Net_look : Value}
    {f_M_Net_send : Addr}
    {od_M_Net_send an_M_Net_send : Option Addr}
    {sl_M_Net_send : Array (Option Value)}
    {oc_M_Net_send kV_M_Net_send dc_M_Net_send pm_M_Net_send cd_M_Net_send ct_M_Net_send : Value}
    {f_M_Net_take : Addr}
    {od_M_Net_take an_M_Net_take : Option Addr}
    {sl_M_Net_take : Array (Option Value)}
    {oc_M_Net_take kV_M_Net_take dc_M_Net_take pm_M_Net_take cd_M_Net_take ct_M_Net_take : Value}
    {f_M_Net_take_oldest : Addr}
    {od_M_Net_take_oldest an_M_Net_take_oldest : Option Addr}
    {sl_M_Net_take_oldest : Array (Option Value)}
    {oc_M_Net_take_oldest kV_M_Net_take_oldest dc_M_Net_take_oldest pm_M_Net_take_oldest cd_M_Net_take_oldest ct_M_Net_take_oldest : Value}
    {f_M_Net_told : Addr}
    {od_M_Net_told an_M_Net_told : Option Addr}
    {sl_M_Net_told : Array (Option Value)}
    {oc_M_Net_told kV_M_Net_told dc_M_Net_told pm_M_Net_told cd_M_Net_told ct_M_Net_told : Value}
    {f_K_Table : Addr}
    {od_K_Table an_K_Table : Option Addr}
    {sl_K_Table : Array (Option Value)}
    {oc_K_Table kV_K_Table dc_K_Table pm_K_Table cd_K_Table ct_K_Table : Value}
    {f_M_Table_arrive : Addr}
    {od_M_Table_arrive an_M_Table_arrive : Option Addr}
    {sl_M_Table_arrive : Array (Option Value)}
    {oc_M_Table_arrive kV_M_Table_arrive dc_M_Table_arrive pm_M_Table_arrive cd_M_Table_arrive ct_M_Table_arrive : Value}
    {f_M_Table_crash : Addr}
    {od_M_Table_crash an_M_Table_crash : Option Addr}
    {sl_M_Table_crash : Array (Option Value)}
    {oc_M_Table_crash kV_M_Table_crash dc_M_Table_crash pm_M_Table_crash cd_M_Table_crash ct_M_Table_crash : Value}
    {f_M_Table_restart : Addr}
    {od_M_Table_restart an_M_Table_restart : Option Addr}
    {sl_M_Table_restart : Array (Option Value)}
    {oc_M_Table_restart kV_M_Table_restart dc_M_Table_restart pm_M_Table_restart cd_M_Table_restart ct_M_Table_restart : Value}
    {f_M_Table_go_round : Addr}
    {od_M_Table_go_round an_M_Table_go_round : Option Addr}
    {sl_M_Table_go_round : Array (Option Value)}
    {oc_M_Table_go_round kV_M_Table_go_round dc_M_Table_go_round pm_M_Table_go_round cd_M_Table_go_round ct_M_Table_go_round : Value}
    {f_K_Desk : Addr}
    {od_K_Desk an_K_Desk : Option Addr}
    {sl_K_Desk : Array (Option Value)}
    {oc_K_Desk kV_K_Desk dc_K_Desk pm_K_Desk cd_K_Desk ct_K_Desk : Value}
    {f_M_Desk_answer : Addr}
    {od_M_Desk_answer an_M_Desk_answer : Option Addr}
    {sl_M_Desk_answer : Array (Option Value)}
    {oc_M_Desk_answer kV_M_Desk_answer dc_M_Desk_answer pm_M_Desk_answer cd_M_Desk_answer ct_M_Desk_answer : Value}
    {f_M_Desk_set_table : Addr}
    {od_M_Desk_set_table an_M_Desk_set_table : Option Addr}
    {sl_M_Desk_set_table : Array (Option Value)}
    {oc_M_Desk_set_table kV_M_Desk_set_table dc_M_Desk_set_table pm_M_Desk_set_table cd_M_Desk_set_table ct_M_Desk_set_table : Value}
    {f_F_within : Addr}
    {od_F_within an_F_within : Option Addr}
    {sl_F_within : Array (Option Value)}
    {oc_F_within kV_F_within dc_F_within pm_F_within cd_F_within ct_F_within : Value}
    {f_F_is_side : Addr}
    {od_F_is_side an_F_is_side : Option Addr}
    {sl_F_is_side : Array (Option Value)}
    {oc_F_is_side kV_F_is_side dc_F_is_side pm_F_is_side cd_F_is_side ct_F_is_side : Value}
    {f_F_new_table : Addr}
    {od_F_new_table an_F_new_table : Option Addr}
    {sl_F_new_table : Array (Option Value)}
    {oc_F_new_table kV_F_new_table dc_F_new_table pm_F_new_table cd_F_new_table ct_F_new_table : Value}
    {f_F_tick : Addr}
    {od_F_tick an_F_tick : Option Addr}
    {sl_F_tick : Array (Option Value)}
    {oc_F_tick kV_F_tick dc_F_tick pm_F_tick cd_F_tick ct_F_tick : Value}
    {f_F_press : Addr}
    {od_F_press an_F_press : Option Addr}
    {sl_F_press : Array (Option Value)}
    {oc_F_press kV_F_press dc_F_press pm_F_press cd_F_press ct_F_press : Value}
    {f_F_again : Addr}
    {od_F_again an_F_again : Option Addr}
    {sl_F_again : Array (Option Value)}
    {oc_F_again kV_F_again dc_F_again pm_F_again cd_F_again ct_F_again : Value}
    {f_F_nudge : Addr}
    {od_F_nudge an_F_nudge : Option Addr}
    {sl_F_nudge : Array (Option Value)}
    {oc_F_nudge kV_F_nudge dc_F_nudge pm_F_nudge cd_F_nudge ct_F_nudge : Value}
    {f_F_deliver : Addr}
    {od_F_deliver an_F_deliver : Option Addr}
    {sl_F_deliver : Array (Option Value)}
    {oc_F_deliver kV_F_deliver dc_F_deliver pm_F_deliver cd_F_deliver ct_F_deliver : Value}
    {f_F_drop : Addr}
    {od_F_drop an_F_drop : Option Addr}
    {sl_F_drop : Array (Option Value)}
    {oc_F_drop kV_F_drop dc_F_drop pm_F_drop cd_F_drop ct_F_drop : Value}
    {f_F_double : Addr}
    {od_F_double an_F_double : Option Addr}
    {sl_F_double : Array (Option Value)}
    {oc_F_double kV_F_double dc_F_double pm_F_double cd_F_double ct_F_double : Value}
    {f_F_crash : Addr}
    {od_F_crash an_F_crash : Option Addr}
    {sl_F_crash : Array (Option Value)}
    {oc_F_crash kV_F_crash dc_F_crash pm_F_crash cd_F_crash ct_F_crash : Value}
    {f_F_restart : Addr}
    {od_F_restart an_F_restart : Option Addr}
    {sl_F_restart : Array (Option Value)}
    {oc_F_restart kV_F_restart dc_F_restart pm_F_restart cd_F_restart ct_F_restart : Value}
    {f_F_rounds : Addr}
    {od_F_rounds an_F_rounds : Option Addr}
    {sl_F_rounds : Array (Option Value)}
    {oc_F_rounds kV_F_rounds dc_F_rounds pm_F_rounds cd_F_rounds ct_F_rounds : Value}
    {f_F_show_net : Addr}
    {od_F_show_net an_F_show_net : Option Addr}
    {sl_F_show_net : Array (Option Value)}
    {oc_F_show_net kV_F_show_net dc_F_show_net pm_F_show_net cd_F_show_net ct_F_show_net : Value}
    {f_F_show_house : Addr}
    {od_F_show_house an_F_show_house : Option Addr}
    {sl_F_show_house : Array (Option Value)}
    {oc_F_show_house kV_F_show_house dc_F_show_house pm_F_show_house cd_F_show_house ct_F_show_house : Value}
    {f_F_show_machine : Addr}
    {od_F_show_machine an_F_show_machine : Option Addr}
    {sl_F_show_machine : Array (Option Value)}
    {oc_F_show_machine kV_F_show_machine dc_F_show_machine pm_F_show_machine cd_F_show_machine ct_F_show_machine : Value}
    {f_F_show_log : Addr}
    {od_F_show_log an_F_show_log : Option Addr}
    {sl_F_show_log : Array (Option Value)}
    {oc_F_show_log kV_F_show_log dc_F_show_log pm_F_show_log cd_F_show_log ct_F_show_log : Value}
    {f_F_ask : Addr}
    {od_F_ask an_F_ask : Option Addr}
    {sl_F_ask : Array (Option Value)}
    {oc_F_ask kV_F_ask dc_F_ask pm_F_ask cd_F_ask ct_F_ask : Value}
    {f_F_answers : Addr}
    {od_F_answers an_F_answers : Option Addr}
    {sl_F_answers : Array (Option Value)}
    {oc_F_answers kV_F_answers dc_F_answers pm_F_answers cd_F_answers ct_F_answers : Value}
    (aC_Hello : PySem.W.nsIn K mainGlobals "Hello" = some (some (.ref C_Hello)))
    (aC_Request : PySem.W.nsIn K mainGlobals "Request" = some (some (.ref C_Request)))
    (aC_Ack : PySem.W.nsIn K mainGlobals "Ack" = some (some (.ref C_Ack)))
    (aC_News : PySem.W.nsIn K mainGlobals "News" = some (some (.ref C_News)))
    (aC_Seat : PySem.W.nsIn K mainGlobals "Seat" = some (some (.ref C_Seat)))
    (aC_House : PySem.W.nsIn K mainGlobals "House" = some (some (.ref C_House)))
    (aC_Machine : PySem.W.nsIn K mainGlobals "Machine" = some (some (.ref C_Machine)))
    (aC_Net : PySem.W.nsIn K mainGlobals "Net" = some (some (.ref C_Net)))
    (aC_Table : PySem.W.nsIn K mainGlobals "Table" = some (some (.ref C_Table)))
    (aC_Desk : PySem.W.nsIn K mainGlobals "Desk" = some (some (.ref C_Desk)))
    (pg_Hello : PySem.W.plainGet K C_Hello Str.empty = true)
    (hd_Hello : PySem.W.hasDictIn K C_Hello = true)
    (po_Hello : PySem.W.plainOver K C_Hello = true)
    (sa_Hello : PySem.W.findIn K (.ref C_Hello) "__setattr__" = some (some (.builtin "object.__setattr__")))
    (na_Hello_kind : PySem.W.findIn K (.ref C_Hello) "kind" = some none)
    (na_Hello_side : PySem.W.findIn K (.ref C_Hello) "side" = some none)
    (na_Hello_epoch : PySem.W.findIn K (.ref C_Hello) "epoch" = some none)
    (pg_Request : PySem.W.plainGet K C_Request Str.empty = true)
    (hd_Request : PySem.W.hasDictIn K C_Request = true)
    (po_Request : PySem.W.plainOver K C_Request = true)
    (sa_Request : PySem.W.findIn K (.ref C_Request) "__setattr__" = some (some (.builtin "object.__setattr__")))
    (na_Request_kind : PySem.W.findIn K (.ref C_Request) "kind" = some none)
    (na_Request_side : PySem.W.findIn K (.ref C_Request) "side" = some none)
    (na_Request_epoch : PySem.W.findIn K (.ref C_Request) "epoch" = some none)
    (na_Request_number : PySem.W.findIn K (.ref C_Request) "number" = some none)
    (na_Request_ply : PySem.W.findIn K (.ref C_Request) "ply" = some none)
    (na_Request_move : PySem.W.findIn K (.ref C_Request) "move" = some none)
    (na_Request_thought : PySem.W.findIn K (.ref C_Request) "thought" = some none)
    (pg_Ack : PySem.W.plainGet K C_Ack Str.empty = true)
    (hd_Ack : PySem.W.hasDictIn K C_Ack = true)
    (po_Ack : PySem.W.plainOver K C_Ack = true)
    (sa_Ack : PySem.W.findIn K (.ref C_Ack) "__setattr__" = some (some (.builtin "object.__setattr__")))
    (na_Ack_kind : PySem.W.findIn K (.ref C_Ack) "kind" = some none)
    (na_Ack_side : PySem.W.findIn K (.ref C_Ack) "side" = some none)
    (na_Ack_epoch : PySem.W.findIn K (.ref C_Ack) "epoch" = some none)
    (na_Ack_known : PySem.W.findIn K (.ref C_Ack) "known" = some none)
    (pg_News : PySem.W.plainGet K C_News Str.empty = true)
    (hd_News : PySem.W.hasDictIn K C_News = true)
    (po_News : PySem.W.plainOver K C_News = true)
    (sa_News : PySem.W.findIn K (.ref C_News) "__setattr__" = some (some (.builtin "object.__setattr__")))
    (na_News_kind : PySem.W.findIn K (.ref C_News) "kind" = some none)
    (na_News_side : PySem.W.findIn K (.ref C_News) "side" = some none)
    (na_News_epoch : PySem.W.findIn K (.ref C_News) "epoch" = some none)
    (na_News_place : PySem.W.findIn K (.ref C_News) "place" = some none)
    (na_News_moves : PySem.W.findIn K (.ref C_News) "moves" = some none)
    (na_News_handled : PySem.W.findIn K (.ref C_News) "handled" = some none)
    (na_News_banks : PySem.W.findIn K (.ref C_News) "banks" = some none)
    (na_News_result : PySem.W.findIn K (.ref C_News) "result" = some none)
    (pg_Seat : PySem.W.plainGet K C_Seat Str.empty = true)
    (hd_Seat : PySem.W.hasDictIn K C_Seat = true)
    (po_Seat : PySem.W.plainOver K C_Seat = true)
    (sa_Seat : PySem.W.findIn K (.ref C_Seat) "__setattr__" = some (some (.builtin "object.__setattr__")))
    (na_Seat_epoch : PySem.W.findIn K (.ref C_Seat) "epoch" = some none)
    (na_Seat_handled : PySem.W.findIn K (.ref C_Seat) "handled" = some none)
    (na_Seat_acked : PySem.W.findIn K (.ref C_Seat) "acked" = some none)
    (na_Seat_here : PySem.W.findIn K (.ref C_Seat) "here" = some none)
    (na_Seat_bank : PySem.W.findIn K (.ref C_Seat) "bank" = some none)
    (na_Seat_spent : PySem.W.findIn K (.ref C_Seat) "spent" = some none)
    (pg_House : PySem.W.plainGet K C_House Str.empty = true)
    (hd_House : PySem.W.hasDictIn K C_House = true)
    (po_House : PySem.W.plainOver K C_House = true)
    (sa_House : PySem.W.findIn K (.ref C_House) "__setattr__" = some (some (.builtin "object.__setattr__")))
    (na_House_log : PySem.W.findIn K (.ref C_House) "log" = some none)
    (na_House_result : PySem.W.findIn K (.ref C_House) "result" = some none)
    (na_House_runs : PySem.W.findIn K (.ref C_House) "runs" = some none)
    (na_House_since : PySem.W.findIn K (.ref C_House) "since" = some none)
    (na_House_increment : PySem.W.findIn K (.ref C_House) "increment" = some none)
    (na_House_lag : PySem.W.findIn K (.ref C_House) "lag" = some none)
    (na_House_seats : PySem.W.findIn K (.ref C_House) "seats" = some none)
    (pg_Machine : PySem.W.plainGet K C_Machine Str.empty = true)
    (hd_Machine : PySem.W.hasDictIn K C_Machine = true)
    (po_Machine : PySem.W.plainOver K C_Machine = true)
    (sa_Machine : PySem.W.findIn K (.ref C_Machine) "__setattr__" = some (some (.builtin "object.__setattr__")))
    (na_Machine_side : PySem.W.findIn K (.ref C_Machine) "side" = some none)
    (na_Machine_epoch : PySem.W.findIn K (.ref C_Machine) "epoch" = some none)
    (na_Machine_on : PySem.W.findIn K (.ref C_Machine) "on" = some none)
    (na_Machine_moves : PySem.W.findIn K (.ref C_Machine) "moves" = some none)
    (na_Machine_next_request : PySem.W.findIn K (.ref C_Machine) "next_request" = some none)
    (na_Machine_request : PySem.W.findIn K (.ref C_Machine) "request" = some none)
    (na_Machine_learned : PySem.W.findIn K (.ref C_Machine) "learned" = some none)
    (na_Machine_banks : PySem.W.findIn K (.ref C_Machine) "banks" = some none)
    (na_Machine_result : PySem.W.findIn K (.ref C_Machine) "result" = some none)
    (pg_Net : PySem.W.plainGet K C_Net Str.empty = true)
    (hd_Net : PySem.W.hasDictIn K C_Net = true)
    (po_Net : PySem.W.plainOver K C_Net = true)
    (sa_Net : PySem.W.findIn K (.ref C_Net) "__setattr__" = some (some (.builtin "object.__setattr__")))
    (na_Net_waiting : PySem.W.findIn K (.ref C_Net) "waiting" = some none)
    (na_Net_next_number : PySem.W.findIn K (.ref C_Net) "next_number" = some none)
    (na_Net_lost : PySem.W.findIn K (.ref C_Net) "lost" = some none)
    (pg_Table : PySem.W.plainGet K C_Table Str.empty = true)
    (hd_Table : PySem.W.hasDictIn K C_Table = true)
    (po_Table : PySem.W.plainOver K C_Table = true)
    (sa_Table : PySem.W.findIn K (.ref C_Table) "__setattr__" = some (some (.builtin "object.__setattr__")))
    (na_Table_time : PySem.W.findIn K (.ref C_Table) "time" = some none)
    (na_Table_house : PySem.W.findIn K (.ref C_Table) "house" = some none)
    (na_Table_machines : PySem.W.findIn K (.ref C_Table) "machines" = some none)
    (na_Table_net : PySem.W.findIn K (.ref C_Table) "net" = some none)
    (pg_Desk : PySem.W.plainGet K C_Desk Str.empty = true)
    (hd_Desk : PySem.W.hasDictIn K C_Desk = true)
    (po_Desk : PySem.W.plainOver K C_Desk = true)
    (sa_Desk : PySem.W.findIn K (.ref C_Desk) "__setattr__" = some (some (.builtin "object.__setattr__")))
    (na_Desk_table : PySem.W.findIn K (.ref C_Desk) "table" = some none)
    (gc_HELLO : PySem.W.nsIn K mainGlobals "HELLO" = some (some (.int (0) t_HELLO)))
    (gc_REQUEST : PySem.W.nsIn K mainGlobals "REQUEST" = some (some (.int (1) t_REQUEST)))
    (gc_ACK : PySem.W.nsIn K mainGlobals "ACK" = some (some (.int (2) t_ACK)))
    (gc_NEWS : PySem.W.nsIn K mainGlobals "NEWS" = some (some (.int (3) t_NEWS)))
    (gc_GOES_ON : PySem.W.nsIn K mainGlobals "GOES_ON" = some (some (.int (0) t_GOES_ON)))
    (gc_EVEN : PySem.W.nsIn K mainGlobals "EVEN" = some (some (.int (3) t_EVEN)))
    (gc_FULL_LOG : PySem.W.nsIn K mainGlobals "FULL_LOG" = some (some (.int (60) t_FULL_LOG)))
    (gc_MOVES_IN_NEWS : PySem.W.nsIn K mainGlobals "MOVES_IN_NEWS" = some (some (.int (4) t_MOVES_IN_NEWS)))
    (gc_MOST_MESSAGES : PySem.W.nsIn K mainGlobals "MOST_MESSAGES" = some (some (.int (64) t_MOST_MESSAGES)))
    (gc_FIRST_EPOCH : PySem.W.nsIn K mainGlobals "FIRST_EPOCH" = some (some (.int (1) t_FIRST_EPOCH)))
    (gc_DONE : PySem.W.nsIn K mainGlobals "DONE" = some (some (.int (0) t_DONE)))
    (gc_OUT_OF_RANGE : PySem.W.nsIn K mainGlobals "OUT_OF_RANGE" = some (some (.int (-1) t_OUT_OF_RANGE)))
    (gc_NO_SUCH_MESSAGE : PySem.W.nsIn K mainGlobals "NO_SUCH_MESSAGE" = some (some (.int (-2) t_NO_SUCH_MESSAGE)))
    (gc_NOT_NOW : PySem.W.nsIn K mainGlobals "NOT_NOW" = some (some (.int (-3) t_NOT_NOW)))
    (gc_NET_IS_FULL : PySem.W.nsIn K mainGlobals "NET_IS_FULL" = some (some (.int (-4) t_NET_IS_FULL)))
    (gc_SAME_MOVE : PySem.W.nsIn K mainGlobals "SAME_MOVE" = some (some (.int (-6) t_SAME_MOVE)))
    (gc_MOST_BANK : PySem.W.nsIn K mainGlobals "MOST_BANK" = some (some (.int (1000000000) t_MOST_BANK)))
    (gc_MOST_INCREMENT : PySem.W.nsIn K mainGlobals "MOST_INCREMENT" = some (some (.int (1000000) t_MOST_INCREMENT)))
    (gc_MOST_LAG : PySem.W.nsIn K mainGlobals "MOST_LAG" = some (some (.int (100000) t_MOST_LAG)))
    (gc_MOST_MS : PySem.W.nsIn K mainGlobals "MOST_MS" = some (some (.int (1000000000) t_MOST_MS)))
    (gc_MOST_MOVE : PySem.W.nsIn K mainGlobals "MOST_MOVE" = some (some (.int (999) t_MOST_MOVE)))
    (gc_MOST_ROUNDS : PySem.W.nsIn K mainGlobals "MOST_ROUNDS" = some (some (.int (10) t_MOST_ROUNDS)))
    (gc_NOT_SET : PySem.W.nsIn K mainGlobals "NOT_SET" = some (some (.int (-5) t_NOT_SET)))
    (gc_SET : PySem.W.nsIn K mainGlobals "SET" = some (some (.int (0) t_SET)))
    (gc_TICK : PySem.W.nsIn K mainGlobals "TICK" = some (some (.int (1) t_TICK)))
    (gc_PRESS : PySem.W.nsIn K mainGlobals "PRESS" = some (some (.int (2) t_PRESS)))
    (gc_AGAIN : PySem.W.nsIn K mainGlobals "AGAIN" = some (some (.int (3) t_AGAIN)))
    (gc_NUDGE : PySem.W.nsIn K mainGlobals "NUDGE" = some (some (.int (4) t_NUDGE)))
    (gc_DELIVER : PySem.W.nsIn K mainGlobals "DELIVER" = some (some (.int (5) t_DELIVER)))
    (gc_DROP : PySem.W.nsIn K mainGlobals "DROP" = some (some (.int (6) t_DROP)))
    (gc_DOUBLE : PySem.W.nsIn K mainGlobals "DOUBLE" = some (some (.int (7) t_DOUBLE)))
    (gc_CRASH : PySem.W.nsIn K mainGlobals "CRASH" = some (some (.int (8) t_CRASH)))
    (gc_RESTART : PySem.W.nsIn K mainGlobals "RESTART" = some (some (.int (9) t_RESTART)))
    (gc_ROUNDS : PySem.W.nsIn K mainGlobals "ROUNDS" = some (some (.int (10) t_ROUNDS)))
    (gc_NET : PySem.W.nsIn K mainGlobals "NET" = some (some (.int (11) t_NET)))
    (gc_HOUSE : PySem.W.nsIn K mainGlobals "HOUSE" = some (some (.int (12) t_HOUSE)))
    (gc_MACHINE : PySem.W.nsIn K mainGlobals "MACHINE" = some (some (.int (13) t_MACHINE)))
    (ga_HOW_MANY : PySem.W.nsIn K mainGlobals "HOW_MANY" = some (some (.ref A_HOW_MANY)))
    (gl_HOW_MANY : K.lookup A_HOW_MANY = some ⟨.type "tuple", od_HOW_MANY, .seq #[.int 4 t_HOW_MANY_0, .int 1 t_HOW_MANY_1, .int 2 t_HOW_MANY_2, .int 1 t_HOW_MANY_3, .int 0 t_HOW_MANY_4, .int 1 t_HOW_MANY_5, .int 1 t_HOW_MANY_6, .int 1 t_HOW_MANY_7, .int 1 t_HOW_MANY_8, .int 0 t_HOW_MANY_9, .int 1 t_HOW_MANY_10, .int 0 t_HOW_MANY_11, .int 0 t_HOW_MANY_12, .int 1 t_HOW_MANY_13, .int 0 t_HOW_MANY_14] n_HOW_MANY, sl_HOW_MANY⟩)
    (bn_len : PySem.W.nsIn K mainGlobals "len" = some none)
    (bn_max : PySem.W.nsIn K mainGlobals "max" = some none)
    (bn_min : PySem.W.nsIn K mainGlobals "min" = some none)
    (bn_list : PySem.W.nsIn K mainGlobals "list" = some none)
    (bn_range : PySem.W.nsIn K mainGlobals "range" = some none)
    (a_K_Hello : PySem.W.findIn K (.ref C_Hello) "__init__" = some (some (.ref f_K_Hello)))
    (i_K_Hello : PySem.W.isFn K (.ref f_K_Hello) = true)
    (l_K_Hello : K.lookup f_K_Hello = some ⟨oc_K_Hello, od_K_Hello, .func (PySem.W.fnOf "__init__" "Hello.__init__" (defArgs s_K_Hello) (defBody s_K_Hello) (defScope s_K_Hello) .none kV_K_Hello dc_K_Hello pm_K_Hello an_K_Hello cd_K_Hello ct_K_Hello), sl_K_Hello⟩)
    (c_K_Hello : PySem.W.codeIn K cd_K_Hello "Hello.__init__" = true)
    (k_K_Hello : PySem.W.keepIn K (.ref f_K_Hello) = true)
    (mk_Hello : PySem.W.makesIn K C_Hello = true)
    (kc_Hello : PySem.W.keepIn K (.ref C_Hello) = true)
    (a_M_Hello_told : PySem.W.findIn K (.ref C_Hello) "told" = some (some (.ref f_M_Hello_told)))
    (i_M_Hello_told : PySem.W.isFn K (.ref f_M_Hello_told) = true)
    (l_M_Hello_told : K.lookup f_M_Hello_told = some ⟨oc_M_Hello_told, od_M_Hello_told, .func (PySem.W.fnOf "told" "Hello.told" (defArgs s_M_Hello_told) (defBody s_M_Hello_told) (defScope s_M_Hello_told) .none kV_M_Hello_told dc_M_Hello_told pm_M_Hello_told an_M_Hello_told cd_M_Hello_told ct_M_Hello_told), sl_M_Hello_told⟩)
    (c_M_Hello_told : PySem.W.codeIn K cd_M_Hello_told "Hello.told" = true)
    (k_M_Hello_told : PySem.W.keepIn K (.ref f_M_Hello_told) = true)
    (a_K_Request : PySem.W.findIn K (.ref C_Request) "__init__" = some (some (.ref f_K_Request)))
    (i_K_Request : PySem.W.isFn K (.ref f_K_Request) = true)
    (l_K_Request : K.lookup f_K_Request = some ⟨oc_K_Request, od_K_Request, .func (PySem.W.fnOf "__init__" "Request.__init__" (defArgs s_K_Request) (defBody s_K_Request) (defScope s_K_Request) .none kV_K_Request dc_K_Request pm_K_Request an_K_Request cd_K_Request ct_K_Request), sl_K_Request⟩)
    (c_K_Request : PySem.W.codeIn K cd_K_Request "Request.__init__" = true)
    (k_K_Request : PySem.W.keepIn K (.ref f_K_Request) = true)
    (mk_Request : PySem.W.makesIn K C_Request = true)
    (kc_Request : PySem.W.keepIn K (.ref C_Request) = true)
    (a_M_Request_told : PySem.W.findIn K (.ref C_Request) "told" = some (some (.ref f_M_Request_told)))
    (i_M_Request_told : PySem.W.isFn K (.ref f_M_Request_told) = true)
    (l_M_Request_told : K.lookup f_M_Request_told = some ⟨oc_M_Request_told, od_M_Request_told, .func (PySem.W.fnOf "told" "Request.told" (defArgs s_M_Request_told) (defBody s_M_Request_told) (defScope s_M_Request_told) .none kV_M_Request_told dc_M_Request_told pm_M_Request_told an_M_Request_told cd_M_Request_told ct_M_Request_told), sl_M_Request_told⟩)
    (c_M_Request_told : PySem.W.codeIn K cd_M_Request_told "Request.told" = true)
    (k_M_Request_told : PySem.W.keepIn K (.ref f_M_Request_told) = true)
    (a_K_Ack : PySem.W.findIn K (.ref C_Ack) "__init__" = some (some (.ref f_K_Ack)))
    (i_K_Ack : PySem.W.isFn K (.ref f_K_Ack) = true)
    (l_K_Ack : K.lookup f_K_Ack = some ⟨oc_K_Ack, od_K_Ack, .func (PySem.W.fnOf "__init__" "Ack.__init__" (defArgs s_K_Ack) (defBody s_K_Ack) (defScope s_K_Ack) .none kV_K_Ack dc_K_Ack pm_K_Ack an_K_Ack cd_K_Ack ct_K_Ack), sl_K_Ack⟩)
    (c_K_Ack : PySem.W.codeIn K cd_K_Ack "Ack.__init__" = true)
    (k_K_Ack : PySem.W.keepIn K (.ref f_K_Ack) = true)
    (mk_Ack : PySem.W.makesIn K C_Ack = true)
    (kc_Ack : PySem.W.keepIn K (.ref C_Ack) = true)
    (a_M_Ack_told : PySem.W.findIn K (.ref C_Ack) "told" = some (some (.ref f_M_Ack_told)))
    (i_M_Ack_told : PySem.W.isFn K (.ref f_M_Ack_told) = true)
    (l_M_Ack_told : K.lookup f_M_Ack_told = some ⟨oc_M_Ack_told, od_M_Ack_told, .func (PySem.W.fnOf "told" "Ack.told" (defArgs s_M_Ack_told) (defBody s_M_Ack_told) (defScope s_M_Ack_told) .none kV_M_Ack_told dc_M_Ack_told pm_M_Ack_told an_M_Ack_told cd_M_Ack_told ct_M_Ack_told), sl_M_Ack_told⟩)
    (c_M_Ack_told : PySem.W.codeIn K cd_M_Ack_told "Ack.told" = true)
    (k_M_Ack_told : PySem.W.keepIn K (.ref f_M_Ack_told) = true)
    (a_K_News : PySem.W.findIn K (.ref C_News) "__init__" = some (some (.ref f_K_News)))
    (i_K_News : PySem.W.isFn K (.ref f_K_News) = true)
    (l_K_News : K.lookup f_K_News = some ⟨oc_K_News, od_K_News, .func (PySem.W.fnOf "__init__" "News.__init__" (defArgs s_K_News) (defBody s_K_News) (defScope s_K_News) .none kV_K_News dc_K_News pm_K_News an_K_News cd_K_News ct_K_News), sl_K_News⟩)
    (c_K_News : PySem.W.codeIn K cd_K_News "News.__init__" = true)
    (k_K_News : PySem.W.keepIn K (.ref f_K_News) = true)
    (mk_News : PySem.W.makesIn K C_News = true)
    (kc_News : PySem.W.keepIn K (.ref C_News) = true)
    (a_M_News_told : PySem.W.findIn K (.ref C_News) "told" = some (some (.ref f_M_News_told)))
    (i_M_News_told : PySem.W.isFn K (.ref f_M_News_told) = true)
    (l_M_News_told : K.lookup f_M_News_told = some ⟨oc_M_News_told, od_M_News_told, .func (PySem.W.fnOf "told" "News.told" (defArgs s_M_News_told) (defBody s_M_News_told) (defScope s_M_News_told) .none kV_M_News_told dc_M_News_told pm_M_News_told an_M_News_told cd_M_News_told ct_M_News_told), sl_M_News_told⟩)
    (c_M_News_told : PySem.W.codeIn K cd_M_News_told "News.told" = true)
    (k_M_News_told : PySem.W.keepIn K (.ref f_M_News_told) = true)
    (a_K_Seat : PySem.W.findIn K (.ref C_Seat) "__init__" = some (some (.ref f_K_Seat)))
    (i_K_Seat : PySem.W.isFn K (.ref f_K_Seat) = true)
    (l_K_Seat : K.lookup f_K_Seat = some ⟨oc_K_Seat, od_K_Seat, .func (PySem.W.fnOf "__init__" "Seat.__init__" (defArgs s_K_Seat) (defBody s_K_Seat) (defScope s_K_Seat) .none kV_K_Seat dc_K_Seat pm_K_Seat an_K_Seat cd_K_Seat ct_K_Seat), sl_K_Seat⟩)
    (c_K_Seat : PySem.W.codeIn K cd_K_Seat "Seat.__init__" = true)
    (k_K_Seat : PySem.W.keepIn K (.ref f_K_Seat) = true)
    (mk_Seat : PySem.W.makesIn K C_Seat = true)
    (kc_Seat : PySem.W.keepIn K (.ref C_Seat) = true)
    (a_M_Seat_begin : PySem.W.findIn K (.ref C_Seat) "begin" = some (some (.ref f_M_Seat_begin)))
    (i_M_Seat_begin : PySem.W.isFn K (.ref f_M_Seat_begin) = true)
    (l_M_Seat_begin : K.lookup f_M_Seat_begin = some ⟨oc_M_Seat_begin, od_M_Seat_begin, .func (PySem.W.fnOf "begin" "Seat.begin" (defArgs s_M_Seat_begin) (defBody s_M_Seat_begin) (defScope s_M_Seat_begin) .none kV_M_Seat_begin dc_M_Seat_begin pm_M_Seat_begin an_M_Seat_begin cd_M_Seat_begin ct_M_Seat_begin), sl_M_Seat_begin⟩)
    (c_M_Seat_begin : PySem.W.codeIn K cd_M_Seat_begin "Seat.begin" = true)
    (k_M_Seat_begin : PySem.W.keepIn K (.ref f_M_Seat_begin) = true)
    (a_M_Seat_pay : PySem.W.findIn K (.ref C_Seat) "pay" = some (some (.ref f_M_Seat_pay)))
    (i_M_Seat_pay : PySem.W.isFn K (.ref f_M_Seat_pay) = true)
    (l_M_Seat_pay : K.lookup f_M_Seat_pay = some ⟨oc_M_Seat_pay, od_M_Seat_pay, .func (PySem.W.fnOf "pay" "Seat.pay" (defArgs s_M_Seat_pay) (defBody s_M_Seat_pay) (defScope s_M_Seat_pay) .none kV_M_Seat_pay dc_M_Seat_pay pm_M_Seat_pay an_M_Seat_pay cd_M_Seat_pay ct_M_Seat_pay), sl_M_Seat_pay⟩)
    (c_M_Seat_pay : PySem.W.codeIn K cd_M_Seat_pay "Seat.pay" = true)
    (k_M_Seat_pay : PySem.W.keepIn K (.ref f_M_Seat_pay) = true)
    (a_M_Seat_told : PySem.W.findIn K (.ref C_Seat) "told" = some (some (.ref f_M_Seat_told)))
    (i_M_Seat_told : PySem.W.isFn K (.ref f_M_Seat_told) = true)
    (l_M_Seat_told : K.lookup f_M_Seat_told = some ⟨oc_M_Seat_told, od_M_Seat_told, .func (PySem.W.fnOf "told" "Seat.told" (defArgs s_M_Seat_told) (defBody s_M_Seat_told) (defScope s_M_Seat_told) .none kV_M_Seat_told dc_M_Seat_told pm_M_Seat_told an_M_Seat_told cd_M_Seat_told ct_M_Seat_told), sl_M_Seat_told⟩)
    (c_M_Seat_told : PySem.W.codeIn K cd_M_Seat_told "Seat.told" = true)
    (k_M_Seat_told : PySem.W.keepIn K (.ref f_M_Seat_told) = true)
    (a_K_House : PySem.W.findIn K (.ref C_House) "__init__" = some (some (.ref f_K_House)))
    (i_K_House : PySem.W.isFn K (.ref f_K_House) = true)
    (l_K_House : K.lookup f_K_House = some ⟨oc_K_House, od_K_House, .func (PySem.W.fnOf "__init__" "House.__init__" (defArgs s_K_House) (defBody s_K_House) (defScope s_K_House) .none kV_K_House dc_K_House pm_K_House an_K_House cd_K_House ct_K_House), sl_K_House⟩)
    (c_K_House : PySem.W.codeIn K cd_K_House "House.__init__" = true)
    (k_K_House : PySem.W.keepIn K (.ref f_K_House) = true)
    (mk_House : PySem.W.makesIn K C_House = true)
    (kc_House : PySem.W.keepIn K (.ref C_House) = true)
    (a_M_House_side_to_move : PySem.W.findIn K (.ref C_House) "side_to_move" = some (some (.ref f_M_House_side_to_move)))
    (i_M_House_side_to_move : PySem.W.isFn K (.ref f_M_House_side_to_move) = true)
    (l_M_House_side_to_move : K.lookup f_M_House_side_to_move = some ⟨oc_M_House_side_to_move, od_M_House_side_to_move, .func (PySem.W.fnOf "side_to_move" "House.side_to_move" (defArgs s_M_House_side_to_move) (defBody s_M_House_side_to_move) (defScope s_M_House_side_to_move) .none kV_M_House_side_to_move dc_M_House_side_to_move pm_M_House_side_to_move an_M_House_side_to_move cd_M_House_side_to_move ct_M_House_side_to_move), sl_M_House_side_to_move⟩)
    (c_M_House_side_to_move : PySem.W.codeIn K cd_M_House_side_to_move "House.side_to_move" = true)
    (k_M_House_side_to_move : PySem.W.keepIn K (.ref f_M_House_side_to_move) = true)
    (a_M_House_has_had : PySem.W.findIn K (.ref C_House) "has_had" = some (some (.ref f_M_House_has_had)))
    (i_M_House_has_had : PySem.W.isFn K (.ref f_M_House_has_had) = true)
    (l_M_House_has_had : K.lookup f_M_House_has_had = some ⟨oc_M_House_has_had, od_M_House_has_had, .func (PySem.W.fnOf "has_had" "House.has_had" (defArgs s_M_House_has_had) (defBody s_M_House_has_had) (defScope s_M_House_has_had) .none kV_M_House_has_had dc_M_House_has_had pm_M_House_has_had an_M_House_has_had cd_M_House_has_had ct_M_House_has_had), sl_M_House_has_had⟩)
    (c_M_House_has_had : PySem.W.codeIn K cd_M_House_has_had "House.has_had" = true)
    (k_M_House_has_had : PySem.W.keepIn K (.ref f_M_House_has_had) = true)
    (a_M_House_lose_on_time : PySem.W.findIn K (.ref C_House) "lose_on_time" = some (some (.ref f_M_House_lose_on_time)))
    (i_M_House_lose_on_time : PySem.W.isFn K (.ref f_M_House_lose_on_time) = true)
    (l_M_House_lose_on_time : K.lookup f_M_House_lose_on_time = some ⟨oc_M_House_lose_on_time, od_M_House_lose_on_time, .func (PySem.W.fnOf "lose_on_time" "House.lose_on_time" (defArgs s_M_House_lose_on_time) (defBody s_M_House_lose_on_time) (defScope s_M_House_lose_on_time) .none kV_M_House_lose_on_time dc_M_House_lose_on_time pm_M_House_lose_on_time an_M_House_lose_on_time cd_M_House_lose_on_time ct_M_House_lose_on_time), sl_M_House_lose_on_time⟩)
    (c_M_House_lose_on_time : PySem.W.codeIn K cd_M_House_lose_on_time "House.lose_on_time" = true)
    (k_M_House_lose_on_time : PySem.W.keepIn K (.ref f_M_House_lose_on_time) = true)
    (a_M_House_check_clock : PySem.W.findIn K (.ref C_House) "check_clock" = some (some (.ref f_M_House_check_clock)))
    (i_M_House_check_clock : PySem.W.isFn K (.ref f_M_House_check_clock) = true)
    (l_M_House_check_clock : K.lookup f_M_House_check_clock = some ⟨oc_M_House_check_clock, od_M_House_check_clock, .func (PySem.W.fnOf "check_clock" "House.check_clock" (defArgs s_M_House_check_clock) (defBody s_M_House_check_clock) (defScope s_M_House_check_clock) .none kV_M_House_check_clock dc_M_House_check_clock pm_M_House_check_clock an_M_House_check_clock cd_M_House_check_clock ct_M_House_check_clock), sl_M_House_check_clock⟩)
    (c_M_House_check_clock : PySem.W.codeIn K cd_M_House_check_clock "House.check_clock" = true)
    (k_M_House_check_clock : PySem.W.keepIn K (.ref f_M_House_check_clock) = true)
    (a_M_House_restart : PySem.W.findIn K (.ref C_House) "restart" = some (some (.ref f_M_House_restart)))
    (i_M_House_restart : PySem.W.isFn K (.ref f_M_House_restart) = true)
    (l_M_House_restart : K.lookup f_M_House_restart = some ⟨oc_M_House_restart, od_M_House_restart, .func (PySem.W.fnOf "restart" "House.restart" (defArgs s_M_House_restart) (defBody s_M_House_restart) (defScope s_M_House_restart) .none kV_M_House_restart dc_M_House_restart pm_M_House_restart an_M_House_restart cd_M_House_restart ct_M_House_restart), sl_M_House_restart⟩)
    (c_M_House_restart : PySem.W.codeIn K cd_M_House_restart "House.restart" = true)
    (k_M_House_restart : PySem.W.keepIn K (.ref f_M_House_restart) = true)
    (a_M_House_tell : PySem.W.findIn K (.ref C_House) "tell" = some (some (.ref f_M_House_tell)))
    (i_M_House_tell : PySem.W.isFn K (.ref f_M_House_tell) = true)
    (l_M_House_tell : K.lookup f_M_House_tell = some ⟨oc_M_House_tell, od_M_House_tell, .func (PySem.W.fnOf "tell" "House.tell" (defArgs s_M_House_tell) (defBody s_M_House_tell) (defScope s_M_House_tell) .none kV_M_House_tell dc_M_House_tell pm_M_House_tell an_M_House_tell cd_M_House_tell ct_M_House_tell), sl_M_House_tell⟩)
    (c_M_House_tell : PySem.W.codeIn K cd_M_House_tell "House.tell" = true)
    (k_M_House_tell : PySem.W.keepIn K (.ref f_M_House_tell) = true)
    (a_M_House_tell_both : PySem.W.findIn K (.ref C_House) "tell_both" = some (some (.ref f_M_House_tell_both)))
    (i_M_House_tell_both : PySem.W.isFn K (.ref f_M_House_tell_both) = true)
    (l_M_House_tell_both : K.lookup f_M_House_tell_both = some ⟨oc_M_House_tell_both, od_M_House_tell_both, .func (PySem.W.fnOf "tell_both" "House.tell_both" (defArgs s_M_House_tell_both) (defBody s_M_House_tell_both) (defScope s_M_House_tell_both) .none kV_M_House_tell_both dc_M_House_tell_both pm_M_House_tell_both an_M_House_tell_both cd_M_House_tell_both ct_M_House_tell_both), sl_M_House_tell_both⟩)
    (c_M_House_tell_both : PySem.W.codeIn K cd_M_House_tell_both "House.tell_both" = true)
    (k_M_House_tell_both : PySem.W.keepIn K (.ref f_M_House_tell_both) = true)
    (a_M_House_hear : PySem.W.findIn K (.ref C_House) "hear" = some (some (.ref f_M_House_hear)))
    (i_M_House_hear : PySem.W.isFn K (.ref f_M_House_hear) = true)
    (l_M_House_hear : K.lookup f_M_House_hear = some ⟨oc_M_House_hear, od_M_House_hear, .func (PySem.W.fnOf "hear" "House.hear" (defArgs s_M_House_hear) (defBody s_M_House_hear) (defScope s_M_House_hear) .none kV_M_House_hear dc_M_House_hear pm_M_House_hear an_M_House_hear cd_M_House_hear ct_M_House_hear), sl_M_House_hear⟩)
    (c_M_House_hear : PySem.W.codeIn K cd_M_House_hear "House.hear" = true)
    (k_M_House_hear : PySem.W.keepIn K (.ref f_M_House_hear) = true)
    (a_M_House_arrive : PySem.W.findIn K (.ref C_House) "arrive" = some (some (.ref f_M_House_arrive)))
    (i_M_House_arrive : PySem.W.isFn K (.ref f_M_House_arrive) = true)
    (l_M_House_arrive : K.lookup f_M_House_arrive = some ⟨oc_M_House_arrive, od_M_House_arrive, .func (PySem.W.fnOf "arrive" "House.arrive" (defArgs s_M_House_arrive) (defBody s_M_House_arrive) (defScope s_M_House_arrive) .none kV_M_House_arrive dc_M_House_arrive pm_M_House_arrive an_M_House_arrive cd_M_House_arrive ct_M_House_arrive), sl_M_House_arrive⟩)
    (c_M_House_arrive : PySem.W.codeIn K cd_M_House_arrive "House.arrive" = true)
    (k_M_House_arrive : PySem.W.keepIn K (.ref f_M_House_arrive) = true)
    (a_M_House_take_hello : PySem.W.findIn K (.ref C_House) "take_hello" = some (some (.ref f_M_House_take_hello)))
    (i_M_House_take_hello : PySem.W.isFn K (.ref f_M_House_take_hello) = true)
    (l_M_House_take_hello : K.lookup f_M_House_take_hello = some ⟨oc_M_House_take_hello, od_M_House_take_hello, .func (PySem.W.fnOf "take_hello" "House.take_hello" (defArgs s_M_House_take_hello) (defBody s_M_House_take_hello) (defScope s_M_House_take_hello) .none kV_M_House_take_hello dc_M_House_take_hello pm_M_House_take_hello an_M_House_take_hello cd_M_House_take_hello ct_M_House_take_hello), sl_M_House_take_hello⟩)
    (c_M_House_take_hello : PySem.W.codeIn K cd_M_House_take_hello "House.take_hello" = true)
    (k_M_House_take_hello : PySem.W.keepIn K (.ref f_M_House_take_hello) = true)
    (a_M_House_take_request : PySem.W.findIn K (.ref C_House) "take_request" = some (some (.ref f_M_House_take_request)))
    (i_M_House_take_request : PySem.W.isFn K (.ref f_M_House_take_request) = true)
    (l_M_House_take_request : K.lookup f_M_House_take_request = some ⟨oc_M_House_take_request, od_M_House_take_request, .func (PySem.W.fnOf "take_request" "House.take_request" (defArgs s_M_House_take_request) (defBody s_M_House_take_request) (defScope s_M_House_take_request) .none kV_M_House_take_request dc_M_House_take_request pm_M_House_take_request an_M_House_take_request cd_M_House_take_request ct_M_House_take_request), sl_M_House_take_request⟩)
    (c_M_House_take_request : PySem.W.codeIn K cd_M_House_take_request "House.take_request" = true)
    (k_M_House_take_request : PySem.W.keepIn K (.ref f_M_House_take_request) = true)
    (a_M_House_take_ack : PySem.W.findIn K (.ref C_House) "take_ack" = some (some (.ref f_M_House_take_ack)))
    (i_M_House_take_ack : PySem.W.isFn K (.ref f_M_House_take_ack) = true)
    (l_M_House_take_ack : K.lookup f_M_House_take_ack = some ⟨oc_M_House_take_ack, od_M_House_take_ack, .func (PySem.W.fnOf "take_ack" "House.take_ack" (defArgs s_M_House_take_ack) (defBody s_M_House_take_ack) (defScope s_M_House_take_ack) .none kV_M_House_take_ack dc_M_House_take_ack pm_M_House_take_ack an_M_House_take_ack cd_M_House_take_ack ct_M_House_take_ack), sl_M_House_take_ack⟩)
    (c_M_House_take_ack : PySem.W.codeIn K cd_M_House_take_ack "House.take_ack" = true)
    (k_M_House_take_ack : PySem.W.keepIn K (.ref f_M_House_take_ack) = true)
    (a_M_House_allows : PySem.W.findIn K (.ref C_House) "allows" = some (some (.ref f_M_House_allows)))
    (i_M_House_allows : PySem.W.isFn K (.ref f_M_House_allows) = true)
    (l_M_House_allows : K.lookup f_M_House_allows = some ⟨oc_M_House_allows, od_M_House_allows, .func (PySem.W.fnOf "allows" "House.allows" (defArgs s_M_House_allows) (defBody s_M_House_allows) (defScope s_M_House_allows) .none kV_M_House_allows dc_M_House_allows pm_M_House_allows an_M_House_allows cd_M_House_allows ct_M_House_allows), sl_M_House_allows⟩)
    (c_M_House_allows : PySem.W.codeIn K cd_M_House_allows "House.allows" = true)
    (k_M_House_allows : PySem.W.keepIn K (.ref f_M_House_allows) = true)
    (a_M_House_cost_of : PySem.W.findIn K (.ref C_House) "cost_of" = some (some (.ref f_M_House_cost_of)))
    (i_M_House_cost_of : PySem.W.isFn K (.ref f_M_House_cost_of) = true)
    (l_M_House_cost_of : K.lookup f_M_House_cost_of = some ⟨oc_M_House_cost_of, od_M_House_cost_of, .func (PySem.W.fnOf "cost_of" "House.cost_of" (defArgs s_M_House_cost_of) (defBody s_M_House_cost_of) (defScope s_M_House_cost_of) .none kV_M_House_cost_of dc_M_House_cost_of pm_M_House_cost_of an_M_House_cost_of cd_M_House_cost_of ct_M_House_cost_of), sl_M_House_cost_of⟩)
    (c_M_House_cost_of : PySem.W.codeIn K cd_M_House_cost_of "House.cost_of" = true)
    (k_M_House_cost_of : PySem.W.keepIn K (.ref f_M_House_cost_of) = true)
    (a_M_House_look_at : PySem.W.findIn K (.ref C_House) "look_at" = some (some (.ref f_M_House_look_at)))
    (i_M_House_look_at : PySem.W.isFn K (.ref f_M_House_look_at) = true)
    (l_M_House_look_at : K.lookup f_M_House_look_at = some ⟨oc_M_House_look_at, od_M_House_look_at, .func (PySem.W.fnOf "look_at" "House.look_at" (defArgs s_M_House_look_at) (defBody s_M_House_look_at) (defScope s_M_House_look_at) .none kV_M_House_look_at dc_M_House_look_at pm_M_House_look_at an_M_House_look_at cd_M_House_look_at ct_M_House_look_at), sl_M_House_look_at⟩)
    (c_M_House_look_at : PySem.W.codeIn K cd_M_House_look_at "House.look_at" = true)
    (k_M_House_look_at : PySem.W.keepIn K (.ref f_M_House_look_at) = true)
    (a_K_Machine : PySem.W.findIn K (.ref C_Machine) "__init__" = some (some (.ref f_K_Machine)))
    (i_K_Machine : PySem.W.isFn K (.ref f_K_Machine) = true)
    (l_K_Machine : K.lookup f_K_Machine = some ⟨oc_K_Machine, od_K_Machine, .func (PySem.W.fnOf "__init__" "Machine.__init__" (defArgs s_K_Machine) (defBody s_K_Machine) (defScope s_K_Machine) .none kV_K_Machine dc_K_Machine pm_K_Machine an_K_Machine cd_K_Machine ct_K_Machine), sl_K_Machine⟩)
    (c_K_Machine : PySem.W.codeIn K cd_K_Machine "Machine.__init__" = true)
    (k_K_Machine : PySem.W.keepIn K (.ref f_K_Machine) = true)
    (mk_Machine : PySem.W.makesIn K C_Machine = true)
    (kc_Machine : PySem.W.keepIn K (.ref C_Machine) = true)
    (a_M_Machine_is_to_move : PySem.W.findIn K (.ref C_Machine) "is_to_move" = some (some (.ref f_M_Machine_is_to_move)))
    (i_M_Machine_is_to_move : PySem.W.isFn K (.ref f_M_Machine_is_to_move) = true)
    (l_M_Machine_is_to_move : K.lookup f_M_Machine_is_to_move = some ⟨oc_M_Machine_is_to_move, od_M_Machine_is_to_move, .func (PySem.W.fnOf "is_to_move" "Machine.is_to_move" (defArgs s_M_Machine_is_to_move) (defBody s_M_Machine_is_to_move) (defScope s_M_Machine_is_to_move) .none kV_M_Machine_is_to_move dc_M_Machine_is_to_move pm_M_Machine_is_to_move an_M_Machine_is_to_move cd_M_Machine_is_to_move ct_M_Machine_is_to_move), sl_M_Machine_is_to_move⟩)
    (c_M_Machine_is_to_move : PySem.W.codeIn K cd_M_Machine_is_to_move "Machine.is_to_move" = true)
    (k_M_Machine_is_to_move : PySem.W.keepIn K (.ref f_M_Machine_is_to_move) = true)
    (a_M_Machine_can_press : PySem.W.findIn K (.ref C_Machine) "can_press" = some (some (.ref f_M_Machine_can_press)))
    (i_M_Machine_can_press : PySem.W.isFn K (.ref f_M_Machine_can_press) = true)
    (l_M_Machine_can_press : K.lookup f_M_Machine_can_press = some ⟨oc_M_Machine_can_press, od_M_Machine_can_press, .func (PySem.W.fnOf "can_press" "Machine.can_press" (defArgs s_M_Machine_can_press) (defBody s_M_Machine_can_press) (defScope s_M_Machine_can_press) .none kV_M_Machine_can_press dc_M_Machine_can_press pm_M_Machine_can_press an_M_Machine_can_press cd_M_Machine_can_press ct_M_Machine_can_press), sl_M_Machine_can_press⟩)
    (c_M_Machine_can_press : PySem.W.codeIn K cd_M_Machine_can_press "Machine.can_press" = true)
    (k_M_Machine_can_press : PySem.W.keepIn K (.ref f_M_Machine_can_press) = true)
    (a_M_Machine_is_last_move : PySem.W.findIn K (.ref C_Machine) "is_last_move" = some (some (.ref f_M_Machine_is_last_move)))
    (i_M_Machine_is_last_move : PySem.W.isFn K (.ref f_M_Machine_is_last_move) = true)
    (l_M_Machine_is_last_move : K.lookup f_M_Machine_is_last_move = some ⟨oc_M_Machine_is_last_move, od_M_Machine_is_last_move, .func (PySem.W.fnOf "is_last_move" "Machine.is_last_move" (defArgs s_M_Machine_is_last_move) (defBody s_M_Machine_is_last_move) (defScope s_M_Machine_is_last_move) .none kV_M_Machine_is_last_move dc_M_Machine_is_last_move pm_M_Machine_is_last_move an_M_Machine_is_last_move cd_M_Machine_is_last_move ct_M_Machine_is_last_move), sl_M_Machine_is_last_move⟩)
    (c_M_Machine_is_last_move : PySem.W.codeIn K cd_M_Machine_is_last_move "Machine.is_last_move" = true)
    (k_M_Machine_is_last_move : PySem.W.keepIn K (.ref f_M_Machine_is_last_move) = true)
    (a_M_Machine_press : PySem.W.findIn K (.ref C_Machine) "press" = some (some (.ref f_M_Machine_press)))
    (i_M_Machine_press : PySem.W.isFn K (.ref f_M_Machine_press) = true)
    (l_M_Machine_press : K.lookup f_M_Machine_press = some ⟨oc_M_Machine_press, od_M_Machine_press, .func (PySem.W.fnOf "press" "Machine.press" (defArgs s_M_Machine_press) (defBody s_M_Machine_press) (defScope s_M_Machine_press) .none kV_M_Machine_press dc_M_Machine_press pm_M_Machine_press an_M_Machine_press cd_M_Machine_press ct_M_Machine_press), sl_M_Machine_press⟩)
    (c_M_Machine_press : PySem.W.codeIn K cd_M_Machine_press "Machine.press" = true)
    (k_M_Machine_press : PySem.W.keepIn K (.ref f_M_Machine_press) = true)
    (a_M_Machine_send_ack : PySem.W.findIn K (.ref C_Machine) "send_ack" = some (some (.ref f_M_Machine_send_ack)))
    (i_M_Machine_send_ack : PySem.W.isFn K (.ref f_M_Machine_send_ack) = true)
    (l_M_Machine_send_ack : K.lookup f_M_Machine_send_ack = some ⟨oc_M_Machine_send_ack, od_M_Machine_send_ack, .func (PySem.W.fnOf "send_ack" "Machine.send_ack" (defArgs s_M_Machine_send_ack) (defBody s_M_Machine_send_ack) (defScope s_M_Machine_send_ack) .none kV_M_Machine_send_ack dc_M_Machine_send_ack pm_M_Machine_send_ack an_M_Machine_send_ack cd_M_Machine_send_ack ct_M_Machine_send_ack), sl_M_Machine_send_ack⟩)
    (c_M_Machine_send_ack : PySem.W.codeIn K cd_M_Machine_send_ack "Machine.send_ack" = true)
    (k_M_Machine_send_ack : PySem.W.keepIn K (.ref f_M_Machine_send_ack) = true)
    (a_M_Machine_timer : PySem.W.findIn K (.ref C_Machine) "timer" = some (some (.ref f_M_Machine_timer)))
    (i_M_Machine_timer : PySem.W.isFn K (.ref f_M_Machine_timer) = true)
    (l_M_Machine_timer : K.lookup f_M_Machine_timer = some ⟨oc_M_Machine_timer, od_M_Machine_timer, .func (PySem.W.fnOf "timer" "Machine.timer" (defArgs s_M_Machine_timer) (defBody s_M_Machine_timer) (defScope s_M_Machine_timer) .none kV_M_Machine_timer dc_M_Machine_timer pm_M_Machine_timer an_M_Machine_timer cd_M_Machine_timer ct_M_Machine_timer), sl_M_Machine_timer⟩)
    (c_M_Machine_timer : PySem.W.codeIn K cd_M_Machine_timer "Machine.timer" = true)
    (k_M_Machine_timer : PySem.W.keepIn K (.ref f_M_Machine_timer) = true)
    (a_M_Machine_take_news : PySem.W.findIn K (.ref C_Machine) "take_news" = some (some (.ref f_M_Machine_take_news)))
    (i_M_Machine_take_news : PySem.W.isFn K (.ref f_M_Machine_take_news) = true)
    (l_M_Machine_take_news : K.lookup f_M_Machine_take_news = some ⟨oc_M_Machine_take_news, od_M_Machine_take_news, .func (PySem.W.fnOf "take_news" "Machine.take_news" (defArgs s_M_Machine_take_news) (defBody s_M_Machine_take_news) (defScope s_M_Machine_take_news) .none kV_M_Machine_take_news dc_M_Machine_take_news pm_M_Machine_take_news an_M_Machine_take_news cd_M_Machine_take_news ct_M_Machine_take_news), sl_M_Machine_take_news⟩)
    (c_M_Machine_take_news : PySem.W.codeIn K cd_M_Machine_take_news "Machine.take_news" = true)
    (k_M_Machine_take_news : PySem.W.keepIn K (.ref f_M_Machine_take_news) = true)
    (a_M_Machine_add_moves : PySem.W.findIn K (.ref C_Machine) "add_moves" = some (some (.ref f_M_Machine_add_moves)))
    (i_M_Machine_add_moves : PySem.W.isFn K (.ref f_M_Machine_add_moves) = true)
    (l_M_Machine_add_moves : K.lookup f_M_Machine_add_moves = some ⟨oc_M_Machine_add_moves, od_M_Machine_add_moves, .func (PySem.W.fnOf "add_moves" "Machine.add_moves" (defArgs s_M_Machine_add_moves) (defBody s_M_Machine_add_moves) (defScope s_M_Machine_add_moves) .none kV_M_Machine_add_moves dc_M_Machine_add_moves pm_M_Machine_add_moves an_M_Machine_add_moves cd_M_Machine_add_moves ct_M_Machine_add_moves), sl_M_Machine_add_moves⟩)
    (c_M_Machine_add_moves : PySem.W.codeIn K cd_M_Machine_add_moves "Machine.add_moves" = true)
    (k_M_Machine_add_moves : PySem.W.keepIn K (.ref f_M_Machine_add_moves) = true)
    (a_M_Machine_forget_request : PySem.W.findIn K (.ref C_Machine) "forget_request" = some (some (.ref f_M_Machine_forget_request)))
    (i_M_Machine_forget_request : PySem.W.isFn K (.ref f_M_Machine_forget_request) = true)
    (l_M_Machine_forget_request : K.lookup f_M_Machine_forget_request = some ⟨oc_M_Machine_forget_request, od_M_Machine_forget_request, .func (PySem.W.fnOf "forget_request" "Machine.forget_request" (defArgs s_M_Machine_forget_request) (defBody s_M_Machine_forget_request) (defScope s_M_Machine_forget_request) .none kV_M_Machine_forget_request dc_M_Machine_forget_request pm_M_Machine_forget_request an_M_Machine_forget_request cd_M_Machine_forget_request ct_M_Machine_forget_request), sl_M_Machine_forget_request⟩)
    (c_M_Machine_forget_request : PySem.W.codeIn K cd_M_Machine_forget_request "Machine.forget_request" = true)
    (k_M_Machine_forget_request : PySem.W.keepIn K (.ref f_M_Machine_forget_request) = true)
    (a_M_Machine_told : PySem.W.findIn K (.ref C_Machine) "told" = some (some (.ref f_M_Machine_told)))
    (i_M_Machine_told : PySem.W.isFn K (.ref f_M_Machine_told) = true)
    (l_M_Machine_told : K.lookup f_M_Machine_told = some ⟨oc_M_Machine_told, od_M_Machine_told, .func (PySem.W.fnOf "told" "Machine.told" (defArgs s_M_Machine_told) (defBody s_M_Machine_told) (defScope s_M_Machine_told) .none kV_M_Machine_told dc_M_Machine_told pm_M_Machine_told an_M_Machine_told cd_M_Machine_told ct_M_Machine_told), sl_M_Machine_told⟩)
    (c_M_Machine_told : PySem.W.codeIn K cd_M_Machine_told "Machine.told" = true)
    (k_M_Machine_told : PySem.W.keepIn K (.ref f_M_Machine_told) = true)
    (a_K_Net : PySem.W.findIn K (.ref C_Net) "__init__" = some (some (.ref f_K_Net)))
    (i_K_Net : PySem.W.isFn K (.ref f_K_Net) = true)
    (l_K_Net : K.lookup f_K_Net = some ⟨oc_K_Net, od_K_Net, .func (PySem.W.fnOf "__init__" "Net.__init__" (defArgs s_K_Net) (defBody s_K_Net) (defScope s_K_Net) .none kV_K_Net dc_K_Net pm_K_Net an_K_Net cd_K_Net ct_K_Net), sl_K_Net⟩)
    (c_K_Net : PySem.W.codeIn K cd_K_Net "Net.__init__" = true)
    (k_K_Net : PySem.W.keepIn K (.ref f_K_Net) = true)
    (mk_Net : PySem.W.makesIn K C_Net = true)
    (kc_Net : PySem.W.keepIn K (.ref C_Net) = true)
    (a_M_Net_is_empty : PySem.W.findIn K (.ref C_Net) "is_empty" = some (some (.ref f_M_Net_is_empty)))
    (i_M_Net_is_empty : PySem.W.isFn K (.ref f_M_Net_is_empty) = true)
    (l_M_Net_is_empty : K.lookup f_M_Net_is_empty = some ⟨oc_M_Net_is_empty, od_M_Net_is_empty, .func (PySem.W.fnOf "is_empty" "Net.is_empty" (defArgs s_M_Net_is_empty) (defBody s_M_Net_is_empty) (defScope s_M_Net_is_empty) .none kV_M_Net_is_empty dc_M_Net_is_empty pm_M_Net_is_empty an_M_Net_is_empty cd_M_Net_is_empty ct_M_Net_is_empty), sl_M_Net_is_empty⟩)
    (c_M_Net_is_empty : PySem.W.codeIn K cd_M_Net_is_empty "Net.is_empty" = true)
    (k_M_Net_is_empty : PySem.W.keepIn K (.ref f_M_Net_is_empty) = true)
    (a_M_Net_is_full : PySem.W.findIn K (.ref C_Net) "is_full" = some (some (.ref f_M_Net_is_full)))
    (i_M_Net_is_full : PySem.W.isFn K (.ref f_M_Net_is_full) = true)
    (l_M_Net_is_full : K.lookup f_M_Net_is_full = some ⟨oc_M_Net_is_full, od_M_Net_is_full, .func (PySem.W.fnOf "is_full" "Net.is_full" (defArgs s_M_Net_is_full) (defBody s_M_Net_is_full) (defScope s_M_Net_is_full) .none kV_M_Net_is_full dc_M_Net_is_full pm_M_Net_is_full an_M_Net_is_full cd_M_Net_is_full ct_M_Net_is_full), sl_M_Net_is_full⟩)
    (c_M_Net_is_full : PySem.W.codeIn K cd_M_Net_is_full "Net.is_full" = true)
    (k_M_Net_is_full : PySem.W.keepIn K (.ref f_M_Net_is_full) = true)
    (a_M_Net_holds : PySem.W.findIn K (.ref C_Net) "holds" = some (some (.ref f_M_Net_holds)))
    (i_M_Net_holds : PySem.W.isFn K (.ref f_M_Net_holds) = true)
    (l_M_Net_holds : K.lookup f_M_Net_holds = some ⟨oc_M_Net_holds, od_M_Net_holds, .func (PySem.W.fnOf "holds" "Net.holds" (defArgs s_M_Net_holds) (defBody s_M_Net_holds) (defScope s_M_Net_holds) .none kV_M_Net_holds dc_M_Net_holds pm_M_Net_holds an_M_Net_holds cd_M_Net_holds ct_M_Net_holds), sl_M_Net_holds⟩)
    (c_M_Net_holds : PySem.W.codeIn K cd_M_Net_holds "Net.holds" = true)
    (k_M_Net_holds : PySem.W.keepIn K (.ref f_M_Net_holds) = true)
    (a_M_Net_look : PySem.W.findIn K (.ref C_Net) "look" = some (some (.ref f_M_Net_look)))
    (i_M_Net_look : PySem.W.isFn K (.ref f_M_Net_look) = true)
    (l_M_Net_look : K.lookup f_M_Net_look = some ⟨oc_M_Net_look, od_M_Net_look, .func (PySem.W.fnOf "look" "Net.look" (defArgs s_M_Net_look) (defBody s_M_Net_look) (defScope s_M_Net_look) .none kV_M_Net_look dc_M_Net_look pm_M_Net_look an_M_Net_look cd_M_Net_look ct_M_Net_look), sl_M_Net_look⟩)
    (c_M_Net_look : PySem.W.codeIn K cd_M_Net_look "Net.look" = true)
    (k_M_Net_look : PySem.W.keepIn K (.ref f_M_Net_look) = true)
    (a_M_Net_send : PySem.W.findIn K (.ref C_Net) "send" = some (some (.ref f_M_Net_send)))
    (i_M_Net_send : PySem.W.isFn K (.ref f_M_Net_send) = true)
    (l_M_Net_send : K.lookup f_M_Net_send = some ⟨oc_M_Net_send, od_M_Net_send, .func (PySem.W.fnOf "send" "Net.send" (defArgs s_M_Net_send) (defBody s_M_Net_send) (defScope s_M_Net_send) .none kV_M_Net_send dc_M_Net_send pm_M_Net_send an_M_Net_send cd_M_Net_send ct_M_Net_send), sl_M_Net_send⟩)
    (c_M_Net_send : PySem.W.codeIn K cd_M_Net_send "Net.send" = true)
    (k_M_Net_send : PySem.W.keepIn K (.ref f_M_Net_send) = true)
    (a_M_Net_take : PySem.W.findIn K (.ref C_Net) "take" = some (some (.ref f_M_Net_take)))
    (i_M_Net_take : PySem.W.isFn K (.ref f_M_Net_take) = true)
    (l_M_Net_take : K.lookup f_M_Net_take = some ⟨oc_M_Net_take, od_M_Net_take, .func (PySem.W.fnOf "take" "Net.take" (defArgs s_M_Net_take) (defBody s_M_Net_take) (defScope s_M_Net_take) .none kV_M_Net_take dc_M_Net_take pm_M_Net_take an_M_Net_take cd_M_Net_take ct_M_Net_take), sl_M_Net_take⟩)
    (c_M_Net_take : PySem.W.codeIn K cd_M_Net_take "Net.take" = true)
    (k_M_Net_take : PySem.W.keepIn K (.ref f_M_Net_take) = true)
    (a_M_Net_take_oldest : PySem.W.findIn K (.ref C_Net) "take_oldest" = some (some (.ref f_M_Net_take_oldest)))
    (i_M_Net_take_oldest : PySem.W.isFn K (.ref f_M_Net_take_oldest) = true)
    (l_M_Net_take_oldest : K.lookup f_M_Net_take_oldest = some ⟨oc_M_Net_take_oldest, od_M_Net_take_oldest, .func (PySem.W.fnOf "take_oldest" "Net.take_oldest" (defArgs s_M_Net_take_oldest) (defBody s_M_Net_take_oldest) (defScope s_M_Net_take_oldest) .none kV_M_Net_take_oldest dc_M_Net_take_oldest pm_M_Net_take_oldest an_M_Net_take_oldest cd_M_Net_take_oldest ct_M_Net_take_oldest), sl_M_Net_take_oldest⟩)
    (c_M_Net_take_oldest : PySem.W.codeIn K cd_M_Net_take_oldest "Net.take_oldest" = true)
    (k_M_Net_take_oldest : PySem.W.keepIn K (.ref f_M_Net_take_oldest) = true)
    (a_M_Net_told : PySem.W.findIn K (.ref C_Net) "told" = some (some (.ref f_M_Net_told)))
    (i_M_Net_told : PySem.W.isFn K (.ref f_M_Net_told) = true)
    (l_M_Net_told : K.lookup f_M_Net_told = some ⟨oc_M_Net_told, od_M_Net_told, .func (PySem.W.fnOf "told" "Net.told" (defArgs s_M_Net_told) (defBody s_M_Net_told) (defScope s_M_Net_told) .none kV_M_Net_told dc_M_Net_told pm_M_Net_told an_M_Net_told cd_M_Net_told ct_M_Net_told), sl_M_Net_told⟩)
    (c_M_Net_told : PySem.W.codeIn K cd_M_Net_told "Net.told" = true)
    (k_M_Net_told : PySem.W.keepIn K (.ref f_M_Net_told) = true)
    (a_K_Table : PySem.W.findIn K (.ref C_Table) "__init__" = some (some (.ref f_K_Table)))
    (i_K_Table : PySem.W.isFn K (.ref f_K_Table) = true)
    (l_K_Table : K.lookup f_K_Table = some ⟨oc_K_Table, od_K_Table, .func (PySem.W.fnOf "__init__" "Table.__init__" (defArgs s_K_Table) (defBody s_K_Table) (defScope s_K_Table) .none kV_K_Table dc_K_Table pm_K_Table an_K_Table cd_K_Table ct_K_Table), sl_K_Table⟩)
    (c_K_Table : PySem.W.codeIn K cd_K_Table "Table.__init__" = true)
    (k_K_Table : PySem.W.keepIn K (.ref f_K_Table) = true)
    (mk_Table : PySem.W.makesIn K C_Table = true)
    (kc_Table : PySem.W.keepIn K (.ref C_Table) = true)
    (a_M_Table_arrive : PySem.W.findIn K (.ref C_Table) "arrive" = some (some (.ref f_M_Table_arrive)))
    (i_M_Table_arrive : PySem.W.isFn K (.ref f_M_Table_arrive) = true)
    (l_M_Table_arrive : K.lookup f_M_Table_arrive = some ⟨oc_M_Table_arrive, od_M_Table_arrive, .func (PySem.W.fnOf "arrive" "Table.arrive" (defArgs s_M_Table_arrive) (defBody s_M_Table_arrive) (defScope s_M_Table_arrive) .none kV_M_Table_arrive dc_M_Table_arrive pm_M_Table_arrive an_M_Table_arrive cd_M_Table_arrive ct_M_Table_arrive), sl_M_Table_arrive⟩)
    (c_M_Table_arrive : PySem.W.codeIn K cd_M_Table_arrive "Table.arrive" = true)
    (k_M_Table_arrive : PySem.W.keepIn K (.ref f_M_Table_arrive) = true)
    (a_M_Table_crash : PySem.W.findIn K (.ref C_Table) "crash" = some (some (.ref f_M_Table_crash)))
    (i_M_Table_crash : PySem.W.isFn K (.ref f_M_Table_crash) = true)
    (l_M_Table_crash : K.lookup f_M_Table_crash = some ⟨oc_M_Table_crash, od_M_Table_crash, .func (PySem.W.fnOf "crash" "Table.crash" (defArgs s_M_Table_crash) (defBody s_M_Table_crash) (defScope s_M_Table_crash) .none kV_M_Table_crash dc_M_Table_crash pm_M_Table_crash an_M_Table_crash cd_M_Table_crash ct_M_Table_crash), sl_M_Table_crash⟩)
    (c_M_Table_crash : PySem.W.codeIn K cd_M_Table_crash "Table.crash" = true)
    (k_M_Table_crash : PySem.W.keepIn K (.ref f_M_Table_crash) = true)
    (a_M_Table_restart : PySem.W.findIn K (.ref C_Table) "restart" = some (some (.ref f_M_Table_restart)))
    (i_M_Table_restart : PySem.W.isFn K (.ref f_M_Table_restart) = true)
    (l_M_Table_restart : K.lookup f_M_Table_restart = some ⟨oc_M_Table_restart, od_M_Table_restart, .func (PySem.W.fnOf "restart" "Table.restart" (defArgs s_M_Table_restart) (defBody s_M_Table_restart) (defScope s_M_Table_restart) .none kV_M_Table_restart dc_M_Table_restart pm_M_Table_restart an_M_Table_restart cd_M_Table_restart ct_M_Table_restart), sl_M_Table_restart⟩)
    (c_M_Table_restart : PySem.W.codeIn K cd_M_Table_restart "Table.restart" = true)
    (k_M_Table_restart : PySem.W.keepIn K (.ref f_M_Table_restart) = true)
    (a_M_Table_go_round : PySem.W.findIn K (.ref C_Table) "go_round" = some (some (.ref f_M_Table_go_round)))
    (i_M_Table_go_round : PySem.W.isFn K (.ref f_M_Table_go_round) = true)
    (l_M_Table_go_round : K.lookup f_M_Table_go_round = some ⟨oc_M_Table_go_round, od_M_Table_go_round, .func (PySem.W.fnOf "go_round" "Table.go_round" (defArgs s_M_Table_go_round) (defBody s_M_Table_go_round) (defScope s_M_Table_go_round) .none kV_M_Table_go_round dc_M_Table_go_round pm_M_Table_go_round an_M_Table_go_round cd_M_Table_go_round ct_M_Table_go_round), sl_M_Table_go_round⟩)
    (c_M_Table_go_round : PySem.W.codeIn K cd_M_Table_go_round "Table.go_round" = true)
    (k_M_Table_go_round : PySem.W.keepIn K (.ref f_M_Table_go_round) = true)
    (a_K_Desk : PySem.W.findIn K (.ref C_Desk) "__init__" = some (some (.ref f_K_Desk)))
    (i_K_Desk : PySem.W.isFn K (.ref f_K_Desk) = true)
    (l_K_Desk : K.lookup f_K_Desk = some ⟨oc_K_Desk, od_K_Desk, .func (PySem.W.fnOf "__init__" "Desk.__init__" (defArgs s_K_Desk) (defBody s_K_Desk) (defScope s_K_Desk) .none kV_K_Desk dc_K_Desk pm_K_Desk an_K_Desk cd_K_Desk ct_K_Desk), sl_K_Desk⟩)
    (c_K_Desk : PySem.W.codeIn K cd_K_Desk "Desk.__init__" = true)
    (k_K_Desk : PySem.W.keepIn K (.ref f_K_Desk) = true)
    (mk_Desk : PySem.W.makesIn K C_Desk = true)
    (kc_Desk : PySem.W.keepIn K (.ref C_Desk) = true)
    (a_M_Desk_answer : PySem.W.findIn K (.ref C_Desk) "answer" = some (some (.ref f_M_Desk_answer)))
    (i_M_Desk_answer : PySem.W.isFn K (.ref f_M_Desk_answer) = true)
    (l_M_Desk_answer : K.lookup f_M_Desk_answer = some ⟨oc_M_Desk_answer, od_M_Desk_answer, .func (PySem.W.fnOf "answer" "Desk.answer" (defArgs s_M_Desk_answer) (defBody s_M_Desk_answer) (defScope s_M_Desk_answer) .none kV_M_Desk_answer dc_M_Desk_answer pm_M_Desk_answer an_M_Desk_answer cd_M_Desk_answer ct_M_Desk_answer), sl_M_Desk_answer⟩)
    (c_M_Desk_answer : PySem.W.codeIn K cd_M_Desk_answer "Desk.answer" = true)
    (k_M_Desk_answer : PySem.W.keepIn K (.ref f_M_Desk_answer) = true)
    (a_M_Desk_set_table : PySem.W.findIn K (.ref C_Desk) "set_table" = some (some (.ref f_M_Desk_set_table)))
    (i_M_Desk_set_table : PySem.W.isFn K (.ref f_M_Desk_set_table) = true)
    (l_M_Desk_set_table : K.lookup f_M_Desk_set_table = some ⟨oc_M_Desk_set_table, od_M_Desk_set_table, .func (PySem.W.fnOf "set_table" "Desk.set_table" (defArgs s_M_Desk_set_table) (defBody s_M_Desk_set_table) (defScope s_M_Desk_set_table) .none kV_M_Desk_set_table dc_M_Desk_set_table pm_M_Desk_set_table an_M_Desk_set_table cd_M_Desk_set_table ct_M_Desk_set_table), sl_M_Desk_set_table⟩)
    (c_M_Desk_set_table : PySem.W.codeIn K cd_M_Desk_set_table "Desk.set_table" = true)
    (k_M_Desk_set_table : PySem.W.keepIn K (.ref f_M_Desk_set_table) = true)
    (a_F_within : PySem.W.nsIn K mainGlobals "within" = some (some (.ref f_F_within)))
    (l_F_within : K.lookup f_F_within = some ⟨oc_F_within, od_F_within, .func (PySem.W.fnOf "within" "within" (defArgs s_F_within) (defBody s_F_within) (defScope s_F_within) .none kV_F_within dc_F_within pm_F_within an_F_within cd_F_within ct_F_within), sl_F_within⟩)
    (c_F_within : PySem.W.codeIn K cd_F_within "within" = true)
    (k_F_within : PySem.W.keepIn K (.ref f_F_within) = true)
    (a_F_is_side : PySem.W.nsIn K mainGlobals "is_side" = some (some (.ref f_F_is_side)))
    (l_F_is_side : K.lookup f_F_is_side = some ⟨oc_F_is_side, od_F_is_side, .func (PySem.W.fnOf "is_side" "is_side" (defArgs s_F_is_side) (defBody s_F_is_side) (defScope s_F_is_side) .none kV_F_is_side dc_F_is_side pm_F_is_side an_F_is_side cd_F_is_side ct_F_is_side), sl_F_is_side⟩)
    (c_F_is_side : PySem.W.codeIn K cd_F_is_side "is_side" = true)
    (k_F_is_side : PySem.W.keepIn K (.ref f_F_is_side) = true)
    (a_F_new_table : PySem.W.nsIn K mainGlobals "new_table" = some (some (.ref f_F_new_table)))
    (l_F_new_table : K.lookup f_F_new_table = some ⟨oc_F_new_table, od_F_new_table, .func (PySem.W.fnOf "new_table" "new_table" (defArgs s_F_new_table) (defBody s_F_new_table) (defScope s_F_new_table) .none kV_F_new_table dc_F_new_table pm_F_new_table an_F_new_table cd_F_new_table ct_F_new_table), sl_F_new_table⟩)
    (c_F_new_table : PySem.W.codeIn K cd_F_new_table "new_table" = true)
    (k_F_new_table : PySem.W.keepIn K (.ref f_F_new_table) = true)
    (a_F_tick : PySem.W.nsIn K mainGlobals "tick" = some (some (.ref f_F_tick)))
    (l_F_tick : K.lookup f_F_tick = some ⟨oc_F_tick, od_F_tick, .func (PySem.W.fnOf "tick" "tick" (defArgs s_F_tick) (defBody s_F_tick) (defScope s_F_tick) .none kV_F_tick dc_F_tick pm_F_tick an_F_tick cd_F_tick ct_F_tick), sl_F_tick⟩)
    (c_F_tick : PySem.W.codeIn K cd_F_tick "tick" = true)
    (k_F_tick : PySem.W.keepIn K (.ref f_F_tick) = true)
    (a_F_press : PySem.W.nsIn K mainGlobals "press" = some (some (.ref f_F_press)))
    (l_F_press : K.lookup f_F_press = some ⟨oc_F_press, od_F_press, .func (PySem.W.fnOf "press" "press" (defArgs s_F_press) (defBody s_F_press) (defScope s_F_press) .none kV_F_press dc_F_press pm_F_press an_F_press cd_F_press ct_F_press), sl_F_press⟩)
    (c_F_press : PySem.W.codeIn K cd_F_press "press" = true)
    (k_F_press : PySem.W.keepIn K (.ref f_F_press) = true)
    (a_F_again : PySem.W.nsIn K mainGlobals "again" = some (some (.ref f_F_again)))
    (l_F_again : K.lookup f_F_again = some ⟨oc_F_again, od_F_again, .func (PySem.W.fnOf "again" "again" (defArgs s_F_again) (defBody s_F_again) (defScope s_F_again) .none kV_F_again dc_F_again pm_F_again an_F_again cd_F_again ct_F_again), sl_F_again⟩)
    (c_F_again : PySem.W.codeIn K cd_F_again "again" = true)
    (k_F_again : PySem.W.keepIn K (.ref f_F_again) = true)
    (a_F_nudge : PySem.W.nsIn K mainGlobals "nudge" = some (some (.ref f_F_nudge)))
    (l_F_nudge : K.lookup f_F_nudge = some ⟨oc_F_nudge, od_F_nudge, .func (PySem.W.fnOf "nudge" "nudge" (defArgs s_F_nudge) (defBody s_F_nudge) (defScope s_F_nudge) .none kV_F_nudge dc_F_nudge pm_F_nudge an_F_nudge cd_F_nudge ct_F_nudge), sl_F_nudge⟩)
    (c_F_nudge : PySem.W.codeIn K cd_F_nudge "nudge" = true)
    (k_F_nudge : PySem.W.keepIn K (.ref f_F_nudge) = true)
    (a_F_deliver : PySem.W.nsIn K mainGlobals "deliver" = some (some (.ref f_F_deliver)))
    (l_F_deliver : K.lookup f_F_deliver = some ⟨oc_F_deliver, od_F_deliver, .func (PySem.W.fnOf "deliver" "deliver" (defArgs s_F_deliver) (defBody s_F_deliver) (defScope s_F_deliver) .none kV_F_deliver dc_F_deliver pm_F_deliver an_F_deliver cd_F_deliver ct_F_deliver), sl_F_deliver⟩)
    (c_F_deliver : PySem.W.codeIn K cd_F_deliver "deliver" = true)
    (k_F_deliver : PySem.W.keepIn K (.ref f_F_deliver) = true)
    (a_F_drop : PySem.W.nsIn K mainGlobals "drop" = some (some (.ref f_F_drop)))
    (l_F_drop : K.lookup f_F_drop = some ⟨oc_F_drop, od_F_drop, .func (PySem.W.fnOf "drop" "drop" (defArgs s_F_drop) (defBody s_F_drop) (defScope s_F_drop) .none kV_F_drop dc_F_drop pm_F_drop an_F_drop cd_F_drop ct_F_drop), sl_F_drop⟩)
    (c_F_drop : PySem.W.codeIn K cd_F_drop "drop" = true)
    (k_F_drop : PySem.W.keepIn K (.ref f_F_drop) = true)
    (a_F_double : PySem.W.nsIn K mainGlobals "double" = some (some (.ref f_F_double)))
    (l_F_double : K.lookup f_F_double = some ⟨oc_F_double, od_F_double, .func (PySem.W.fnOf "double" "double" (defArgs s_F_double) (defBody s_F_double) (defScope s_F_double) .none kV_F_double dc_F_double pm_F_double an_F_double cd_F_double ct_F_double), sl_F_double⟩)
    (c_F_double : PySem.W.codeIn K cd_F_double "double" = true)
    (k_F_double : PySem.W.keepIn K (.ref f_F_double) = true)
    (a_F_crash : PySem.W.nsIn K mainGlobals "crash" = some (some (.ref f_F_crash)))
    (l_F_crash : K.lookup f_F_crash = some ⟨oc_F_crash, od_F_crash, .func (PySem.W.fnOf "crash" "crash" (defArgs s_F_crash) (defBody s_F_crash) (defScope s_F_crash) .none kV_F_crash dc_F_crash pm_F_crash an_F_crash cd_F_crash ct_F_crash), sl_F_crash⟩)
    (c_F_crash : PySem.W.codeIn K cd_F_crash "crash" = true)
    (k_F_crash : PySem.W.keepIn K (.ref f_F_crash) = true)
    (a_F_restart : PySem.W.nsIn K mainGlobals "restart" = some (some (.ref f_F_restart)))
    (l_F_restart : K.lookup f_F_restart = some ⟨oc_F_restart, od_F_restart, .func (PySem.W.fnOf "restart" "restart" (defArgs s_F_restart) (defBody s_F_restart) (defScope s_F_restart) .none kV_F_restart dc_F_restart pm_F_restart an_F_restart cd_F_restart ct_F_restart), sl_F_restart⟩)
    (c_F_restart : PySem.W.codeIn K cd_F_restart "restart" = true)
    (k_F_restart : PySem.W.keepIn K (.ref f_F_restart) = true)
    (a_F_rounds : PySem.W.nsIn K mainGlobals "rounds" = some (some (.ref f_F_rounds)))
    (l_F_rounds : K.lookup f_F_rounds = some ⟨oc_F_rounds, od_F_rounds, .func (PySem.W.fnOf "rounds" "rounds" (defArgs s_F_rounds) (defBody s_F_rounds) (defScope s_F_rounds) .none kV_F_rounds dc_F_rounds pm_F_rounds an_F_rounds cd_F_rounds ct_F_rounds), sl_F_rounds⟩)
    (c_F_rounds : PySem.W.codeIn K cd_F_rounds "rounds" = true)
    (k_F_rounds : PySem.W.keepIn K (.ref f_F_rounds) = true)
    (a_F_show_net : PySem.W.nsIn K mainGlobals "show_net" = some (some (.ref f_F_show_net)))
    (l_F_show_net : K.lookup f_F_show_net = some ⟨oc_F_show_net, od_F_show_net, .func (PySem.W.fnOf "show_net" "show_net" (defArgs s_F_show_net) (defBody s_F_show_net) (defScope s_F_show_net) .none kV_F_show_net dc_F_show_net pm_F_show_net an_F_show_net cd_F_show_net ct_F_show_net), sl_F_show_net⟩)
    (c_F_show_net : PySem.W.codeIn K cd_F_show_net "show_net" = true)
    (k_F_show_net : PySem.W.keepIn K (.ref f_F_show_net) = true)
    (a_F_show_house : PySem.W.nsIn K mainGlobals "show_house" = some (some (.ref f_F_show_house)))
    (l_F_show_house : K.lookup f_F_show_house = some ⟨oc_F_show_house, od_F_show_house, .func (PySem.W.fnOf "show_house" "show_house" (defArgs s_F_show_house) (defBody s_F_show_house) (defScope s_F_show_house) .none kV_F_show_house dc_F_show_house pm_F_show_house an_F_show_house cd_F_show_house ct_F_show_house), sl_F_show_house⟩)
    (c_F_show_house : PySem.W.codeIn K cd_F_show_house "show_house" = true)
    (k_F_show_house : PySem.W.keepIn K (.ref f_F_show_house) = true)
    (a_F_show_machine : PySem.W.nsIn K mainGlobals "show_machine" = some (some (.ref f_F_show_machine)))
    (l_F_show_machine : K.lookup f_F_show_machine = some ⟨oc_F_show_machine, od_F_show_machine, .func (PySem.W.fnOf "show_machine" "show_machine" (defArgs s_F_show_machine) (defBody s_F_show_machine) (defScope s_F_show_machine) .none kV_F_show_machine dc_F_show_machine pm_F_show_machine an_F_show_machine cd_F_show_machine ct_F_show_machine), sl_F_show_machine⟩)
    (c_F_show_machine : PySem.W.codeIn K cd_F_show_machine "show_machine" = true)
    (k_F_show_machine : PySem.W.keepIn K (.ref f_F_show_machine) = true)
    (a_F_show_log : PySem.W.nsIn K mainGlobals "show_log" = some (some (.ref f_F_show_log)))
    (l_F_show_log : K.lookup f_F_show_log = some ⟨oc_F_show_log, od_F_show_log, .func (PySem.W.fnOf "show_log" "show_log" (defArgs s_F_show_log) (defBody s_F_show_log) (defScope s_F_show_log) .none kV_F_show_log dc_F_show_log pm_F_show_log an_F_show_log cd_F_show_log ct_F_show_log), sl_F_show_log⟩)
    (c_F_show_log : PySem.W.codeIn K cd_F_show_log "show_log" = true)
    (k_F_show_log : PySem.W.keepIn K (.ref f_F_show_log) = true)
    (a_F_ask : PySem.W.nsIn K mainGlobals "ask" = some (some (.ref f_F_ask)))
    (l_F_ask : K.lookup f_F_ask = some ⟨oc_F_ask, od_F_ask, .func (PySem.W.fnOf "ask" "ask" (defArgs s_F_ask) (defBody s_F_ask) (defScope s_F_ask) .none kV_F_ask dc_F_ask pm_F_ask an_F_ask cd_F_ask ct_F_ask), sl_F_ask⟩)
    (c_F_ask : PySem.W.codeIn K cd_F_ask "ask" = true)
    (k_F_ask : PySem.W.keepIn K (.ref f_F_ask) = true)
    (a_F_answers : PySem.W.nsIn K mainGlobals "answers" = some (some (.ref f_F_answers)))
    (l_F_answers : K.lookup f_F_answers = some ⟨oc_F_answers, od_F_answers, .func (PySem.W.fnOf "answers" "answers" (defArgs s_F_answers) (defBody s_F_answers) (defScope s_F_answers) .none kV_F_answers dc_F_answers pm_F_answers an_F_answers cd_F_answers ct_F_answers), sl_F_answers⟩)
    (c_F_answers : PySem.W.codeIn K cd_F_answers "answers" = true)
    (k_F_answers : PySem.W.keepIn K (.ref f_F_answers) = true)
    : Txt K mg ⟨C_Hello, C_Request, C_Ack, C_News, C_Seat, C_House, C_Machine, C_Net, C_Table, C_Desk⟩ where
  c_Hello := ⟨pg_Hello, hd_Hello, po_Hello, sa_Hello⟩
  n_Hello_kind := na_Hello_kind
  n_Hello_side := na_Hello_side
  n_Hello_epoch := na_Hello_epoch
  c_Request := ⟨pg_Request, hd_Request, po_Request, sa_Request⟩
  n_Request_kind := na_Request_kind
  n_Request_side := na_Request_side
  n_Request_epoch := na_Request_epoch
  n_Request_number := na_Request_number
  n_Request_ply := na_Request_ply
  n_Request_move := na_Request_move
  n_Request_thought := na_Request_thought
  c_Ack := ⟨pg_Ack, hd_Ack, po_Ack, sa_Ack⟩
  n_Ack_kind := na_Ack_kind
  n_Ack_side := na_Ack_side
  n_Ack_epoch := na_Ack_epoch
  n_Ack_known := na_Ack_known
  c_News := ⟨pg_News, hd_News, po_News, sa_News⟩
  n_News_kind := na_News_kind
  n_News_side := na_News_side
  n_News_epoch := na_News_epoch
  n_News_place := na_News_place
  n_News_moves := na_News_moves
  n_News_handled := na_News_handled
  n_News_banks := na_News_banks
  n_News_result := na_News_result
  c_Seat := ⟨pg_Seat, hd_Seat, po_Seat, sa_Seat⟩
  n_Seat_epoch := na_Seat_epoch
  n_Seat_handled := na_Seat_handled
  n_Seat_acked := na_Seat_acked
  n_Seat_here := na_Seat_here
  n_Seat_bank := na_Seat_bank
  n_Seat_spent := na_Seat_spent
  c_House := ⟨pg_House, hd_House, po_House, sa_House⟩
  n_House_log := na_House_log
  n_House_result := na_House_result
  n_House_runs := na_House_runs
  n_House_since := na_House_since
  n_House_increment := na_House_increment
  n_House_lag := na_House_lag
  n_House_seats := na_House_seats
  c_Machine := ⟨pg_Machine, hd_Machine, po_Machine, sa_Machine⟩
  n_Machine_side := na_Machine_side
  n_Machine_epoch := na_Machine_epoch
  n_Machine_on := na_Machine_on
  n_Machine_moves := na_Machine_moves
  n_Machine_next_request := na_Machine_next_request
  n_Machine_request := na_Machine_request
  n_Machine_learned := na_Machine_learned
  n_Machine_banks := na_Machine_banks
  n_Machine_result := na_Machine_result
  c_Net := ⟨pg_Net, hd_Net, po_Net, sa_Net⟩
  n_Net_waiting := na_Net_waiting
  n_Net_next_number := na_Net_next_number
  n_Net_lost := na_Net_lost
  c_Table := ⟨pg_Table, hd_Table, po_Table, sa_Table⟩
  n_Table_time := na_Table_time
  n_Table_house := na_Table_house
  n_Table_machines := na_Table_machines
  n_Table_net := na_Table_net
  c_Desk := ⟨pg_Desk, hd_Desk, po_Desk, sa_Desk⟩
  n_Desk_table := na_Desk_table
  g_HELLO := ⟨t_HELLO, PySem.W.mg_of X G gc_HELLO⟩
  g_REQUEST := ⟨t_REQUEST, PySem.W.mg_of X G gc_REQUEST⟩
  g_ACK := ⟨t_ACK, PySem.W.mg_of X G gc_ACK⟩
  g_NEWS := ⟨t_NEWS, PySem.W.mg_of X G gc_NEWS⟩
  g_GOES_ON := ⟨t_GOES_ON, PySem.W.mg_of X G gc_GOES_ON⟩
  g_EVEN := ⟨t_EVEN, PySem.W.mg_of X G gc_EVEN⟩
  g_FULL_LOG := ⟨t_FULL_LOG, PySem.W.mg_of X G gc_FULL_LOG⟩
  g_MOVES_IN_NEWS := ⟨t_MOVES_IN_NEWS, PySem.W.mg_of X G gc_MOVES_IN_NEWS⟩
  g_MOST_MESSAGES := ⟨t_MOST_MESSAGES, PySem.W.mg_of X G gc_MOST_MESSAGES⟩
  g_FIRST_EPOCH := ⟨t_FIRST_EPOCH, PySem.W.mg_of X G gc_FIRST_EPOCH⟩
  g_DONE := ⟨t_DONE, PySem.W.mg_of X G gc_DONE⟩
  g_OUT_OF_RANGE := ⟨t_OUT_OF_RANGE, PySem.W.mg_of X G gc_OUT_OF_RANGE⟩
  g_NO_SUCH_MESSAGE := ⟨t_NO_SUCH_MESSAGE, PySem.W.mg_of X G gc_NO_SUCH_MESSAGE⟩
  g_NOT_NOW := ⟨t_NOT_NOW, PySem.W.mg_of X G gc_NOT_NOW⟩
  g_NET_IS_FULL := ⟨t_NET_IS_FULL, PySem.W.mg_of X G gc_NET_IS_FULL⟩
  g_SAME_MOVE := ⟨t_SAME_MOVE, PySem.W.mg_of X G gc_SAME_MOVE⟩
  g_MOST_BANK := ⟨t_MOST_BANK, PySem.W.mg_of X G gc_MOST_BANK⟩
  g_MOST_INCREMENT := ⟨t_MOST_INCREMENT, PySem.W.mg_of X G gc_MOST_INCREMENT⟩
  g_MOST_LAG := ⟨t_MOST_LAG, PySem.W.mg_of X G gc_MOST_LAG⟩
  g_MOST_MS := ⟨t_MOST_MS, PySem.W.mg_of X G gc_MOST_MS⟩
  g_MOST_MOVE := ⟨t_MOST_MOVE, PySem.W.mg_of X G gc_MOST_MOVE⟩
  g_MOST_ROUNDS := ⟨t_MOST_ROUNDS, PySem.W.mg_of X G gc_MOST_ROUNDS⟩
  g_NOT_SET := ⟨t_NOT_SET, PySem.W.mg_of X G gc_NOT_SET⟩
  g_SET := ⟨t_SET, PySem.W.mg_of X G gc_SET⟩
  g_TICK := ⟨t_TICK, PySem.W.mg_of X G gc_TICK⟩
  g_PRESS := ⟨t_PRESS, PySem.W.mg_of X G gc_PRESS⟩
  g_AGAIN := ⟨t_AGAIN, PySem.W.mg_of X G gc_AGAIN⟩
  g_NUDGE := ⟨t_NUDGE, PySem.W.mg_of X G gc_NUDGE⟩
  g_DELIVER := ⟨t_DELIVER, PySem.W.mg_of X G gc_DELIVER⟩
  g_DROP := ⟨t_DROP, PySem.W.mg_of X G gc_DROP⟩
  g_DOUBLE := ⟨t_DOUBLE, PySem.W.mg_of X G gc_DOUBLE⟩
  g_CRASH := ⟨t_CRASH, PySem.W.mg_of X G gc_CRASH⟩
  g_RESTART := ⟨t_RESTART, PySem.W.mg_of X G gc_RESTART⟩
  g_ROUNDS := ⟨t_ROUNDS, PySem.W.mg_of X G gc_ROUNDS⟩
  g_NET := ⟨t_NET, PySem.W.mg_of X G gc_NET⟩
  g_HOUSE := ⟨t_HOUSE, PySem.W.mg_of X G gc_HOUSE⟩
  g_MACHINE := ⟨t_MACHINE, PySem.W.mg_of X G gc_MACHINE⟩
  a_HOW_MANY := ⟨A_HOW_MANY, PySem.W.mg_of X G ga_HOW_MANY, _, _, _, gl_HOW_MANY, rfl, rfl, Nat.le_of_ble_eq_true rfl, (.cons ⟨_, rfl⟩ (.cons ⟨_, rfl⟩ (.cons ⟨_, rfl⟩ (.cons ⟨_, rfl⟩ (.cons ⟨_, rfl⟩ (.cons ⟨_, rfl⟩ (.cons ⟨_, rfl⟩ (.cons ⟨_, rfl⟩ (.cons ⟨_, rfl⟩ (.cons ⟨_, rfl⟩ (.cons ⟨_, rfl⟩ (.cons ⟨_, rfl⟩ (.cons ⟨_, rfl⟩ (.cons ⟨_, rfl⟩ (.cons ⟨_, rfl⟩ .nil)))))))))))))))⟩
  b_len := PySem.W.mg_none_of X G bn_len
  b_max := PySem.W.mg_none_of X G bn_max
  b_min := PySem.W.mg_none_of X G bn_min
  b_list := PySem.W.mg_none_of X G bn_list
  b_range := PySem.W.mg_none_of X G bn_range
  f_K_Hello := ⟨f_K_Hello, _, fun_mk (st := s_K_Hello) l_K_Hello c_K_Hello k_K_Hello, PySem.W.mg_of X G aC_Hello, ⟨mk_Hello, a_K_Hello, i_K_Hello, kc_Hello⟩⟩
  f_M_Hello_told := ⟨f_M_Hello_told, _, fun_mk (st := s_M_Hello_told) l_M_Hello_told c_M_Hello_told k_M_Hello_told, ⟨a_M_Hello_told, i_M_Hello_told, k_M_Hello_told⟩⟩
  f_K_Request := ⟨f_K_Request, _, fun_mk (st := s_K_Request) l_K_Request c_K_Request k_K_Request, PySem.W.mg_of X G aC_Request, ⟨mk_Request, a_K_Request, i_K_Request, kc_Request⟩⟩
  f_M_Request_told := ⟨f_M_Request_told, _, fun_mk (st := s_M_Request_told) l_M_Request_told c_M_Request_told k_M_Request_told, ⟨a_M_Request_told, i_M_Request_told, k_M_Request_told⟩⟩
  f_K_Ack := ⟨f_K_Ack, _, fun_mk (st := s_K_Ack) l_K_Ack c_K_Ack k_K_Ack, PySem.W.mg_of X G aC_Ack, ⟨mk_Ack, a_K_Ack, i_K_Ack, kc_Ack⟩⟩
  f_M_Ack_told := ⟨f_M_Ack_told, _, fun_mk (st := s_M_Ack_told) l_M_Ack_told c_M_Ack_told k_M_Ack_told, ⟨a_M_Ack_told, i_M_Ack_told, k_M_Ack_told⟩⟩
  f_K_News := ⟨f_K_News, _, fun_mk (st := s_K_News) l_K_News c_K_News k_K_News, PySem.W.mg_of X G aC_News, ⟨mk_News, a_K_News, i_K_News, kc_News⟩⟩
  f_M_News_told := ⟨f_M_News_told, _, fun_mk (st := s_M_News_told) l_M_News_told c_M_News_told k_M_News_told, ⟨a_M_News_told, i_M_News_told, k_M_News_told⟩⟩
  f_K_Seat := ⟨f_K_Seat, _, fun_mk (st := s_K_Seat) l_K_Seat c_K_Seat k_K_Seat, PySem.W.mg_of X G aC_Seat, ⟨mk_Seat, a_K_Seat, i_K_Seat, kc_Seat⟩⟩
  f_M_Seat_begin := ⟨f_M_Seat_begin, _, fun_mk (st := s_M_Seat_begin) l_M_Seat_begin c_M_Seat_begin k_M_Seat_begin, ⟨a_M_Seat_begin, i_M_Seat_begin, k_M_Seat_begin⟩⟩
  f_M_Seat_pay := ⟨f_M_Seat_pay, _, fun_mk (st := s_M_Seat_pay) l_M_Seat_pay c_M_Seat_pay k_M_Seat_pay, ⟨a_M_Seat_pay, i_M_Seat_pay, k_M_Seat_pay⟩⟩
  f_M_Seat_told := ⟨f_M_Seat_told, _, fun_mk (st := s_M_Seat_told) l_M_Seat_told c_M_Seat_told k_M_Seat_told, ⟨a_M_Seat_told, i_M_Seat_told, k_M_Seat_told⟩⟩
  f_K_House := ⟨f_K_House, _, fun_mk (st := s_K_House) l_K_House c_K_House k_K_House, PySem.W.mg_of X G aC_House, ⟨mk_House, a_K_House, i_K_House, kc_House⟩⟩
  f_M_House_side_to_move := ⟨f_M_House_side_to_move, _, fun_mk (st := s_M_House_side_to_move) l_M_House_side_to_move c_M_House_side_to_move k_M_House_side_to_move, ⟨a_M_House_side_to_move, i_M_House_side_to_move, k_M_House_side_to_move⟩⟩
  f_M_House_has_had := ⟨f_M_House_has_had, _, fun_mk (st := s_M_House_has_had) l_M_House_has_had c_M_House_has_had k_M_House_has_had, ⟨a_M_House_has_had, i_M_House_has_had, k_M_House_has_had⟩⟩
  f_M_House_lose_on_time := ⟨f_M_House_lose_on_time, _, fun_mk (st := s_M_House_lose_on_time) l_M_House_lose_on_time c_M_House_lose_on_time k_M_House_lose_on_time, ⟨a_M_House_lose_on_time, i_M_House_lose_on_time, k_M_House_lose_on_time⟩⟩
  f_M_House_check_clock := ⟨f_M_House_check_clock, _, fun_mk (st := s_M_House_check_clock) l_M_House_check_clock c_M_House_check_clock k_M_House_check_clock, ⟨a_M_House_check_clock, i_M_House_check_clock, k_M_House_check_clock⟩⟩
  f_M_House_restart := ⟨f_M_House_restart, _, fun_mk (st := s_M_House_restart) l_M_House_restart c_M_House_restart k_M_House_restart, ⟨a_M_House_restart, i_M_House_restart, k_M_House_restart⟩⟩
  f_M_House_tell := ⟨f_M_House_tell, _, fun_mk (st := s_M_House_tell) l_M_House_tell c_M_House_tell k_M_House_tell, ⟨a_M_House_tell, i_M_House_tell, k_M_House_tell⟩⟩
  f_M_House_tell_both := ⟨f_M_House_tell_both, _, fun_mk (st := s_M_House_tell_both) l_M_House_tell_both c_M_House_tell_both k_M_House_tell_both, ⟨a_M_House_tell_both, i_M_House_tell_both, k_M_House_tell_both⟩⟩
  f_M_House_hear := ⟨f_M_House_hear, _, fun_mk (st := s_M_House_hear) l_M_House_hear c_M_House_hear k_M_House_hear, ⟨a_M_House_hear, i_M_House_hear, k_M_House_hear⟩⟩
  f_M_House_arrive := ⟨f_M_House_arrive, _, fun_mk (st := s_M_House_arrive) l_M_House_arrive c_M_House_arrive k_M_House_arrive, ⟨a_M_House_arrive, i_M_House_arrive, k_M_House_arrive⟩⟩
  f_M_House_take_hello := ⟨f_M_House_take_hello, _, fun_mk (st := s_M_House_take_hello) l_M_House_take_hello c_M_House_take_hello k_M_House_take_hello, ⟨a_M_House_take_hello, i_M_House_take_hello, k_M_House_take_hello⟩⟩
  f_M_House_take_request := ⟨f_M_House_take_request, _, fun_mk (st := s_M_House_take_request) l_M_House_take_request c_M_House_take_request k_M_House_take_request, ⟨a_M_House_take_request, i_M_House_take_request, k_M_House_take_request⟩⟩
  f_M_House_take_ack := ⟨f_M_House_take_ack, _, fun_mk (st := s_M_House_take_ack) l_M_House_take_ack c_M_House_take_ack k_M_House_take_ack, ⟨a_M_House_take_ack, i_M_House_take_ack, k_M_House_take_ack⟩⟩
  f_M_House_allows := ⟨f_M_House_allows, _, fun_mk (st := s_M_House_allows) l_M_House_allows c_M_House_allows k_M_House_allows, ⟨a_M_House_allows, i_M_House_allows, k_M_House_allows⟩⟩
  f_M_House_cost_of := ⟨f_M_House_cost_of, _, fun_mk (st := s_M_House_cost_of) l_M_House_cost_of c_M_House_cost_of k_M_House_cost_of, ⟨a_M_House_cost_of, i_M_House_cost_of, k_M_House_cost_of⟩⟩
  f_M_House_look_at := ⟨f_M_House_look_at, _, fun_mk (st := s_M_House_look_at) l_M_House_look_at c_M_House_look_at k_M_House_look_at, ⟨a_M_House_look_at, i_M_House_look_at, k_M_House_look_at⟩⟩
  f_K_Machine := ⟨f_K_Machine, _, fun_mk (st := s_K_Machine) l_K_Machine c_K_Machine k_K_Machine, PySem.W.mg_of X G aC_Machine, ⟨mk_Machine, a_K_Machine, i_K_Machine, kc_Machine⟩⟩
  f_M_Machine_is_to_move := ⟨f_M_Machine_is_to_move, _, fun_mk (st := s_M_Machine_is_to_move) l_M_Machine_is_to_move c_M_Machine_is_to_move k_M_Machine_is_to_move, ⟨a_M_Machine_is_to_move, i_M_Machine_is_to_move, k_M_Machine_is_to_move⟩⟩
  f_M_Machine_can_press := ⟨f_M_Machine_can_press, _, fun_mk (st := s_M_Machine_can_press) l_M_Machine_can_press c_M_Machine_can_press k_M_Machine_can_press, ⟨a_M_Machine_can_press, i_M_Machine_can_press, k_M_Machine_can_press⟩⟩
  f_M_Machine_is_last_move := ⟨f_M_Machine_is_last_move, _, fun_mk (st := s_M_Machine_is_last_move) l_M_Machine_is_last_move c_M_Machine_is_last_move k_M_Machine_is_last_move, ⟨a_M_Machine_is_last_move, i_M_Machine_is_last_move, k_M_Machine_is_last_move⟩⟩
  f_M_Machine_press := ⟨f_M_Machine_press, _, fun_mk (st := s_M_Machine_press) l_M_Machine_press c_M_Machine_press k_M_Machine_press, ⟨a_M_Machine_press, i_M_Machine_press, k_M_Machine_press⟩⟩
  f_M_Machine_send_ack := ⟨f_M_Machine_send_ack, _, fun_mk (st := s_M_Machine_send_ack) l_M_Machine_send_ack c_M_Machine_send_ack k_M_Machine_send_ack, ⟨a_M_Machine_send_ack, i_M_Machine_send_ack, k_M_Machine_send_ack⟩⟩
  f_M_Machine_timer := ⟨f_M_Machine_timer, _, fun_mk (st := s_M_Machine_timer) l_M_Machine_timer c_M_Machine_timer k_M_Machine_timer, ⟨a_M_Machine_timer, i_M_Machine_timer, k_M_Machine_timer⟩⟩
  f_M_Machine_take_news := ⟨f_M_Machine_take_news, _, fun_mk (st := s_M_Machine_take_news) l_M_Machine_take_news c_M_Machine_take_news k_M_Machine_take_news, ⟨a_M_Machine_take_news, i_M_Machine_take_news, k_M_Machine_take_news⟩⟩
  f_M_Machine_add_moves := ⟨f_M_Machine_add_moves, _, fun_mk (st := s_M_Machine_add_moves) l_M_Machine_add_moves c_M_Machine_add_moves k_M_Machine_add_moves, ⟨a_M_Machine_add_moves, i_M_Machine_add_moves, k_M_Machine_add_moves⟩⟩
  f_M_Machine_forget_request := ⟨f_M_Machine_forget_request, _, fun_mk (st := s_M_Machine_forget_request) l_M_Machine_forget_request c_M_Machine_forget_request k_M_Machine_forget_request, ⟨a_M_Machine_forget_request, i_M_Machine_forget_request, k_M_Machine_forget_request⟩⟩
  f_M_Machine_told := ⟨f_M_Machine_told, _, fun_mk (st := s_M_Machine_told) l_M_Machine_told c_M_Machine_told k_M_Machine_told, ⟨a_M_Machine_told, i_M_Machine_told, k_M_Machine_told⟩⟩
  f_K_Net := ⟨f_K_Net, _, fun_mk (st := s_K_Net) l_K_Net c_K_Net k_K_Net, PySem.W.mg_of X G aC_Net, ⟨mk_Net, a_K_Net, i_K_Net, kc_Net⟩⟩
  f_M_Net_is_empty := ⟨f_M_Net_is_empty, _, fun_mk (st := s_M_Net_is_empty) l_M_Net_is_empty c_M_Net_is_empty k_M_Net_is_empty, ⟨a_M_Net_is_empty, i_M_Net_is_empty, k_M_Net_is_empty⟩⟩
  f_M_Net_is_full := ⟨f_M_Net_is_full, _, fun_mk (st := s_M_Net_is_full) l_M_Net_is_full c_M_Net_is_full k_M_Net_is_full, ⟨a_M_Net_is_full, i_M_Net_is_full, k_M_Net_is_full⟩⟩
  f_M_Net_holds := ⟨f_M_Net_holds, _, fun_mk (st := s_M_Net_holds) l_M_Net_holds c_M_Net_holds k_M_Net_holds, ⟨a_M_Net_holds, i_M_Net_holds, k_M_Net_holds⟩⟩
  f_M_Net_look := ⟨f_M_Net_look, _, fun_mk (st := s_M_Net_look) l_M_Net_look c_M_Net_look k_M_Net_look, ⟨a_M_Net_look, i_M_Net_look, k_M_Net_look⟩⟩
  f_M_Net_send := ⟨f_M_Net_send, _, fun_mk (st := s_M_Net_send) l_M_Net_send c_M_Net_send k_M_Net_send, ⟨a_M_Net_send, i_M_Net_send, k_M_Net_send⟩⟩
  f_M_Net_take := ⟨f_M_Net_take, _, fun_mk (st := s_M_Net_take) l_M_Net_take c_M_Net_take k_M_Net_take, ⟨a_M_Net_take, i_M_Net_take, k_M_Net_take⟩⟩
  f_M_Net_take_oldest := ⟨f_M_Net_take_oldest, _, fun_mk (st := s_M_Net_take_oldest) l_M_Net_take_oldest c_M_Net_take_oldest k_M_Net_take_oldest, ⟨a_M_Net_take_oldest, i_M_Net_take_oldest, k_M_Net_take_oldest⟩⟩
  f_M_Net_told := ⟨f_M_Net_told, _, fun_mk (st := s_M_Net_told) l_M_Net_told c_M_Net_told k_M_Net_told, ⟨a_M_Net_told, i_M_Net_told, k_M_Net_told⟩⟩
  f_K_Table := ⟨f_K_Table, _, fun_mk (st := s_K_Table) l_K_Table c_K_Table k_K_Table, PySem.W.mg_of X G aC_Table, ⟨mk_Table, a_K_Table, i_K_Table, kc_Table⟩⟩
  f_M_Table_arrive := ⟨f_M_Table_arrive, _, fun_mk (st := s_M_Table_arrive) l_M_Table_arrive c_M_Table_arrive k_M_Table_arrive, ⟨a_M_Table_arrive, i_M_Table_arrive, k_M_Table_arrive⟩⟩
  f_M_Table_crash := ⟨f_M_Table_crash, _, fun_mk (st := s_M_Table_crash) l_M_Table_crash c_M_Table_crash k_M_Table_crash, ⟨a_M_Table_crash, i_M_Table_crash, k_M_Table_crash⟩⟩
  f_M_Table_restart := ⟨f_M_Table_restart, _, fun_mk (st := s_M_Table_restart) l_M_Table_restart c_M_Table_restart k_M_Table_restart, ⟨a_M_Table_restart, i_M_Table_restart, k_M_Table_restart⟩⟩
  f_M_Table_go_round := ⟨f_M_Table_go_round, _, fun_mk (st := s_M_Table_go_round) l_M_Table_go_round c_M_Table_go_round k_M_Table_go_round, ⟨a_M_Table_go_round, i_M_Table_go_round, k_M_Table_go_round⟩⟩
  f_K_Desk := ⟨f_K_Desk, _, fun_mk (st := s_K_Desk) l_K_Desk c_K_Desk k_K_Desk, PySem.W.mg_of X G aC_Desk, ⟨mk_Desk, a_K_Desk, i_K_Desk, kc_Desk⟩⟩
  f_M_Desk_answer := ⟨f_M_Desk_answer, _, fun_mk (st := s_M_Desk_answer) l_M_Desk_answer c_M_Desk_answer k_M_Desk_answer, ⟨a_M_Desk_answer, i_M_Desk_answer, k_M_Desk_answer⟩⟩
  f_M_Desk_set_table := ⟨f_M_Desk_set_table, _, fun_mk (st := s_M_Desk_set_table) l_M_Desk_set_table c_M_Desk_set_table k_M_Desk_set_table, ⟨a_M_Desk_set_table, i_M_Desk_set_table, k_M_Desk_set_table⟩⟩
  f_F_within := ⟨f_F_within, _, fun_mk (st := s_F_within) l_F_within c_F_within k_F_within, PySem.W.mg_of X G a_F_within⟩
  f_F_is_side := ⟨f_F_is_side, _, fun_mk (st := s_F_is_side) l_F_is_side c_F_is_side k_F_is_side, PySem.W.mg_of X G a_F_is_side⟩
  f_F_new_table := ⟨f_F_new_table, _, fun_mk (st := s_F_new_table) l_F_new_table c_F_new_table k_F_new_table, PySem.W.mg_of X G a_F_new_table⟩
  f_F_tick := ⟨f_F_tick, _, fun_mk (st := s_F_tick) l_F_tick c_F_tick k_F_tick, PySem.W.mg_of X G a_F_tick⟩
  f_F_press := ⟨f_F_press, _, fun_mk (st := s_F_press) l_F_press c_F_press k_F_press, PySem.W.mg_of X G a_F_press⟩
  f_F_again := ⟨f_F_again, _, fun_mk (st := s_F_again) l_F_again c_F_again k_F_again, PySem.W.mg_of X G a_F_again⟩
  f_F_nudge := ⟨f_F_nudge, _, fun_mk (st := s_F_nudge) l_F_nudge c_F_nudge k_F_nudge, PySem.W.mg_of X G a_F_nudge⟩
  f_F_deliver := ⟨f_F_deliver, _, fun_mk (st := s_F_deliver) l_F_deliver c_F_deliver k_F_deliver, PySem.W.mg_of X G a_F_deliver⟩
  f_F_drop := ⟨f_F_drop, _, fun_mk (st := s_F_drop) l_F_drop c_F_drop k_F_drop, PySem.W.mg_of X G a_F_drop⟩
  f_F_double := ⟨f_F_double, _, fun_mk (st := s_F_double) l_F_double c_F_double k_F_double, PySem.W.mg_of X G a_F_double⟩
  f_F_crash := ⟨f_F_crash, _, fun_mk (st := s_F_crash) l_F_crash c_F_crash k_F_crash, PySem.W.mg_of X G a_F_crash⟩
  f_F_restart := ⟨f_F_restart, _, fun_mk (st := s_F_restart) l_F_restart c_F_restart k_F_restart, PySem.W.mg_of X G a_F_restart⟩
  f_F_rounds := ⟨f_F_rounds, _, fun_mk (st := s_F_rounds) l_F_rounds c_F_rounds k_F_rounds, PySem.W.mg_of X G a_F_rounds⟩
  f_F_show_net := ⟨f_F_show_net, _, fun_mk (st := s_F_show_net) l_F_show_net c_F_show_net k_F_show_net, PySem.W.mg_of X G a_F_show_net⟩
  f_F_show_house := ⟨f_F_show_house, _, fun_mk (st := s_F_show_house) l_F_show_house c_F_show_house k_F_show_house, PySem.W.mg_of X G a_F_show_house⟩
  f_F_show_machine := ⟨f_F_show_machine, _, fun_mk (st := s_F_show_machine) l_F_show_machine c_F_show_machine k_F_show_machine, PySem.W.mg_of X G a_F_show_machine⟩
  f_F_show_log := ⟨f_F_show_log, _, fun_mk (st := s_F_show_log) l_F_show_log c_F_show_log k_F_show_log, PySem.W.mg_of X G a_F_show_log⟩
  f_F_ask := ⟨f_F_ask, _, fun_mk (st := s_F_ask) l_F_ask c_F_ask k_F_ask, PySem.W.mg_of X G a_F_ask⟩
  f_F_answers := ⟨f_F_answers, _, fun_mk (st := s_F_answers) l_F_answers c_F_answers k_F_answers, PySem.W.mg_of X G a_F_answers⟩
theorem all_mk {P : Program} {w : World} {K : PySem.W.Frag} {mg : Str → Option Value} {fa : Addr} {C : Cs} (hfa : mg "answers" = some (.ref fa)) (T : Txt K mg C) :
    ∃ fd : FuncData, (∀ (s : Shared) (us : List Value), us.length = (["calls"] : List Str).length → BindsTo s fd ⟨us, []⟩ ((["calls"] : List Str).zip us)) ∧ ∀ base : Heap, K.In base → base.Ns mainGlobals mg → FnOk P w K mg base CX0 11 fa fd ["calls"] (spAns K) := by
  obtain ⟨f, fd, F, M⟩ := T.f_F_answers
  have e := hfa.symm.trans M
  cases e
  refine ⟨fd, ?_, fun base _ _ => F.ok sc_F_answers (fun vv H Q E h => ?_) (body_F_answers (P := P) (w := w) (base := base) T fa)⟩
  · obtain ⟨oc, od, kV, doc, pm, an, cdv, ct, osl, rfl, _⟩ := F.ex
    exact fun s us hu => .of_eq (ba_F_answers kV doc pm an cdv ct us hu)
  · obtain ⟨_, _, rfl, _⟩ := h
    rfl
end Nd
def PySem.W.Fast.tw17575756493867324382 : Nat := 0
def PySem.W.Fast.tw474348403467163354 : Nat := 0
def PySem.W.Fast.tw7653591207703783134 : Nat := 0
def PySem.W.Fast.tw4090349272355478622 : Nat := 0
def PySem.W.Fast.tw1715469207429642364 : Nat := 0
def PySem.W.Fast.tw10707722703603588169 : Nat := 0
def PySem.W.Fast.tw4388309427053551694 : Nat := 0
def PySem.W.Fast.tw14696415735609052970 : Nat := 0
def PySem.W.Fast.tw6659327714857760869 : Nat := 0
def PySem.W.Fast.tw14329025708030253017 : Nat := 0
def PySem.W.Fast.tw18166087883607568174 : Nat := 0
def PySem.W.Fast.tw4353743244476212080 : Nat := 0
def PySem.W.Fast.tw3112523474961008912 : Nat := 0
def PySem.W.Fast.tw12156315983249284465 : Nat := 0
def PySem.W.Fast.tw7387186861210820184 : Nat := 0
def PySem.W.Fast.tw17927582121104508945 : Nat := 0
def PySem.W.Fast.tw12812757147150025380 : Nat := 0
def PySem.W.Fast.tw4518188883972488327 : Nat := 0
def PySem.W.Fast.tw5481317404152491320 : Nat := 0
def PySem.W.Fast.tw11111469601518809105 : Nat := 0
def PySem.W.Fast.tw18259828582749734830 : Nat := 0
def PySem.W.Fast.tw5559670545648527965 : Nat := 0
def PySem.W.Fast.tw6404823219528936844 : Nat := 0
def PySem.W.Fast.tw13648944443629385600 : Nat := 0
def PySem.W.Fast.tw12913619548268924634 : Nat := 0
def PySem.W.Fast.tw11436438114942407241 : Nat := 0
def PySem.W.Fast.tw15429455944457025749 : Nat := 0
def PySem.W.Fast.tw1254620365121984715 : Nat := 0
def PySem.W.Fast.tw7022019189959692760 : Nat := 0
def PySem.W.Fast.tw7122049948795156630 : Nat := 0
def PySem.W.Fast.tw10199568043032538563 : Nat := 0
def PySem.W.Fast.tw7056122210146384211 : Nat := 0
def PySem.W.Fast.tw2478767595371598570 : Nat := 0
def PySem.W.Fast.tw4949225569159089789 : Nat := 0
def PySem.W.Fast.tw17418289153153906119 : Nat := 0
def PySem.W.Fast.tw7925808941533403614 : Nat := 0
def PySem.W.Fast.tw1018335909183329033 : Nat := 0
def PySem.W.Fast.tw492035954963715483 : Nat := 0
def PySem.W.Fast.tw6740646687771608740 : Nat := 0
def PySem.W.Fast.tw6047982416921740036 : Nat := 0
def PySem.W.Fast.tw4284444175167069885 : Nat := 0
def PySem.W.Fast.tw9503517004507584423 : Nat := 0
def PySem.W.Fast.tw14583059159150033283 : Nat := 0
def PySem.W.Fast.tw2559836641844119039 : Nat := 0
def PySem.W.Fast.tw10609853678184373408 : Nat := 0
def PySem.W.Fast.tw14732754872838100048 : Nat := 0
def PySem.W.Fast.tw7220922191680708033 : Nat := 0
def PySem.W.Fast.tw11011209039555821820 : Nat := 0
def PySem.W.Fast.tw9034727067117185920 : Nat := 0
def PySem.W.Fast.tw15313448643841925293 : Nat := 0
def PySem.W.Fast.tw5663605914672456144 : Nat := 0
def PySem.W.Fast.tw18128991839247272083 : Nat := 0
def PySem.W.Fast.tw8592571712098269698 : Nat := 0
def PySem.W.Fast.tw17632910605801915973 : Nat := 0
def PySem.W.Fast.tw11636984779984080021 : Nat := 0
def PySem.W.Fast.tw17078933570516686573 : Nat := 0
def PySem.W.Fast.tw10256019680349391621 : Nat := 0
def PySem.W.Fast.tw427865465187587006 : Nat := 0
def PySem.W.Fast.tw11666208999426062828 : Nat := 0
def PySem.W.Fast.tw10679510060997365558 : Nat := 0
def PySem.W.Fast.tw3274774226669723365 : Nat := 0
def PySem.W.Fast.tw2855776377447592280 : Nat := 0
def PySem.W.Fast.tw1773532494206686807 : Nat := 0
def PySem.W.Fast.tw16100101662550472792 : Nat := 0
def PySem.W.Fast.tw371812747738570006 : Nat := 0
def PySem.W.Fast.tw3281607285428327619 : Nat := 0
def PySem.W.Fast.tw5981977580612460498 : Nat := 0
def PySem.W.Fast.tw729890189444066817 : Nat := 0
def PySem.W.Fast.tw12855697332601248871 : Nat := 0
def PySem.W.Fast.tw6583427248436050432 : Nat := 0
def PySem.W.Fast.tw18148487095716335489 : Nat := 0
def PySem.W.Fast.tw16580727843384625854 : Nat := 0
def PySem.W.Fast.tw16416285950575849031 : Nat := 0
def PySem.W.Fast.tw1756680408317311437 : Nat := 0
def PySem.W.Fast.tw2470845591666376569 : Nat := 0
def PySem.W.Fast.tw13816125890307139322 : Nat := 0
def PySem.W.Fast.tw14704029902283119715 : Nat := 0
def PySem.W.Fast.tw1997329314676670098 : Nat := 0
def PySem.W.Fast.tw4136679941695905996 : Nat := 0
def PySem.W.Fast.tw783191809967653086 : Nat := 0
def PySem.W.Fast.tw4762982111206210339 : Nat := 0
def PySem.W.Fast.tw6456783743051849346 : Nat := 0
def PySem.W.Fast.tw4008925504927305362 : Nat := 0
def PySem.W.Fast.tw13234715733343322457 : Nat := 0
def PySem.W.Fast.tw10548099129594103729 : Nat := 0
def PySem.W.Fast.tw7760851708565745965 : Nat := 0
def PySem.W.Fast.tw7239228472011223735 : Nat := 0
def PySem.W.Fast.tw5898712052138245755 : Nat := 0
def PySem.W.Fast.tw13763770625465843027 : Nat := 0
def PySem.W.Fast.tw10089461096700554621 : Nat := 0
def PySem.W.Fast.tw537421940703188860 : Nat := 0
def PySem.W.Fast.tw402281449211274816 : Nat := 0
def PySem.W.Fast.tw11818175182767522548 : Nat := 0
def PySem.W.Fast.tw12511272364024064818 : Nat := 0
def PySem.W.Fast.tw3291527895474257821 : Nat := 0
def PySem.W.Fast.tw17321478580630990491 : Nat := 0
def PySem.W.Fast.tw13195839568150623106 : Nat := 0
def PySem.W.Fast.tw1542706767882469387 : Nat := 0
def PySem.W.Fast.tw77077596947244790 : Nat := 0
def PySem.W.Fast.tw8896171397785362707 : Nat := 0
def PySem.W.Fast.tw6093743607390496587 : Nat := 0
def PySem.W.Fast.tw14741226640664021678 : Nat := 0
def PySem.W.Fast.tw14823542753783314228 : Nat := 0
def PySem.W.Fast.tw4324715767320130490 : Nat := 0
def PySem.W.Fast.tw5420852002725811170 : Nat := 0
def PySem.W.Fast.tw14031174612597770597 : Nat := 0
def PySem.W.Fast.tw15676131853637480250 : Nat := 0
def PySem.W.Fast.tw15532273332165076892 : Nat := 0
def PySem.W.Fast.tw12965251428707407986 : Nat := 0
def PySem.W.Fast.tw14050334244671121806 : Nat := 0
def PySem.W.Fast.tw17756668104957986455 : Nat := 0
def PySem.W.Fast.tw1575981819124481034 : Nat := 0
def PySem.W.Fast.tw8169760743719331862 : Nat := 0
def PySem.W.Fast.tw1487548771692403537 : Nat := 0
def PySem.W.Fast.tw8978627882930457500 : Nat := 0
def PySem.W.Fast.tw6002897850443433301 : Nat := 0
def PySem.W.Fast.tw5964578960772290215 : Nat := 0
def PySem.W.Fast.tw1644173073214944170 : Nat := 0
def PySem.W.Fast.tw6782675951704077998 : Nat := 0
def PySem.W.Fast.tw14019506200164033125 : Nat := 0
def PySem.W.Fast.tw6060321838368209595 : Nat := 0
def PySem.W.Fast.tw17492312026176199902 : Nat := 0
def PySem.W.Fast.tw4122279728144454086 : Nat := 0
def PySem.W.Fast.tw4104026171166509163 : Nat := 0
def PySem.W.Fast.tw1734906476516260767 : Nat := 0
def PySem.W.Fast.tw8701217738763272373 : Nat := 0
def PySem.W.Fast.tw7995478143668218313 : Nat := 0
def PySem.W.Fast.tw6508041812120433899 : Nat := 0
def PySem.W.Fast.tw6618430572072891064 : Nat := 0
def PySem.W.Fast.tw291384188772529701 : Nat := 0
def PySem.W.Fast.tw3796686599559805738 : Nat := 0
def PySem.W.Fast.tw3356716580884988569 : Nat := 0
def PySem.W.Fast.tw14122397820331042207 : Nat := 0
def PySem.W.Fast.tw18222698628340650432 : Nat := 0
def PySem.W.Fast.tw660728824504240688 : Nat := 0
def PySem.W.Fast.tw6648435240764231127 : Nat := 0
def PySem.W.Fast.tw17135664152447709047 : Nat := 0
def PySem.W.Fast.tw16206235096960564144 : Nat := 0
def PySem.W.Fast.tw6124092127223458062 : Nat := 0
def PySem.W.Fast.tw16827658786725481234 : Nat := 0
def PySem.W.Fast.tw3874491757900773740 : Nat := 0
def PySem.W.Fast.tw15097027071587707599 : Nat := 0
def PySem.W.Fast.tw3175509624249731930 : Nat := 0
def PySem.W.Fast.tw18167397296452152447 : Nat := 0
def PySem.W.Fast.tw15651539395003968171 : Nat := 0
def PySem.W.Fast.tw16177659659904258756 : Nat := 0
def PySem.W.Fast.tw6537580234024465989 : Nat := 0
def PySem.W.Fast.tw16284353019353745670 : Nat := 0
def PySem.W.Fast.tw2875512187811769424 : Nat := 0
def PySem.W.Fast.tw16574114034966209179 : Nat := 0
def PySem.W.Fast.tw17289326559272532482 : Nat := 0
def PySem.W.Fast.tw6517776176439668701 : Nat := 0
def PySem.W.Fast.tw17503512286996314321 : Nat := 0
def PySem.W.Fast.tw15564128954691076294 : Nat := 0
def PySem.W.Fast.tw17086430873736314240 : Nat := 0
def PySem.W.Fast.tw9355556476123327838 : Nat := 0
def PySem.W.Fast.tw5918584039063578984 : Nat := 0
def PySem.W.Fast.tw6435494692001311919 : Nat := 0
def PySem.W.Fast.tw5977572464895113406 : Nat := 0
def PySem.W.Fast.tw17847714808493921199 : Nat := 0
def PySem.W.Fast.tw5914004027998635261 : Nat := 0
def PySem.W.Fast.tw17195729895593282603 : Nat := 0
def PySem.W.Fast.tw3039839424043203911 : Nat := 0
def PySem.W.Fast.tw13014219755140242775 : Nat := 0
def PySem.W.Fast.tw12114531932200144608 : Nat := 0
def PySem.W.Fast.tw8249894544584521118 : Nat := 0
open PySem PySem.W PyProof.Rows
set_option maxRecDepth 100000 in
set_option maxHeartbeats 0 in
theorem PySem.Challenge.cw_netduel_s01_answers_holds : PySem.Challenge.rw_netduel_s01_answers.Holds := by
  w_on; k_headS; (case hw => exact ⟨[.list [.int 4]], by decide +kernel, by decide +kernel⟩)
  k_fillS
  refine L2.walk_specK (r := PySem.Challenge.rw_netduel_s01_answers) (k := 11) (CX := L2.CX0) (ps := ["calls"]) (sp := Nd.spAns) (by decide +kernel) rfl rfl ⟨rfl, by decide, by decide⟩ (fun w h Y => PySem.W.kIn_of Y) ?F ?S (fun _ _ _ _ z => z)
  case F =>
    intro w mg fa h Y KX G hmg
    refine Nd.all_mk hmg (?T : Nd.Txt _ _ (Nd.Cs.mk ?xHello ?xRequest ?xAck ?xNews ?xSeat ?xHouse ?xMachine ?xNet ?xTable ?xDesk))
    case T =>
      refine' Nd.txt_mk KX G ?aC_Hello ?aC_Request ?aC_Ack ?aC_News ?aC_Seat ?aC_House ?aC_Machine ?aC_Net ?aC_Table ?aC_Desk ?pg_Hello ?hd_Hello ?po_Hello ?sa_Hello ?na_Hello_kind ?na_Hello_side ?na_Hello_epoch ?pg_Request ?hd_Request ?po_Request ?sa_Request ?na_Request_kind ?na_Request_side ?na_Request_epoch ?na_Request_number ?na_Request_ply ?na_Request_move ?na_Request_thought ?pg_Ack ?hd_Ack ?po_Ack ?sa_Ack ?na_Ack_kind ?na_Ack_side ?na_Ack_epoch ?na_Ack_known ?pg_News ?hd_News ?po_News ?sa_News ?na_News_kind ?na_News_side ?na_News_epoch ?na_News_place ?na_News_moves ?na_News_handled ?na_News_banks ?na_News_result ?pg_Seat ?hd_Seat ?po_Seat ?sa_Seat ?na_Seat_epoch ?na_Seat_handled ?na_Seat_acked ?na_Seat_here ?na_Seat_bank ?na_Seat_spent ?pg_House ?hd_House ?po_House ?sa_House ?na_House_log ?na_House_result ?na_House_runs ?na_House_since ?na_House_increment ?na_House_lag ?na_House_seats ?pg_Machine ?hd_Machine ?po_Machine ?sa_Machine ?na_Machine_side ?na_Machine_epoch ?na_Machine_on ?na_Machine_moves ?na_Machine_next_request ?na_Machine_request ?na_Machine_learned ?na_Machine_banks ?na_Machine_result ?pg_Net ?hd_Net ?po_Net ?sa_Net ?na_Net_waiting ?na_Net_next_number ?na_Net_lost ?pg_Table ?hd_Table ?po_Table ?sa_Table ?na_Table_time ?na_Table_house ?na_Table_machines ?na_Table_net ?pg_Desk ?hd_Desk ?po_Desk ?sa_Desk ?na_Desk_table ?gc_HELLO ?gc_REQUEST ?gc_ACK ?gc_NEWS ?gc_GOES_ON ?gc_EVEN ?gc_FULL_LOG ?gc_MOVES_IN_NEWS ?gc_MOST_MESSAGES ?gc_FIRST_EPOCH ?gc_DONE ?gc_OUT_OF_RANGE ?gc_NO_SUCH_MESSAGE ?gc_NOT_NOW ?gc_NET_IS_FULL ?gc_SAME_MOVE ?gc_MOST_BANK ?gc_MOST_INCREMENT ?gc_MOST_LAG ?gc_MOST_MS ?gc_MOST_MOVE ?gc_MOST_ROUNDS ?gc_NOT_SET ?gc_SET ?gc_TICK ?gc_PRESS ?gc_AGAIN ?gc_NUDGE ?gc_DELIVER ?gc_DROP ?gc_DOUBLE ?gc_CRASH ?gc_RESTART ?gc_ROUNDS ?gc_NET ?gc_HOUSE ?gc_MACHINE ?ga_HOW_MANY ?gl_HOW_MANY ?bn_len ?bn_max ?bn_min ?bn_list ?bn_range ?a_K_Hello ?i_K_Hello ?l_K_Hello ?c_K_Hello ?k_K_Hello ?mk_Hello ?kc_Hello ?a_M_Hello_told ?i_M_Hello_told ?l_M_Hello_told ?c_M_Hello_told ?k_M_Hello_told ?a_K_Request ?i_K_Request ?l_K_Request ?c_K_Request ?k_K_Request ?mk_Request ?kc_Request ?a_M_Request_told ?i_M_Request_told ?l_M_Request_told ?c_M_Request_told ?k_M_Request_told ?a_K_Ack ?i_K_Ack ?l_K_Ack ?c_K_Ack ?k_K_Ack ?mk_Ack ?kc_Ack ?a_M_Ack_told ?i_M_Ack_told ?l_M_Ack_told ?c_M_Ack_told ?k_M_Ack_told ?a_K_News ?i_K_News ?l_K_News ?c_K_News ?k_K_News ?mk_News ?kc_News ?a_M_News_told ?i_M_News_told ?l_M_News_told ?c_M_News_told ?k_M_News_told ?a_K_Seat ?i_K_Seat ?l_K_Seat ?c_K_Seat ?k_K_Seat ?mk_Seat ?kc_Seat ?a_M_Seat_begin ?i_M_Seat_begin ?l_M_Seat_begin ?c_M_Seat_begin ?k_M_Seat_begin ?a_M_Seat_pay ?i_M_Seat_pay ?l_M_Seat_pay ?c_M_Seat_pay ?k_M_Seat_pay ?a_M_Seat_told ?i_M_Seat_told ?l_M_Seat_told ?c_M_Seat_told ?k_M_Seat_told ?a_K_House ?i_K_House ?l_K_House ?c_K_House ?k_K_House ?mk_House ?kc_House ?a_M_House_side_to_move ?i_M_House_side_to_move ?l_M_House_side_to_move ?c_M_House_side_to_move ?k_M_House_side_to_move ?a_M_House_has_had ?i_M_House_has_had ?l_M_House_has_had ?c_M_House_has_had ?k_M_House_has_had ?a_M_House_lose_on_time ?i_M_House_lose_on_time ?l_M_House_lose_on_time ?c_M_House_lose_on_time ?k_M_House_lose_on_time ?a_M_House_check_clock ?i_M_House_check_clock ?l_M_House_check_clock ?c_M_House_check_clock ?k_M_House_check_clock ?a_M_House_restart ?i_M_House_restart ?l_M_House_restart ?c_M_House_restart ?k_M_House_restart ?a_M_House_tell ?i_M_House_tell ?l_M_House_tell ?c_M_House_tell ?k_M_House_tell ?a_M_House_tell_both ?i_M_House_tell_both ?l_M_House_tell_both ?c_M_House_tell_both ?k_M_House_tell_both ?a_M_House_hear ?i_M_House_hear ?l_M_House_hear ?c_M_House_hear ?k_M_House_hear ?a_M_House_arrive ?i_M_House_arrive ?l_M_House_arrive ?c_M_House_arrive ?k_M_House_arrive ?a_M_House_take_hello ?i_M_House_take_hello ?l_M_House_take_hello ?c_M_House_take_hello ?k_M_House_take_hello ?a_M_House_take_request ?i_M_House_take_request ?l_M_House_take_request ?c_M_House_take_request ?k_M_House_take_request ?a_M_House_take_ack ?i_M_House_take_ack ?l_M_House_take_ack ?c_M_House_take_ack ?k_M_House_take_ack ?a_M_House_allows ?i_M_House_allows ?l_M_House_allows ?c_M_House_allows ?k_M_House_allows ?a_M_House_cost_of ?i_M_House_cost_of ?l_M_House_cost_of ?c_M_House_cost_of ?k_M_House_cost_of ?a_M_House_look_at ?i_M_House_look_at ?l_M_House_look_at ?c_M_House_look_at ?k_M_House_look_at ?a_K_Machine ?i_K_Machine ?l_K_Machine ?c_K_Machine ?k_K_Machine ?mk_Machine ?kc_Machine ?a_M_Machine_is_to_move ?i_M_Machine_is_to_move ?l_M_Machine_is_to_move ?c_M_Machine_is_to_move ?k_M_Machine_is_to_move ?a_M_Machine_can_press ?i_M_Machine_can_press ?l_M_Machine_can_press ?c_M_Machine_can_press ?k_M_Machine_can_press ?a_M_Machine_is_last_move ?i_M_Machine_is_last_move ?l_M_Machine_is_last_move ?c_M_Machine_is_last_move ?k_M_Machine_is_last_move ?a_M_Machine_press ?i_M_Machine_press ?l_M_Machine_press ?c_M_Machine_press ?k_M_Machine_press ?a_M_Machine_send_ack ?i_M_Machine_send_ack ?l_M_Machine_send_ack ?c_M_Machine_send_ack ?k_M_Machine_send_ack ?a_M_Machine_timer ?i_M_Machine_timer ?l_M_Machine_timer ?c_M_Machine_timer ?k_M_Machine_timer ?a_M_Machine_take_news ?i_M_Machine_take_news ?l_M_Machine_take_news ?c_M_Machine_take_news ?k_M_Machine_take_news ?a_M_Machine_add_moves ?i_M_Machine_add_moves ?l_M_Machine_add_moves ?c_M_Machine_add_moves ?k_M_Machine_add_moves ?a_M_Machine_forget_request ?i_M_Machine_forget_request ?l_M_Machine_forget_request ?c_M_Machine_forget_request ?k_M_Machine_forget_request ?a_M_Machine_told ?i_M_Machine_told ?l_M_Machine_told ?c_M_Machine_told ?k_M_Machine_told ?a_K_Net ?i_K_Net ?l_K_Net ?c_K_Net ?k_K_Net ?mk_Net ?kc_Net ?a_M_Net_is_empty ?i_M_Net_is_empty ?l_M_Net_is_empty ?c_M_Net_is_empty ?k_M_Net_is_empty ?a_M_Net_is_full ?i_M_Net_is_full ?l_M_Net_is_full ?c_M_Net_is_full ?k_M_Net_is_full ?a_M_Net_holds ?i_M_Net_holds ?l_M_Net_holds ?c_M_Net_holds ?k_M_Net_holds ?a_M_Net_look ?i_M_Net_look ?l_M_Net_look ?c_M_Net_look ?k_M_Net_look ?a_M_Net_send ?i_M_Net_send ?l_M_Net_send ?c_M_Net_send ?k_M_Net_send ?a_M_Net_take ?i_M_Net_take ?l_M_Net_take ?c_M_Net_take ?k_M_Net_take ?a_M_Net_take_oldest ?i_M_Net_take_oldest ?l_M_Net_take_oldest ?c_M_Net_take_oldest ?k_M_Net_take_oldest ?a_M_Net_told ?i_M_Net_told ?l_M_Net_told ?c_M_Net_told ?k_M_Net_told ?a_K_Table ?i_K_Table ?l_K_Table ?c_K_Table ?k_K_Table ?mk_Table ?kc_Table ?a_M_Table_arrive ?i_M_Table_arrive ?l_M_Table_arrive ?c_M_Table_arrive ?k_M_Table_arrive ?a_M_Table_crash ?i_M_Table_crash ?l_M_Table_crash ?c_M_Table_crash ?k_M_Table_crash ?a_M_Table_restart ?i_M_Table_restart ?l_M_Table_restart ?c_M_Table_restart ?k_M_Table_restart ?a_M_Table_go_round ?i_M_Table_go_round ?l_M_Table_go_round ?c_M_Table_go_round ?k_M_Table_go_round ?a_K_Desk ?i_K_Desk ?l_K_Desk ?c_K_Desk ?k_K_Desk ?mk_Desk ?kc_Desk ?a_M_Desk_answer ?i_M_Desk_answer ?l_M_Desk_answer ?c_M_Desk_answer ?k_M_Desk_answer ?a_M_Desk_set_table ?i_M_Desk_set_table ?l_M_Desk_set_table ?c_M_Desk_set_table ?k_M_Desk_set_table ?a_F_within ?l_F_within ?c_F_within ?k_F_within ?a_F_is_side ?l_F_is_side ?c_F_is_side ?k_F_is_side ?a_F_new_table ?l_F_new_table ?c_F_new_table ?k_F_new_table ?a_F_tick ?l_F_tick ?c_F_tick ?k_F_tick ?a_F_press ?l_F_press ?c_F_press ?k_F_press ?a_F_again ?l_F_again ?c_F_again ?k_F_again ?a_F_nudge ?l_F_nudge ?c_F_nudge ?k_F_nudge ?a_F_deliver ?l_F_deliver ?c_F_deliver ?k_F_deliver ?a_F_drop ?l_F_drop ?c_F_drop ?k_F_drop ?a_F_double ?l_F_double ?c_F_double ?k_F_double ?a_F_crash ?l_F_crash ?c_F_crash ?k_F_crash ?a_F_restart ?l_F_restart ?c_F_restart ?k_F_restart ?a_F_rounds ?l_F_rounds ?c_F_rounds ?k_F_rounds ?a_F_show_net ?l_F_show_net ?c_F_show_net ?k_F_show_net ?a_F_show_house ?l_F_show_house ?c_F_show_house ?k_F_show_house ?a_F_show_machine ?l_F_show_machine ?c_F_show_machine ?k_F_show_machine ?a_F_show_log ?l_F_show_log ?c_F_show_log ?k_F_show_log ?a_F_ask ?l_F_ask ?c_F_ask ?k_F_ask ?a_F_answers ?l_F_answers ?c_F_answers ?k_F_answers
      (case aC_Hello => k_is)
      (case aC_Request => k_is)
      (case aC_Ack => k_is)
      (case aC_News => k_is)
      (case aC_Seat => k_is)
      (case aC_House => k_is)
      (case aC_Machine => k_is)
      (case aC_Net => k_is)
      (case aC_Table => k_is)
      (case aC_Desk => k_is)
      (case pg_Hello => k_is)
      (case hd_Hello => k_is)
      (case po_Hello => k_is)
      (case sa_Hello => k_is)
      (case na_Hello_kind => k_is)
      (case na_Hello_side => k_is)
      (case na_Hello_epoch => k_is)
      (case pg_Request => k_is)
      (case hd_Request => k_is)
      (case po_Request => k_is)
      (case sa_Request => k_is)
      (case na_Request_kind => k_is)
      (case na_Request_side => k_is)
      (case na_Request_epoch => k_is)
      (case na_Request_number => k_is)
      (case na_Request_ply => k_is)
      (case na_Request_move => k_is)
      (case na_Request_thought => k_is)
      (case pg_Ack => k_is)
      (case hd_Ack => k_is)
      (case po_Ack => k_is)
      (case sa_Ack => k_is)
      (case na_Ack_kind => k_is)
      (case na_Ack_side => k_is)
      (case na_Ack_epoch => k_is)
      (case na_Ack_known => k_is)
      (case pg_News => k_is)
      (case hd_News => k_is)
      (case po_News => k_is)
      (case sa_News => k_is)
      (case na_News_kind => k_is)
      (case na_News_side => k_is)
      (case na_News_epoch => k_is)
      (case na_News_place => k_is)
      (case na_News_moves => k_is)
      (case na_News_handled => k_is)
      (case na_News_banks => k_is)
      (case na_News_result => k_is)
      (case pg_Seat => k_is)
      (case hd_Seat => k_is)
      (case po_Seat => k_is)
      (case sa_Seat => k_is)
      (case na_Seat_epoch => k_is)
      (case na_Seat_handled => k_is)
      (case na_Seat_acked => k_is)
      (case na_Seat_here => k_is)
      (case na_Seat_bank => k_is)
      (case na_Seat_spent => k_is)
      (case pg_House => k_is)
      (case hd_House => k_is)
      (case po_House => k_is)
      (case sa_House => k_is)
      (case na_House_log => k_is)
      (case na_House_result => k_is)
      (case na_House_runs => k_is)
      (case na_House_since => k_is)
      (case na_House_increment => k_is)
      (case na_House_lag => k_is)
      (case na_House_seats => k_is)
      (case pg_Machine => k_is)
      (case hd_Machine => k_is)
      (case po_Machine => k_is)
      (case sa_Machine => k_is)
      (case na_Machine_side => k_is)
      (case na_Machine_epoch => k_is)
      (case na_Machine_on => k_is)
      (case na_Machine_moves => k_is)
      (case na_Machine_next_request => k_is)
      (case na_Machine_request => k_is)
      (case na_Machine_learned => k_is)
      (case na_Machine_banks => k_is)
      (case na_Machine_result => k_is)
      (case pg_Net => k_is)
      (case hd_Net => k_is)
      (case po_Net => k_is)
      (case sa_Net => k_is)
      (case na_Net_waiting => k_is)
      (case na_Net_next_number => k_is)
      (case na_Net_lost => k_is)
      (case pg_Table => k_is)
      (case hd_Table => k_is)
      (case po_Table => k_is)
      (case sa_Table => k_is)
      (case na_Table_time => k_is)
      (case na_Table_house => k_is)
      (case na_Table_machines => k_is)
      (case na_Table_net => k_is)
      (case pg_Desk => k_is)
      (case hd_Desk => k_is)
      (case po_Desk => k_is)
      (case sa_Desk => k_is)
      (case na_Desk_table => k_is)
      (case gc_HELLO => k_is)
      (case gc_REQUEST => k_is)
      (case gc_ACK => k_is)
      (case gc_NEWS => k_is)
      (case gc_GOES_ON => k_is)
      (case gc_EVEN => k_is)
      (case gc_FULL_LOG => k_is)
      (case gc_MOVES_IN_NEWS => k_is)
      (case gc_MOST_MESSAGES => k_is)
      (case gc_FIRST_EPOCH => k_is)
      (case gc_DONE => k_is)
      (case gc_OUT_OF_RANGE => k_is)
      (case gc_NO_SUCH_MESSAGE => k_is)
      (case gc_NOT_NOW => k_is)
      (case gc_NET_IS_FULL => k_is)
      (case gc_SAME_MOVE => k_is)
      (case gc_MOST_BANK => k_is)
      (case gc_MOST_INCREMENT => k_is)
      (case gc_MOST_LAG => k_is)
      (case gc_MOST_MS => k_is)
      (case gc_MOST_MOVE => k_is)
      (case gc_MOST_ROUNDS => k_is)
      (case gc_NOT_SET => k_is)
      (case gc_SET => k_is)
      (case gc_TICK => k_is)
      (case gc_PRESS => k_is)
      (case gc_AGAIN => k_is)
      (case gc_NUDGE => k_is)
      (case gc_DELIVER => k_is)
      (case gc_DROP => k_is)
      (case gc_DOUBLE => k_is)
      (case gc_CRASH => k_is)
      (case gc_RESTART => k_is)
      (case gc_ROUNDS => k_is)
      (case gc_NET => k_is)
      (case gc_HOUSE => k_is)
      (case gc_MACHINE => k_is)
      (case ga_HOW_MANY => k_is)
      (case gl_HOW_MANY => k_is)
      (case bn_len => k_is)
      (case bn_max => k_is)
      (case bn_min => k_is)
      (case bn_list => k_is)
      (case bn_range => k_is)
      (case a_K_Hello => k_is)
      (case i_K_Hello => k_is)
      (case l_K_Hello => k_is)
      (case c_K_Hello => k_is)
      (case k_K_Hello => k_is)
      (case mk_Hello => k_is)
      (case kc_Hello => k_is)
      (case a_M_Hello_told => k_is)
      (case i_M_Hello_told => k_is)
      (case l_M_Hello_told => k_is)
      (case c_M_Hello_told => k_is)
      (case k_M_Hello_told => k_is)
      (case a_K_Request => k_is)
      (case i_K_Request => k_is)
      (case l_K_Request => k_is)
      (case c_K_Request => k_is)
      (case k_K_Request => k_is)
      (case mk_Request => k_is)
      (case kc_Request => k_is)
      (case a_M_Request_told => k_is)
      (case i_M_Request_told => k_is)
      (case l_M_Request_told => k_is)
      (case c_M_Request_told => k_is)
      (case k_M_Request_told => k_is)
      (case a_K_Ack => k_is)
      (case i_K_Ack => k_is)
      (case l_K_Ack => k_is)
      (case c_K_Ack => k_is)
      (case k_K_Ack => k_is)
      (case mk_Ack => k_is)
      (case kc_Ack => k_is)
      (case a_M_Ack_told => k_is)
      (case i_M_Ack_told => k_is)
      (case l_M_Ack_told => k_is)
      (case c_M_Ack_told => k_is)
      (case k_M_Ack_told => k_is)
      (case a_K_News => k_is)
      (case i_K_News => k_is)
      (case l_K_News => k_is)
      (case c_K_News => k_is)
      (case k_K_News => k_is)
      (case mk_News => k_is)
      (case kc_News => k_is)
      (case a_M_News_told => k_is)
      (case i_M_News_told => k_is)
      (case l_M_News_told => k_is)
      (case c_M_News_told => k_is)
      (case k_M_News_told => k_is)
      (case a_K_Seat => k_is)
      (case i_K_Seat => k_is)
      (case l_K_Seat => k_is)
      (case c_K_Seat => k_is)
      (case k_K_Seat => k_is)
      (case mk_Seat => k_is)
      (case kc_Seat => k_is)
      (case a_M_Seat_begin => k_is)
      (case i_M_Seat_begin => k_is)
      (case l_M_Seat_begin => k_is)
      (case c_M_Seat_begin => k_is)
      (case k_M_Seat_begin => k_is)
      (case a_M_Seat_pay => k_is)
      (case i_M_Seat_pay => k_is)
      (case l_M_Seat_pay => k_is)
      (case c_M_Seat_pay => k_is)
      (case k_M_Seat_pay => k_is)
      (case a_M_Seat_told => k_is)
      (case i_M_Seat_told => k_is)
      (case l_M_Seat_told => k_is)
      (case c_M_Seat_told => k_is)
      (case k_M_Seat_told => k_is)
      (case a_K_House => k_is)
      (case i_K_House => k_is)
      (case l_K_House => k_is)
      (case c_K_House => k_is)
      (case k_K_House => k_is)
      (case mk_House => k_is)
      (case kc_House => k_is)
      (case a_M_House_side_to_move => k_is)
      (case i_M_House_side_to_move => k_is)
      (case l_M_House_side_to_move => k_is)
      (case c_M_House_side_to_move => k_is)
      (case k_M_House_side_to_move => k_is)
      (case a_M_House_has_had => k_is)
      (case i_M_House_has_had => k_is)
      (case l_M_House_has_had => k_is)
      (case c_M_House_has_had => k_is)
      (case k_M_House_has_had => k_is)
      (case a_M_House_lose_on_time => k_is)
      (case i_M_House_lose_on_time => k_is)
      (case l_M_House_lose_on_time => k_is)
      (case c_M_House_lose_on_time => k_is)
      (case k_M_House_lose_on_time => k_is)
      (case a_M_House_check_clock => k_is)
      (case i_M_House_check_clock => k_is)
      (case l_M_House_check_clock => k_is)
      (case c_M_House_check_clock => k_is)
      (case k_M_House_check_clock => k_is)
      (case a_M_House_restart => k_is)
      (case i_M_House_restart => k_is)
      (case l_M_House_restart => k_is)
      (case c_M_House_restart => k_is)
      (case k_M_House_restart => k_is)
      (case a_M_House_tell => k_is)
      (case i_M_House_tell => k_is)
      (case l_M_House_tell => k_is)
      (case c_M_House_tell => k_is)
      (case k_M_House_tell => k_is)
      (case a_M_House_tell_both => k_is)
      (case i_M_House_tell_both => k_is)
      (case l_M_House_tell_both => k_is)
      (case c_M_House_tell_both => k_is)
      (case k_M_House_tell_both => k_is)
      (case a_M_House_hear => k_is)
      (case i_M_House_hear => k_is)
      (case l_M_House_hear => k_is)
      (case c_M_House_hear => k_is)
      (case k_M_House_hear => k_is)
      (case a_M_House_arrive => k_is)
      (case i_M_House_arrive => k_is)
      (case l_M_House_arrive => k_is)
      (case c_M_House_arrive => k_is)
      (case k_M_House_arrive => k_is)
      (case a_M_House_take_hello => k_is)
      (case i_M_House_take_hello => k_is)
      (case l_M_House_take_hello => k_is)
      (case c_M_House_take_hello => k_is)
      (case k_M_House_take_hello => k_is)
      (case a_M_House_take_request => k_is)
      (case i_M_House_take_request => k_is)
      (case l_M_House_take_request => k_is)
      (case c_M_House_take_request => k_is)
      (case k_M_House_take_request => k_is)
      (case a_M_House_take_ack => k_is)
      (case i_M_House_take_ack => k_is)
      (case l_M_House_take_ack => k_is)
      (case c_M_House_take_ack => k_is)
      (case k_M_House_take_ack => k_is)
      (case a_M_House_allows => k_is)
      (case i_M_House_allows => k_is)
      (case l_M_House_allows => k_is)
      (case c_M_House_allows => k_is)
      (case k_M_House_allows => k_is)
      (case a_M_House_cost_of => k_is)
      (case i_M_House_cost_of => k_is)
      (case l_M_House_cost_of => k_is)
      (case c_M_House_cost_of => k_is)
      (case k_M_House_cost_of => k_is)
      (case a_M_House_look_at => k_is)
      (case i_M_House_look_at => k_is)
      (case l_M_House_look_at => k_is)
      (case c_M_House_look_at => k_is)
      (case k_M_House_look_at => k_is)
      (case a_K_Machine => k_is)
      (case i_K_Machine => k_is)
      (case l_K_Machine => k_is)
      (case c_K_Machine => k_is)
      (case k_K_Machine => k_is)
      (case mk_Machine => k_is)
      (case kc_Machine => k_is)
      (case a_M_Machine_is_to_move => k_is)
      (case i_M_Machine_is_to_move => k_is)
      (case l_M_Machine_is_to_move => k_is)
      (case c_M_Machine_is_to_move => k_is)
      (case k_M_Machine_is_to_move => k_is)
      (case a_M_Machine_can_press => k_is)
      (case i_M_Machine_can_press => k_is)
      (case l_M_Machine_can_press => k_is)
      (case c_M_Machine_can_press => k_is)
      (case k_M_Machine_can_press => k_is)
      (case a_M_Machine_is_last_move => k_is)
      (case i_M_Machine_is_last_move => k_is)
      (case l_M_Machine_is_last_move => k_is)
      (case c_M_Machine_is_last_move => k_is)
      (case k_M_Machine_is_last_move => k_is)
      (case a_M_Machine_press => k_is)
      (case i_M_Machine_press => k_is)
      (case l_M_Machine_press => k_is)
      (case c_M_Machine_press => k_is)
      (case k_M_Machine_press => k_is)
      (case a_M_Machine_send_ack => k_is)
      (case i_M_Machine_send_ack => k_is)
      (case l_M_Machine_send_ack => k_is)
      (case c_M_Machine_send_ack => k_is)
      (case k_M_Machine_send_ack => k_is)
      (case a_M_Machine_timer => k_is)
      (case i_M_Machine_timer => k_is)
      (case l_M_Machine_timer => k_is)
      (case c_M_Machine_timer => k_is)
      (case k_M_Machine_timer => k_is)
      (case a_M_Machine_take_news => k_is)
      (case i_M_Machine_take_news => k_is)
      (case l_M_Machine_take_news => k_is)
      (case c_M_Machine_take_news => k_is)
      (case k_M_Machine_take_news => k_is)
      (case a_M_Machine_add_moves => k_is)
      (case i_M_Machine_add_moves => k_is)
      (case l_M_Machine_add_moves => k_is)
      (case c_M_Machine_add_moves => k_is)
      (case k_M_Machine_add_moves => k_is)
      (case a_M_Machine_forget_request => k_is)
      (case i_M_Machine_forget_request => k_is)
      (case l_M_Machine_forget_request => k_is)
      (case c_M_Machine_forget_request => k_is)
      (case k_M_Machine_forget_request => k_is)
      (case a_M_Machine_told => k_is)
      (case i_M_Machine_told => k_is)
      (case l_M_Machine_told => k_is)
      (case c_M_Machine_told => k_is)
      (case k_M_Machine_told => k_is)
      (case a_K_Net => k_is)
      (case i_K_Net => k_is)
      (case l_K_Net => k_is)
      (case c_K_Net => k_is)
      (case k_K_Net => k_is)
      (case mk_Net => k_is)
      (case kc_Net => k_is)
      (case a_M_Net_is_empty => k_is)
      (case i_M_Net_is_empty => k_is)
      (case l_M_Net_is_empty => k_is)
      (case c_M_Net_is_empty => k_is)
      (case k_M_Net_is_empty => k_is)
      (case a_M_Net_is_full => k_is)
      (case i_M_Net_is_full => k_is)
      (case l_M_Net_is_full => k_is)
      (case c_M_Net_is_full => k_is)
      (case k_M_Net_is_full => k_is)
      (case a_M_Net_holds => k_is)
      (case i_M_Net_holds => k_is)
      (case l_M_Net_holds => k_is)
      (case c_M_Net_holds => k_is)
      (case k_M_Net_holds => k_is)
      (case a_M_Net_look => k_is)
      (case i_M_Net_look => k_is)
      (case l_M_Net_look => k_is)
      (case c_M_Net_look => k_is)
      (case k_M_Net_look => k_is)
      (case a_M_Net_send => k_is)
      (case i_M_Net_send => k_is)
      (case l_M_Net_send => k_is)
      (case c_M_Net_send => k_is)
      (case k_M_Net_send => k_is)
      (case a_M_Net_take => k_is)
      (case i_M_Net_take => k_is)
      (case l_M_Net_take => k_is)
      (case c_M_Net_take => k_is)
      (case k_M_Net_take => k_is)
      (case a_M_Net_take_oldest => k_is)
      (case i_M_Net_take_oldest => k_is)
      (case l_M_Net_take_oldest => k_is)
      (case c_M_Net_take_oldest => k_is)
      (case k_M_Net_take_oldest => k_is)
      (case a_M_Net_told => k_is)
      (case i_M_Net_told => k_is)
      (case l_M_Net_told => k_is)
      (case c_M_Net_told => k_is)
      (case k_M_Net_told => k_is)
      (case a_K_Table => k_is)
      (case i_K_Table => k_is)
      (case l_K_Table => k_is)
      (case c_K_Table => k_is)
      (case k_K_Table => k_is)
      (case mk_Table => k_is)
      (case kc_Table => k_is)
      (case a_M_Table_arrive => k_is)
      (case i_M_Table_arrive => k_is)
      (case l_M_Table_arrive => k_is)
      (case c_M_Table_arrive => k_is)
      (case k_M_Table_arrive => k_is)
      (case a_M_Table_crash => k_is)
      (case i_M_Table_crash => k_is)
      (case l_M_Table_crash => k_is)
      (case c_M_Table_crash => k_is)
      (case k_M_Table_crash => k_is)
      (case a_M_Table_restart => k_is)
      (case i_M_Table_restart => k_is)
      (case l_M_Table_restart => k_is)
      (case c_M_Table_restart => k_is)
      (case k_M_Table_restart => k_is)
      (case a_M_Table_go_round => k_is)
      (case i_M_Table_go_round => k_is)
      (case l_M_Table_go_round => k_is)
      (case c_M_Table_go_round => k_is)
      (case k_M_Table_go_round => k_is)
      (case a_K_Desk => k_is)
      (case i_K_Desk => k_is)
      (case l_K_Desk => k_is)
      (case c_K_Desk => k_is)
      (case k_K_Desk => k_is)
      (case mk_Desk => k_is)
      (case kc_Desk => k_is)
      (case a_M_Desk_answer => k_is)
      (case i_M_Desk_answer => k_is)
      (case l_M_Desk_answer => k_is)
      (case c_M_Desk_answer => k_is)
      (case k_M_Desk_answer => k_is)
      (case a_M_Desk_set_table => k_is)
      (case i_M_Desk_set_table => k_is)
      (case l_M_Desk_set_table => k_is)
      (case c_M_Desk_set_table => k_is)
      (case k_M_Desk_set_table => k_is)
      (case a_F_within => k_is)
      (case l_F_within => k_is)
      (case c_F_within => k_is)
      (case k_F_within => k_is)
      (case a_F_is_side => k_is)
      (case l_F_is_side => k_is)
      (case c_F_is_side => k_is)
      (case k_F_is_side => k_is)
      (case a_F_new_table => k_is)
      (case l_F_new_table => k_is)
      (case c_F_new_table => k_is)
      (case k_F_new_table => k_is)
      (case a_F_tick => k_is)
      (case l_F_tick => k_is)
      (case c_F_tick => k_is)
      (case k_F_tick => k_is)
      (case a_F_press => k_is)
      (case l_F_press => k_is)
      (case c_F_press => k_is)
      (case k_F_press => k_is)
      (case a_F_again => k_is)
      (case l_F_again => k_is)
      (case c_F_again => k_is)
      (case k_F_again => k_is)
      (case a_F_nudge => k_is)
      (case l_F_nudge => k_is)
      (case c_F_nudge => k_is)
      (case k_F_nudge => k_is)
      (case a_F_deliver => k_is)
      (case l_F_deliver => k_is)
      (case c_F_deliver => k_is)
      (case k_F_deliver => k_is)
      (case a_F_drop => k_is)
      (case l_F_drop => k_is)
      (case c_F_drop => k_is)
      (case k_F_drop => k_is)
      (case a_F_double => k_is)
      (case l_F_double => k_is)
      (case c_F_double => k_is)
      (case k_F_double => k_is)
      (case a_F_crash => k_is)
      (case l_F_crash => k_is)
      (case c_F_crash => k_is)
      (case k_F_crash => k_is)
      (case a_F_restart => k_is)
      (case l_F_restart => k_is)
      (case c_F_restart => k_is)
      (case k_F_restart => k_is)
      (case a_F_rounds => k_is)
      (case l_F_rounds => k_is)
      (case c_F_rounds => k_is)
      (case k_F_rounds => k_is)
      (case a_F_show_net => k_is)
      (case l_F_show_net => k_is)
      (case c_F_show_net => k_is)
      (case k_F_show_net => k_is)
      (case a_F_show_house => k_is)
      (case l_F_show_house => k_is)
      (case c_F_show_house => k_is)
      (case k_F_show_house => k_is)
      (case a_F_show_machine => k_is)
      (case l_F_show_machine => k_is)
      (case c_F_show_machine => k_is)
      (case k_F_show_machine => k_is)
      (case a_F_show_log => k_is)
      (case l_F_show_log => k_is)
      (case c_F_show_log => k_is)
      (case k_F_show_log => k_is)
      (case a_F_ask => k_is)
      (case l_F_ask => k_is)
      (case c_F_ask => k_is)
      (case k_F_ask => k_is)
      (case a_F_answers => k_is)
      (case l_F_answers => k_is)
      (case c_F_answers => k_is)
      (case k_F_answers => k_is)
  case S =>
    intro K H xs a hO hwi hask hx
    cases hx with
    | cons h1 h2 =>
      cases h2
      cases h1 with
      | lst hs ha =>
        have e := L2.ints_dw a.1 _ ha
        subst e
        exact ⟨_, a.1, rfl, hs, hask, fun H' p hp => .lst (L2.SqL.of hp) (L2.dw_ints _)⟩
#print axioms PySem.Challenge.cw_netduel_s01_answers_holds

