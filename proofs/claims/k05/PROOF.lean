import PyProof.Rows.All
import Wide.All
import OpenK.AllK
import Wide.FinOn
import Lean
import PyProof.EqAt
import PyProof.EqKinds
import PyProof.TupleCall
import PyProof.NeKinds
import PyProof.Rows.SortRunsK
import PyProof.Rows.SortShellK
import KE.KSortTup
import KE.KDictSum
import KE.KItemsList
import KE.KRevIter
import PyProof.ListNew
import PyProof.CollectIter
import OpenK.KOwn
import KE.KTryMore
import KE.KIsNot
import PyProof.LongRange
import PySem.Challenge.RW_tilechain_k05_a_ring_begun_elsewhere
set_option Elab.async false
set_option linter.all false
set_option maxRecDepth 100000
set_option maxHeartbeats 4000000
set_option Elab.async false
set_option linter.all false
set_option maxRecDepth 100000
/-! THE HAND LAYER, for ints, bools, texts, own classes, LISTS and tuples (index, slices, in, append, pop ..), calls, loops. Paste it whole ahead of your own text; what your proof does not reach may be deleted. -/
namespace L2
open PySem PySem.Spec PyProof.Rows

/-- a key: an int or a str -/
abbrev Key := Sum Int Str
def keyIs : Key → Value → Bool
  | .inl k, v => Value.isInt k v
  | .inr x, v => Value.isStrOf x v
def keyH (w : World) : Key → Int
  | .inl k => hashInt k
  | .inr x => hashStr w x
theorem keyIs_shape : ∀ {k : Key} {v : Value}, keyIs k v = true → (∃ i t, k = Sum.inl i ∧ v = Value.int i t) ∨ (∃ x t, k = Sum.inr x ∧ v = Value.str x t)
  | .inl i, v, h => by
    obtain ⟨t, e⟩ := Value.isInt_shape (k := i) (v := v) h
    exact .inl ⟨i, t, rfl, e⟩
  | .inr x, v, h => by
    obtain ⟨t, e⟩ := Value.isStrOf_shape (x := x) (v := v) h
    exact .inr ⟨x, t, rfl, e⟩
theorem keyIs_int (i : Int) (t : Tok) : keyIs (.inl i) (.int i t) = true := by simp [keyIs, Value.isInt]
theorem keyIs_str (x : Str) (t : Tok) : keyIs (.inr x) (.str x t) = true := by simp [keyIs, Value.isStrOf]
theorem key_ll (a b : Int) : decide ((Sum.inl a : Key) = Sum.inl b) = (a == b) := by
  by_cases e : a = b
  · subst e; simp
  · have h : ¬ (Sum.inl a : Key) = Sum.inl b := fun q => e (Sum.inl.inj q)
    rw [decide_eq_false h]
    exact (beq_eq_false_iff_ne.mpr e).symm
theorem key_rr (a b : Str) : decide ((Sum.inr a : Key) = Sum.inr b) = decide (a = b) := by
  by_cases e : a = b
  · subst e; simp
  · have h : ¬ (Sum.inr a : Key) = Sum.inr b := fun q => e (Sum.inr.inj q)
    rw [decide_eq_false h, decide_eq_false e]
theorem key_lr (a : Int) (b : Str) : decide ((Sum.inl a : Key) = Sum.inr b) = false := decide_eq_false (fun q => nomatch q)
theorem key_rl (a : Str) (b : Int) : decide ((Sum.inr a : Key) = Sum.inl b) = false := decide_eq_false (fun q => nomatch q)

def mixKind (prog : Program) (w : World) : PySem.KeyKind prog w Key where
  is := keyIs
  hash := keyH w
  inj := fun v a b ha hb => by
    rcases keyIs_shape ha with ⟨i, t, rfl, rfl⟩ | ⟨x, t, rfl, rfl⟩
    · rcases keyIs_shape hb with ⟨j, u, rfl, e⟩ | ⟨y, u, rfl, e⟩
      · injection e with e1 _; rw [e1]
      · exact nomatch e
    · rcases keyIs_shape hb with ⟨j, u, rfl, e⟩ | ⟨y, u, rfl, e⟩
      · exact nomatch e
      · injection e with e1 _; rw [e1]
  byValue := fun k v h => by
    rcases keyIs_shape h with ⟨i, t, rfl, rfl⟩ | ⟨x, t, rfl, rfl⟩ <;> rfl
  pyHash := fun hv h => by
    rcases keyIs_shape hv with ⟨i, t, rfl, rfl⟩ | ⟨x, t, rfl, rfl⟩
    · exact wpAny_pyHash_int h
    · exact wpAny_pyHash_str h
  eqBool := fun hu hv h => by
    rcases keyIs_shape hu with ⟨i, t, rfl, rfl⟩ | ⟨x, t, rfl, rfl⟩
    · rcases keyIs_shape hv with ⟨j, u, rfl, rfl⟩ | ⟨y, u, rfl, rfl⟩
      · rw [key_ll] at h; exact wpAny_eqBool_int h
      · rw [key_lr] at h; exact SeqAt.EqAt.int_str i t y u _ _ _ _ h
    · rcases keyIs_shape hv with ⟨j, u, rfl, rfl⟩ | ⟨y, u, rfl, rfl⟩
      · rw [key_rl] at h; exact SeqAt.EqAt.str_int x t j u _ _ _ _ h
      · rw [key_rr] at h; exact wpAny_eqBool_str h
  «strs» := fun k x t v h => by
    rcases keyIs_shape h with ⟨i, u, rfl, e⟩ | ⟨y, u, rfl, e⟩
    · exact nomatch e
    · injection e with e1 _
      subst e1
      cases v <;> rfl

theorem mixKind_is (prog : Program) (w : World) (k : Key) (v : Value) : (mixKind prog w).is k v = keyIs k v := rfl
theorem mixKind_int (prog : Program) (w : World) (i : Int) (t : Tok) : (mixKind prog w).is (.inl i) (.int i t) = true := keyIs_int i t
theorem mixKind_str (prog : Program) (w : World) (x : Str) (t : Tok) : (mixKind prog w).is (.inr x) (.str x t) = true := keyIs_str x t
end L2

namespace L2
open PySem PySem.Spec PyProof.Rows

/-- a value, without the heap -/
inductive V where
  | non | bl (b : Bool) | int (i : Int) | str (x : Str) | byt (b : Array UInt8) | flt (b : UInt64) | ref (a : Addr) | ty (n : String)
  deriving DecidableEq

def RelV : V → Value → Prop
  | .non, u => u = Value.none
  | .bl b, u => u = Value.bool b
  | .int i, u => ∃ t, u = Value.int i t
  | .str x, u => ∃ t, u = Value.str x t
  | .byt b, u => ∃ t, u = Value.bytes b t
  | .flt b, u => ∃ t, u = Value.float b t
  | .ref a, u => u = Value.ref a
  | .ty n, u => u = Value.type n

abbrev Vals : List V → List Value → Prop := Paired RelV
theorem Vals.length {xs : List V} {us : List Value} (r : Vals xs us) : xs.length = us.length := Paired.length r
theorem Vals.get : ∀ {xs : List V} {us : List Value} {i : Nat} {x : V}, Vals xs us → xs[i]? = some x → ∃ u, us[i]? = some u ∧ RelV x u
  | _, _, _, _, .nil, e => by simp at e
  | _, _, 0, _, .cons r _, e => by simp at e; subst e; exact ⟨_, rfl, r⟩
  | _, _, i + 1, x, .cons _ t, e => by
    obtain ⟨u, h1, h2⟩ := Vals.get (i := i) (x := x) t (by simpa using e)
    exact ⟨u, by simpa using h1, h2⟩
theorem Vals.set {x : V} {u : Value} (r : RelV x u) : ∀ {xs : List V} {us : List Value} (i : Nat), Vals xs us → Vals (xs.set i x) (us.set i u)
  | _, _, _, .nil => .nil
  | _, _, 0, .cons _ t => .cons r t
  | _, _, i + 1, .cons q t => .cons q (Vals.set r i t)
theorem Vals.append : ∀ {xs ys : List V} {us ws : List Value}, Vals xs us → Vals ys ws → Vals (xs ++ ys) (us ++ ws)
  | _, _, _, _, .nil, s => s
  | _, _, _, _, .cons r t, s => .cons r (Vals.append t s)
theorem Vals.take : ∀ {xs : List V} {us : List Value} (n : Nat), Vals xs us → Vals (xs.take n) (us.take n)
  | _, _, 0, _ => .nil
  | _, _, _ + 1, .nil => .nil
  | _, _, n + 1, .cons r t => .cons r (Vals.take n t)
theorem Vals.drop : ∀ {xs : List V} {us : List Value} (n : Nat), Vals xs us → Vals (xs.drop n) (us.drop n)
  | _, _, 0, r => r
  | _, _, _ + 1, .nil => .nil
  | _, _, n + 1, .cons _ t => Vals.drop n t
theorem Vals.none_of : ∀ {xs : List V} {us : List Value} {i : Nat}, Vals xs us → xs[i]? = none → us[i]? = none := fun {xs us i} r e => by
  have h1 := r.length
  have h2 : xs.length ≤ i := List.getElem?_eq_none_iff.mp e
  exact List.getElem?_eq_none_iff.mpr (by omega)

def RelO : Option V → Option Value → Prop
  | some v, some u => RelV v u
  | none, none => True
  | _, _ => False
def KV {κ : Type} : List (κ × V) → List (κ × Value) → Prop := Paired fun (p : κ × V) (q : κ × Value) => p.1 = q.1 ∧ RelV p.2 q.2

/-- a key of a dict (00_mix): an int or a text -/
def kV : Key → V
  | .inl i => .int i
  | .inr x => .str x

/-- what stands at a tracked address -/
inductive HO where
  /-- a list -/
  | lst (xs : List V)
  /-- a tuple (never changes) -/
  | tup (xs : List V)
  /-- a dict whose keys are ints and texts; one whose keys are tuples of ints and texts (the empty one is both) -/
  | dK (kvs : List (Key × V)) | dT (kvs : List (List Key × V))
  /-- a set of ints: its members, its size -/
  | set (S : Int → Bool) (n : Nat)
  /-- an instance of the class at C, its dict at dx, its attributes -/
  | ins (C dx : Addr) (fs : List (Str × V))
  /-- the dict of the instance at x -/
  | own (x : Addr)
  /-- the dict of an exception -/
  | xd (fs : List (Str × V))
  /-- a bound method, f of x -/
  | met (f x : Addr)
  /-- a range object lo, lo + 1, .. below hi -/
  | rng (lo hi : Int)
  /-- a thing that is known to the object (the script; a dict while a loop walks it): read, never written while it is so -/
  | frz (o : Obj) (u : HO)
  /-- a code object's table -/
  | tbl (ps : Array Value)
  /-- any other thing, by what is true of its one object (a def of one's own: SetO a S n := HO.ext fun h => ..) -/
  | ext (φ : Heap → Prop)

abbrev Hp := Addr → Option HO
def upd (H : Hp) (a : Addr) (o : HO) : Hp := fun b => if b = a then some o else H b
theorem upd_same {H : Hp} {a : Addr} {o : HO} : upd H a o a = some o := by unfold upd; rw [if_pos rfl]
theorem upd_ne {H : Hp} {a b : Addr} {o : HO} (h : b ≠ a) : upd H a o b = H b := by unfold upd; rw [if_neg h]
theorem upd_upd {H : Hp} {a : Addr} {o u : HO} : upd (upd H a o) a u = upd H a u := by
  funext b; unfold upd; split <;> rfl
/-- two objects of different content stand apart -/
theorem ne_of {H : Hp} {a b : Addr} {o u : HO} (h : H a = some o) (h' : H b = some u) (d : o ≠ u) : a ≠ b := by
  intro e; subst e; rw [h] at h'; exact d (Option.some.inj h')
theorem ne_of_none {H : Hp} {a b : Addr} {o : HO} (h : H a = some o) (h' : H b = none) : a ≠ b := by
  intro e; subst e; rw [h] at h'; cases h'

section
variable (P : Program) (w : World)
def ObjOk (H : Hp) (h : Heap) (a : Addr) : HO → Prop
  | .lst xs => xs.length ≤ sizeLine ∧ ∃ (its : List Value) (n : Nat), Vals xs its ∧ h.get? a = some { cls := .type "list", data := .seq its.toArray n }
  | .tup xs => xs.length ≤ sizeLine ∧ ∃ its : List Value, Vals xs its ∧ IsTup h a its.toArray
  | .dK kvs => kvs.length ≤ sizeLine ∧ (a == sysModules) = false ∧ ∃ vs, KV kvs vs ∧ h.DictOf (mixKind P w) a vs
  | .dT kvs => kvs.length ≤ sizeLine ∧ (a == sysModules) = false ∧ ∃ xs : List (List Key × Addr × Value),
      Paired (fun (p : List Key × V) (q : List Key × Addr × Value) => p.1 = q.1 ∧ H q.2.1 = some (.tup (p.1.map kV)) ∧ RelV p.2 q.2.2) kvs xs ∧
      ∃ o es ep, h.get? a = some o ∧ o.ExactDict ∧ o.data = .dict es ep ∧ es.toList = xs.map (entryOfKey (tupleKind (mixKind P w))) ∧ (xs.map (·.1)).Nodup
  | .set S n => h.SetOf (intKind P w) a S n
  | .ins C dx fs => H dx = some (.own a) ∧ fs.length ≤ 1000 ∧ dx ≠ a ∧ h.get? a = some (PySem.W.instObj C dx) ∧
      ∃ mA, h.Ns1 dx mA ∧ (∀ f, RelO (fs.lookup f) (mA f)) ∧ PySem.Within mA (fs.map (·.1))
  | .own _ => ∃ o, h.get? a = some o
  | .xd fs => ∃ mA, h.Ns1 a mA ∧ ∀ f, RelO (fs.lookup f) (mA f)
  | .rng lo hi => ∃ t u v, h.get? a = some { cls := .type "range", data := .fields #[.int lo t, .int hi u, .int 1 v] }
  | .frz o u => h.get? a = some o ∧ ObjOk H h a u
  | .tbl ps => h.get? a = some { cls := .none, data := .fields ps }
  | .met f x => h.get? a = some (PySem.W.methodObj (.ref f) (.ref x))
  | .ext φ => φ h ∧ (∃ o, h.get? a = some o) ∧ ∀ h1 h2 : Heap, φ h1 → (∀ o, h1.get? a = some o → h2.get? a = some o) → φ h2
/-- the abstract heap is held -/
def HOk (H : Hp) (h : Heap) : Prop := ∀ a o, H a = some o → ObjOk P w H h a o
end

section
variable {P : Program} {w : World} {H H' : Hp} {h h' : Heap} {a : Addr} {o : HO}
theorem ObjOk.lt (x : ObjOk P w H h a o) : a < h.objs.size := by
  cases o with
  | lst xs => obtain ⟨_, _, _, _, e⟩ := x; exact Heap.lt_size e
  | tup xs => obtain ⟨_, _, _, p⟩ := x; exact p.lt
  | dK kvs => obtain ⟨_, _, _, _, o, _, _, e, _⟩ := x; exact Heap.lt_size e
  | dT kvs => obtain ⟨_, _, _, _, o, _, _, e, _⟩ := x; exact Heap.lt_size e
  | set S n => obtain ⟨o, _, _, _, e, _⟩ := x; exact Heap.lt_size e
  | ins C dx fs => obtain ⟨_, _, _, e, _⟩ := x; exact Heap.lt_size e
  | own y => obtain ⟨_, e⟩ := x; exact Heap.lt_size e
  | xd fs => obtain ⟨_, ⟨_, _, _, e, _⟩, _⟩ := x; exact Heap.lt_size e
  | rng lo hi => obtain ⟨_, _, _, e⟩ := x; exact Heap.lt_size e
  | frz ob u => obtain ⟨e, _⟩ := x; exact Heap.lt_size e
  | tbl ps => exact Heap.lt_size (show h.get? a = some _ from x)
  | met f y => exact Heap.lt_size (show h.get? a = some _ from x)
  | ext φ => obtain ⟨_, ⟨_, e⟩, _⟩ := x; exact Heap.lt_size e
theorem Paired.mapP {α β : Type} {F G : α → β → Prop} : ∀ {l₁ : List α} {l₂ : List β}, Paired F l₁ l₂ → (∀ a b, F a b → G a b) → Paired G l₁ l₂
  | _, _, .nil, _ => .nil
  | _, _, .cons r t, f => .cons (f _ _ r) (Paired.mapP t f)
theorem Paired.imp' {α β : Type} {F G : α → β → Prop} (f : ∀ a b, F a b → G a b) {l₁ : List α} {l₂ : List β} (r : Paired F l₁ l₂) : Paired G l₁ l₂ := Paired.mapP r f
/-- what an object's description leans on: its own object, its own dict, the tuples -/
theorem ObjOk.stay (x : ObjOk P w H h a o) (k : ∀ b u, (b = a ∨ H b = some (.own a)) → h.get? b = some u → h'.get? b = some u)
    (ho : ∀ b, H b = some (.own a) → H' b = some (.own a)) (ht : ∀ b xs, H b = some (.tup xs) → H' b = some (.tup xs)) : ObjOk P w H' h' a o := by
  induction o with
  | lst xs => obtain ⟨z, its, n, r, e⟩ := x; exact ⟨z, its, n, r, k _ _ (.inl rfl) e⟩
  | tup xs => obtain ⟨z, its, r, ob, e, c⟩ := x; exact ⟨z, its, r, ob, k _ _ (.inl rfl) e, c⟩
  | dK kvs => obtain ⟨z, y, vs, r, ob, es, ep, e, c⟩ := x; exact ⟨z, y, vs, r, ob, es, ep, k _ _ (.inl rfl) e, c⟩
  | dT kvs =>
    obtain ⟨z, y, xs, r, ob, es, ep, e, c⟩ := x
    exact ⟨z, y, xs, Paired.mapP r fun p q z => ⟨z.1, ht _ _ z.2.1, z.2.2⟩, ob, es, ep, k _ _ (.inl rfl) e, c⟩
  | set S n => obtain ⟨ob, es, ep, t, e, c⟩ := x; exact ⟨ob, es, ep, t, k _ _ (.inl rfl) e, c⟩
  | ins C dx fs =>
    obtain ⟨d, z, ne, e, mA, ⟨od, es, ep, e2, c⟩, r⟩ := x
    exact ⟨ho _ d, z, ne, k _ _ (.inl rfl) e, mA, ⟨od, es, ep, k _ _ (.inr d) e2, c⟩, r⟩
  | own y => obtain ⟨ob, e⟩ := x; exact ⟨ob, k _ _ (.inl rfl) e⟩
  | xd fs => obtain ⟨mA, ⟨od, es, ep, e, c⟩, r⟩ := x; exact ⟨mA, ⟨od, es, ep, k _ _ (.inl rfl) e, c⟩, r⟩
  | rng lo hi => obtain ⟨t, u, v, e⟩ := x; exact ⟨t, u, v, k _ _ (.inl rfl) e⟩
  | frz ob u ih => obtain ⟨e, q⟩ := x; exact ⟨k _ _ (.inl rfl) e, ih q⟩
  | tbl ps =>
    have e : h.get? a = some { cls := .none, data := .fields ps } := x
    show h'.get? a = some { cls := .none, data := .fields ps }
    exact k a _ (.inl rfl) e
  | met f y =>
    have e : h.get? a = some (PySem.W.methodObj (.ref f) (.ref y)) := x
    show h'.get? a = some (PySem.W.methodObj (.ref f) (.ref y))
    exact k a _ (.inl rfl) e
  | ext φ => obtain ⟨p, ⟨o, e⟩, st⟩ := x; exact ⟨st _ _ p fun o q => k _ _ (.inl rfl) q, ⟨o, k _ _ (.inl rfl) e⟩, st⟩
theorem HOk.lt (x : HOk P w H h) (e : H a = some o) : a < h.objs.size := (x a o e).lt
theorem HOk.fresh (x : HOk P w H h) (e : h.objs.size ≤ a) : H a = none := by
  cases q : H a with
  | none => rfl
  | some u => exact absurd (Nat.lt_of_lt_of_le (x.lt q) e) (Nat.lt_irrefl _)
/-- every object of the heap is kept -/
theorem HOk.kept (x : HOk P w H h) (k : ∀ b u, h.get? b = some u → h'.get? b = some u) : HOk P w H h' := fun a o e =>
  (x a o e).stay (fun b u _ q => k b u q) (fun _ q => q) fun _ _ q => q
/-- a new object is laid and tracked -/
theorem HOk.laid (x : HOk P w H h) (k : ∀ b u, h.get? b = some u → h'.get? b = some u) (hp : h.objs.size ≤ a) (new : ObjOk P w (upd H a o) h' a o) : HOk P w (upd H a o) h' := fun b u e => by
  have hn := x.fresh hp
  by_cases hb : b = a
  · subst hb; rw [upd_same] at e; cases e; exact new
  · rw [upd_ne hb] at e
    exact (x b u e).stay (fun c v _ q => k c v q) (fun c q => by rw [upd_ne (ne_of_none q hn)]; exact q) fun c xs q => by rw [upd_ne (ne_of_none q hn)]; exact q
end

/-- what may be read as u: it is u, or a known u -/
def Rd (H : Hp) (a : Addr) (u : HO) : Prop := H a = some u ∨ ∃ o, H a = some (.frz o u)
theorem Rd.of {H : Hp} {a : Addr} {u : HO} (h : H a = some u) : Rd H a u := .inl h
theorem Rd.ok {P : Program} {w : World} {H : Hp} {h : Heap} {a : Addr} {u : HO} (r : Rd H a u) (x : HOk P w H h) : ObjOk P w H h a u := by
  rcases r with r | ⟨o, r⟩
  · exact x a u r
  · obtain ⟨_, q⟩ := x a _ r
    exact q
/-- what may be written -/
def Mut : Option HO → Prop
  | some (.lst _) => True
  | some (.dK _) => True
  | some (.dT _) => True
  | some (.set _ _) => True
  | some (.ins _ _ _) => True
  | some (.ext _) => True
  | _ => False
section
variable {P : Program} {w : World} {H : Hp} {h h' : Heap} {x e : Addr} {o' : HO}
/-- the object at e is changed: x itself, or the dict of the instance x -/
theorem HOk.write (ok : HOk P w H h) (mu : Mut (H x)) (he : e = x ∨ H e = some (.own x)) (k : ∀ b u, b ≠ e → h.get? b = some u → h'.get? b = some u) (heo : ∃ u, h'.get? e = some u)
    (new : ObjOk P w (upd H x o') h' x o') : HOk P w (upd H x o') h' := fun b u q => by
  have nown : ∀ c y, H c = some (.own y) → c ≠ x := fun c y r z => by subst z; rw [r] at mu; exact mu
  have ntup : ∀ c xs, H c = some (.tup xs) → c ≠ x := fun c xs r z => by subst z; rw [r] at mu; exact mu
  by_cases hb : b = x
  · subst hb; rw [upd_same] at q; cases q; exact new
  · rw [upd_ne hb] at q
    by_cases hbe : b = e
    · have q' : H b = some (.own x) := by
        rcases he with z | z
        · exact absurd (hbe.trans z) hb
        · rw [hbe]; exact z
      rw [q] at q'; cases q'
      obtain ⟨v, hv⟩ := heo
      exact ⟨v, by rw [hbe]; exact hv⟩
    · refine (ok b u q).stay (fun c v hc r => k c v ?_ r) (fun c r => by rw [upd_ne (nown c b r)]; exact r) fun c xs r => by rw [upd_ne (ntup c xs r)]; exact r
      rcases hc with rfl | hc
      · exact hbe
      · rintro rfl
        rcases he with z | z
        · exact nown c b hc z
        · rw [hc] at z; cases z; exact hb rfl
end

/-! ### kept unless tracked; of the frames at fs (the callers') the slots may change (an exception that passes writes there); of the records at ex (iterators) nothing is said -/
structure Un (fs ex : List Addr) (H H' : Hp) (h h' : Heap) : Prop where
  keep : ∀ b o, h.get? b = some o → H b = none → b ∉ fs → b ∉ ex → h'.get? b = some o
  slot : ∀ b o, h.get? b = some o → H b = none → b ∈ fs → b ∉ ex → ∃ sl, h'.get? b = some { o with slots := sl }
  free : ∀ b o, h.get? b = some o → H b = none → b ∉ ex → H' b = none
  there : ∀ b o, h.get? b = some o → b ∉ ex → ∃ o', h'.get? b = some o'
  tups : ∀ b xs, H b = some (.tup xs) → H' b = some (.tup xs)
  frzs : ∀ b o u, H b = some (.frz o u) → H' b = some (.frz o u)
  tbls : ∀ b ps, H b = some (.tbl ps) → ∃ more, H' b = some (.tbl (ps ++ more))
section
variable {fs fs' ex ex' : List Addr} {H H1 H2 : Hp} {h h1 h2 h' : Heap} {a x e : Addr} {o : HO}
theorem Un.any (u : Un fs ex H H1 h h1) {b : Addr} {ob : Obj} (q : h.get? b = some ob) (n : H b = none) (hx : b ∉ ex) : ∃ sl, h1.get? b = some { ob with slots := sl } := by
  by_cases hb : b ∈ fs
  · exact u.slot b ob q n hb hx
  · exact ⟨ob.slots, u.keep b ob q n hb hx⟩
theorem Un.trans (a : Un fs ex H H1 h h1) (b : Un fs ex H1 H2 h1 h2) : Un fs ex H H2 h h2 where
  keep := fun c ob q n hc hx => b.keep c ob (a.keep c ob q n hc hx) (a.free c ob q n hx) hc hx
  slot := fun c ob q n hc hx => by
    obtain ⟨sl, e1⟩ := a.slot c ob q n hc hx
    obtain ⟨sl', e2⟩ := b.slot c _ e1 (a.free c ob q n hx) hc hx
    exact ⟨sl', e2⟩
  free := fun c ob q n hx => by
    obtain ⟨o', e1⟩ := a.there c ob q hx
    exact b.free c o' e1 (a.free c ob q n hx) hx
  there := fun c ob q hx => by
    obtain ⟨o', e1⟩ := a.there c ob q hx
    exact b.there c o' e1 hx
  tups := fun c xs q => b.tups c xs (a.tups c xs q)
  frzs := fun c ob xs q => b.frzs c ob xs (a.frzs c ob xs q)
  tbls := fun c ps q => by
    obtain ⟨m1, e1⟩ := a.tbls c ps q
    obtain ⟨m2, e2⟩ := b.tbls c _ e1
    exact ⟨m1 ++ m2, by rw [e2, Array.append_assoc]⟩
theorem Un.kept (k : ∀ b u, h.get? b = some u → h'.get? b = some u) : Un fs ex H H h h' :=
  ⟨fun b ob q _ _ _ => k b ob q, fun b ob q _ _ _ => ⟨ob.slots, k b ob q⟩, fun _ _ _ n _ => n, fun b ob q _ => ⟨ob, k b ob q⟩, fun _ _ q => q, fun _ _ _ q => q, fun _ ps q => ⟨#[], by rw [q]; simp⟩⟩
theorem Un.refl : Un fs ex H H h h := Un.kept fun _ _ q => q
theorem Un.laid (k : ∀ b u, h.get? b = some u → h'.get? b = some u) (hp : h.objs.size ≤ a) (hn : H a = none) : Un fs ex H (upd H a o) h h' where
  keep := fun b u q _ _ _ => k b u q
  slot := fun b u q _ _ _ => ⟨u.slots, k b u q⟩
  free := fun b u q n _ => by rw [upd_ne (Nat.ne_of_lt (Nat.lt_of_lt_of_le (Heap.lt_size q) hp))]; exact n
  there := fun b u q _ => ⟨u, k b u q⟩
  tups := fun b xs q => by rw [upd_ne (ne_of_none q hn)]; exact q
  frzs := fun b u xs q => by rw [upd_ne (ne_of_none q hn)]; exact q
  tbls := fun b ps q => ⟨#[], by rw [upd_ne (ne_of_none q hn), q]; simp⟩
theorem Un.write (mu : Mut (H x)) (he : e = x ∨ H e = some (.own x)) (k : ∀ b u, b ≠ e → h.get? b = some u → h'.get? b = some u) (heo : ∃ u, h'.get? e = some u) : Un fs ex H (upd H x o) h h' := by
  have hx : ∀ b, H b = none → b ≠ x := fun b n z => by subst z; rw [n] at mu; exact mu
  have hb : ∀ b, H b = none → b ≠ e := fun b n z => by
    subst z
    rcases he with r | r
    · exact hx b n r
    · rw [n] at r; cases r
  have hm : ∀ b u, H b = some u → ¬ Mut (some u) → b ≠ x := fun b u q nm z => by subst z; rw [q] at mu; exact nm mu
  refine ⟨fun b u q n _ _ => k b u (hb b n) q, fun b u q n _ _ => ⟨u.slots, k b u (hb b n) q⟩, fun b u q n _ => by rw [upd_ne (hx b n)]; exact n, fun b u q _ => ?_,
    fun b xs q => by rw [upd_ne (hm b _ q fun z => z)]; exact q, fun b u xs q => by rw [upd_ne (hm b _ q fun z => z)]; exact q, fun b ps q => ⟨#[], by rw [upd_ne (hm b _ q fun z => z), q]; simp⟩⟩
  by_cases hbe : b = e
  · subst hbe; exact heo
  · exact ⟨u, k b u hbe q⟩
theorem Un.mono (u : Un fs ex H H1 h h1) (hs : ∀ b ∈ fs, b ∈ fs') (hx : ∀ b ∈ ex, b ∈ ex') : Un fs' ex' H H1 h h1 :=
  ⟨fun b ob q n hb he => u.keep b ob q n (fun z => hb (hs b z)) fun z => he (hx b z), fun _ _ q n _ he => u.any q n fun z => he (hx _ z), fun b ob q n he => u.free b ob q n fun z => he (hx b z), fun b ob q he => u.there b ob q fun z => he (hx b z), u.tups, u.frzs, u.tbls⟩
end

/-! ### the heap without what is tracked -/
def trk (h : Heap) (H : Hp) : List Addr := (List.range h.objs.size).filter fun a => (H a).isSome
def hidT (h : Heap) (H : Hp) : Heap := PySem.W.hideAll h (trk h H)
theorem hidT_size (h : Heap) (H : Hp) : (hidT h H).objs.size = h.objs.size := PySem.W.hideAll_size _ _
theorem hidT_get {h : Heap} {H : Hp} {b : Addr} {o : Obj} (e : h.get? b = some o) (n : H b = none) : (hidT h H).get? b = some o :=
  PySem.W.hideAll_get _ e fun hm => by
    have q : (H b).isSome = true := (List.mem_filter.mp hm).2
    rw [n] at q; simp at q
theorem of_hidT {h : Heap} {H : Hp} {b : Addr} {o : Obj} (e : (hidT h H).get? b = some o) : h.get? b = some o ∧ H b = none := by
  have e' : h.get? b = some o := PySem.W.of_hideAll (trk h H) e
  refine ⟨e', ?_⟩
  cases q : H b with
  | none => rfl
  | some x =>
    have hm : b ∈ trk h H := List.mem_filter.mpr ⟨List.mem_range.mpr (Heap.lt_size e'), by simp [q]⟩
    have z : (hidT h H).get? b = none := PySem.W.hideAll_none (trk h H) hm
    rw [z] at e; cases e

/-! ### OpenK's ledger, filled with every new object but one -/
def allNews (g h : Heap) (L : Addr) : List (Addr × Obj) := (List.range h.objs.size).filterMap fun a => if a = L ∨ (g.get? a).isSome = true then none else (h.get? a).map fun o => (a, o)
theorem mem_allNews {g h : Heap} {L a : Addr} {o : Obj} (h1 : a ≠ L) (h2 : g.get? a = none) (h3 : h.get? a = some o) : (a, o) ∈ allNews g h L :=
  List.mem_filterMap.mpr ⟨a, List.mem_range.mpr (Heap.lt_size h3), by simp [h1, h2, h3]⟩
theorem of_mem_allNews {g h : Heap} {L : Addr} {p : Addr × Obj} (hp : p ∈ allNews g h L) : p.1 ≠ L ∧ g.get? p.1 = none ∧ h.get? p.1 = some p.2 := by
  obtain ⟨b, _, e⟩ := List.mem_filterMap.mp hp
  split at e
  · cases e
  · rename_i hn
    cases q : h.get? b with
    | none => rw [q] at e; simp at e
    | some u =>
      rw [q] at e
      simp only [Option.map_some, Option.some.injEq] at e
      subst e
      refine ⟨fun z => hn (.inl z), ?_, q⟩
      show g.get? b = none
      cases r : g.get? b with
      | none => rfl
      | some v => exact (hn (.inr (by simp [r]))).elim
def rest (g h : Heap) (L d : Addr) : List (Addr × Obj) := (allNews g h L).filter fun p => decide (p.1 ≠ d)
theorem rest_ne {g h : Heap} {L d : Addr} : ∀ p ∈ rest g h L d, p.1 ≠ d := fun p hp => of_decide_eq_true (List.mem_filter.mp hp).2
theorem mem_rest {g h : Heap} {L d a : Addr} {o : Obj} (h1 : a ≠ L) (h2 : g.get? a = none) (h3 : h.get? a = some o) (h4 : a ≠ d) : (a, o) ∈ rest g h L d :=
  List.mem_filter.mpr ⟨mem_allNews h1 h2 h3, decide_eq_true h4⟩
theorem news_all {g h : Heap} {L : Addr} : News g L h (allNews g h L) := fun p hp => let ⟨a, b, c⟩ := of_mem_allNews hp; ⟨c, a, b⟩
theorem news_at {g h : Heap} {L d : Addr} {o : Obj} (h1 : d ≠ L) (h2 : g.get? d = none) (h3 : h.get? d = some o) : News g L h ((d, o) :: rest g h L d) := fun p hp => by
  rcases List.mem_cons.mp hp with rfl | hp
  · exact ⟨h3, h1, h2⟩
  · exact news_all p (List.mem_filter.mp hp).1
/-- behind a rule that changed d alone: all else but the frame is kept -/
theorem kept_of_news {g h h' : Heap} {L d : Addr} {m : Str → Option Value} (k : ∀ b o, g.get? b = some o → h.get? b = some o) (F : Fr g L h' m) (N : News g L h' (rest g h L d)) :
    ∀ b o, b ≠ L → b ≠ d → h.get? b = some o → h'.get? b = some o := fun b o h1 h2 e => by
  cases q : g.get? b with
  | some u =>
    have := k b u q
    rw [e] at this; cases this
    exact F.keep b _ q
  | none => exact (N (b, o) (mem_rest h1 q e h2)).1
end L2

namespace L2
open PySem PySem.Spec PyProof.Rows

/-- the module's facts, over the base: the heap at the law's entry without what is tracked there -/
structure Mod (K : PySem.W.Frag) (mg : Str → Option Value) (base : Heap) : Prop where
  kin : K.In base
  glob : base.Ns mainGlobals mg
  blt : ∃ mb, base.Ns builtinsNs mb ∧ ∀ x : Str, x ≠ "__name__" → mb x = bootBuiltins x
  nolimit : base.NoLimit

/-- the context: a def's body (or a comprehension's block) running. base: fixed through the whole law; s₀, H₀: the entry; outer: the frames whose slots others may change (a def's callers); stack: all frames that run;
   ex: iterators that were made ahead of the entry and are walked here (a comprehension's); fn: the names whose cells were made at the entry (a def: all; a comprehension's block: its own); calm: not within an except suite; pn: pins that every state bears; xe: what is wanted of an exception that leaves the code -/
structure Cx where
  prog : Program
  w : World
  K : PySem.W.Frag
  mg : Str → Option Value
  base : Heap
  A : Around
  N : List Str
  s₀ : Shared
  H₀ : Hp
  env : Env
  outer : List Env
  stack : List Env
  ex : List Addr
  fn : Str → Bool
  calm : Bool
  pn : List (Addr × Obj)
  xe : Value → Shared → Prop
/-- the callers' frames -/
def frs (l : List Env) : List Addr := l.filterMap (·.frame)
abbrev Cx.fs (X : Cx) : List Addr := frs X.outer

def Vis (sc : Scope) (x : Str) : Prop := sc.names.lookup x = some .local ∨ sc.names.lookup x = some .cell ∨ sc.names.lookup x = some .free
def Loc (sc : Scope) (x : Str) : Prop := sc.names.lookup x = some .local ∨ sc.names.lookup x = some .cell
def Look (env : Env) (h : Heap) (m : Str → Option Value) (x : Str) (u : Value) : Prop :=
  (env.kindOf x = some .local ∧ m x = some u) ∨ ((env.kindOf x = some .cell ∨ env.kindOf x = some .free) ∧ ∃ c, env.cells.lookup x = some c ∧ h.IsCell c (some u))

structure Cx.Ok (X : Cx) : Prop where
  mod : Mod X.K X.mg X.base
  kind : X.env.scope.kind = .function
  glob : X.env.globals = mainGlobals
  blt : X.env.builtins = builtinsNs
  above : X.s₀.heap.objs.size ≤ X.env.locals
  inj : ∀ x y c, X.env.cells.lookup x = some c → X.env.cells.lookup y = some c → x = y
  has : ∀ x, (X.env.kindOf x = some .cell ∨ X.env.kindOf x = some .free) → ∃ c, X.env.cells.lookup x = some c
  cab : ∀ x c, X.fn x = true → X.env.cells.lookup x = some c → X.s₀.heap.objs.size ≤ c
  hd : X.calm = true → X.A.handled = none
  frames : X.A.frames = some X.stack
  stk : X.stack = X.outer ∨ (X.stack = X.env :: X.outer ∧ X.env.frame = some X.env.locals)
  exf : ∀ b ∈ X.ex, b ≠ X.env.locals ∧ ∀ x c, X.env.cells.lookup x = some c → c ≠ b
  bs : ∀ b o, X.base.get? b = some o → X.s₀.heap.get? b = some o ∧ X.H₀ b = none
  bsz : X.base.objs.size ≤ X.s₀.heap.objs.size
  noex : ∀ b o, X.base.get? b = some o → b ∉ X.ex
  exfs : ∀ b ∈ X.ex, b ∉ X.fs
  funs : X.s₀.heap.FunFrames X.base X.outer
  frf : ∀ b ∈ X.fs, X.H₀ b = none

structure Inv (X : Cx) (pins : List (Addr × Obj)) (σ : List (Option V)) (H : Hp) (s : Shared) : Prop where
  ok : X.Ok
  os : s.os = X.s₀.os
  bare : AllBare s.gens
  base : Un X.fs X.ex X.H₀ H X.s₀.heap s.heap
  loc : ∃ m, s.heap.Ns X.env.locals m ∧ ∀ (i : Nat) (x : Str) (v : V), X.N[i]? = some x → σ[i]? = some (some v) → Vis X.env.scope x → ∃ u, RelV v u ∧ Look X.env s.heap m x u
  cell : ∀ x c, X.env.cells.lookup x = some c → ∃ v, s.heap.IsCell c v
  free : H X.env.locals = none
  freeC : ∀ x c, X.env.cells.lookup x = some c → H c = none
  pin : ∀ p ∈ X.pn ++ pins, s.heap.get? p.1 = some p.2 ∧ H p.1 = none ∧ p.1 ≠ X.env.locals ∧ p.1 ∉ X.fs ∧ ∀ v, p.2.data ≠ .cell v
  hok : HOk X.prog X.w H s.heap
  len : σ.length = X.N.length

section
variable {X : Cx} {pins : List (Addr × Obj)} {σ : List (Option V)} {H H' : Hp} {s : Shared} {h' : Heap}

theorem Cx.Ok.nofr (ok : X.Ok) {b : Addr} {o : Obj} (e : X.base.get? b = some o) : b ∉ X.fs := fun hb => by
  have := (ok.funs.mem hb).1
  rw [e] at this; cases this
theorem Inv.bs (I : Inv X pins σ H s) : ∀ b o, X.base.get? b = some o → s.heap.get? b = some o ∧ H b = none := fun b o e =>
  ⟨I.base.keep b o (I.ok.bs b o e).1 (I.ok.bs b o e).2 (I.ok.nofr e) (I.ok.noex b o e), I.base.free b o (I.ok.bs b o e).1 (I.ok.bs b o e).2 (I.ok.noex b o e)⟩
theorem Inv.bk (I : Inv X pins σ H s) : ∀ b o, X.base.get? b = some o → s.heap.get? b = some o := fun b o e => (I.bs b o e).1
theorem Inv.mod (I : Inv X pins σ H s) : Mod X.K X.mg X.base := I.ok.mod
theorem Inv.kIn (I : Inv X pins σ H s) : X.K.In s.heap := I.ok.mod.kin.keeps I.bk
theorem Inv.nolimit (I : Inv X pins σ H s) : s.heap.NoLimit := I.ok.mod.nolimit.keeps I.bk
/-- the frame over the base: for OpenK's rules (K.In X.base is I.mod.kin) -/
theorem Inv.fr (I : Inv X pins σ H s) : ∃ m, Fr X.base X.env.locals s.heap m :=
  let ⟨m, hn, _⟩ := I.loc
  ⟨m, hn, I.bk, Nat.le_trans I.ok.bsz I.ok.above⟩
theorem Inv.lt (I : Inv X pins σ H s) : X.env.locals < s.heap.objs.size := let ⟨_, hn, _⟩ := I.loc; hn.lt
theorem Inv.sz (I : Inv X pins σ H s) : X.s₀.heap.objs.size ≤ s.heap.objs.size := Nat.le_trans I.ok.above (Nat.le_of_lt I.lt)
theorem Inv.nofs (I : Inv X pins σ H s) {a : Addr} (h : s.heap.objs.size ≤ a) : a ∉ X.fs := fun hb => by
  obtain ⟨_, o, ho, _⟩ := I.ok.funs.mem hb
  exact absurd (Nat.lt_of_lt_of_le (Heap.lt_size ho) (Nat.le_trans I.sz h)) (Nat.lt_irrefl _)
theorem Inv.cne (I : Inv X pins σ H s) : ∀ x c, X.env.cells.lookup x = some c → c ≠ X.env.locals := fun x c e z => by
  obtain ⟨v, o, ho, hd⟩ := I.cell x c e
  obtain ⟨m, ⟨o', es, ep, ho', hd', _⟩, _⟩ := I.loc
  rw [z, ho'] at ho; cases ho; rw [hd'] at hd; cases hd
theorem Inv.funs (I : Inv X pins σ H s) : s.heap.FunFrames X.base X.outer := by
  have all : ∀ (l : List Env), (∀ b ∈ frs l, b ∈ X.fs) → X.s₀.heap.FunFrames X.base l → s.heap.FunFrames X.base l := by
    intro l
    induction l with
    | nil => intro _ _; trivial
    | cons env r ih =>
      intro hs hl
      obtain ⟨hk, ⟨L, o, hf, hn, ho, hd⟩, hr⟩ := hl
      have hL : L ∈ X.fs := hs L (by unfold frs; rw [List.filterMap_cons, hf]; exact List.mem_cons_self)
      obtain ⟨sl, e⟩ := I.base.slot L o ho (I.ok.frf L hL) hL fun z => I.ok.exfs L z hL
      exact ⟨hk, ⟨L, _, hf, hn, e, hd⟩, ih (fun b hb => hs b (by unfold frs; rw [List.filterMap_cons, hf]; exact List.mem_cons_of_mem _ hb)) hr⟩
  exact all X.outer (fun _ hb => hb) I.ok.funs

/-- the frames that run, for a call -/
theorem Inv.stack (I : Inv X pins σ H s) : s.heap.FunFrames X.base X.stack := by
  rcases I.ok.stk with e | ⟨e, hf⟩
  · rw [e]; exact I.funs
  · rw [e]
    obtain ⟨m, hn, _⟩ := I.loc
    refine .cons (by rw [I.ok.kind]; decide) hf hn ?_ I.funs
    exact Heap.get?_none_of_le (Nat.le_trans I.ok.bsz I.ok.above)
theorem Inv.stkSub (I : Inv X pins σ H s) : ∀ b ∈ frs X.stack, b ∈ X.env.locals :: X.fs := fun b hb => by
  rcases I.ok.stk with e | ⟨e, hf⟩
  · rw [e] at hb; exact List.mem_cons_of_mem _ hb
  · rw [e] at hb
    unfold frs at hb
    rw [List.filterMap_cons, hf] at hb
    exact hb
theorem Inv.stkFree (I : Inv X pins σ H s) : ∀ b ∈ frs X.stack, H b = none := fun b hb => by
  rcases List.mem_cons.mp (I.stkSub b hb) with e | hb
  · rw [e]; exact I.free
  · obtain ⟨_, o, ho, _⟩ := I.ok.funs.mem hb
    exact I.base.free b o ho (I.ok.frf b hb) fun z => I.ok.exfs b z hb

/-- THE STEP: the untracked objects but the frame and the records at ch are kept (the callers' frames up to slots), the frame's map is kept, the new abstract heap is held -/
theorem Inv.step {g' : Array GenState} {t' : Nat} {d' : Drawn} {ch : List Addr} (I : Inv X pins σ H s)
    (hch : ∀ b ∈ ch, (b ∈ X.ex ∨ X.s₀.heap.objs.size ≤ b) ∧ b ≠ X.env.locals ∧ (∀ x c, X.env.cells.lookup x = some c → c ≠ b) ∧ ∀ p ∈ X.pn ++ pins, p.1 ≠ b)
    (keep : ∀ b o, b ≠ X.env.locals → b ∉ X.fs → b ∉ ch → s.heap.get? b = some o → H b = none → h'.get? b = some o)
    (slot : ∀ b o, b ≠ X.env.locals → b ∈ X.fs → b ∉ ch → s.heap.get? b = some o → H b = none → ∃ sl, h'.get? b = some { o with slots := sl }) (free : ∀ b o, b ∉ ch → s.heap.get? b = some o → H b = none → H' b = none)
    (there : ∀ b o, b ∉ ch → s.heap.get? b = some o → ∃ o', h'.get? b = some o')
    (tups : ∀ b xs, H b = some (.tup xs) → H' b = some (.tup xs)) (frzs : ∀ b o u, H b = some (.frz o u) → H' b = some (.frz o u)) (tbls : ∀ b ps, H b = some (.tbl ps) → ∃ more, H' b = some (.tbl (ps ++ more)))
    (ns : ∀ m, s.heap.Ns X.env.locals m → h'.Ns X.env.locals m) (hok : HOk X.prog X.w H' h') (hg : AllBare g') :
    Inv X pins σ H' { s with heap := h', gens := g', drawn := d', toks := t' } := by
  have neL : ∀ b o, X.s₀.heap.get? b = some o → b ≠ X.env.locals := fun b o e => Nat.ne_of_lt (Nat.lt_of_lt_of_le (Heap.lt_size e) I.ok.above)
  have neC : ∀ b o, X.s₀.heap.get? b = some o → b ∉ X.ex → b ∉ ch := fun b o e hx hb => by
    rcases (hch b hb).1 with z | z
    · exact hx z
    · exact absurd (Nat.lt_of_lt_of_le (Heap.lt_size e) z) (Nat.lt_irrefl _)
  have cellK : ∀ x c, X.env.cells.lookup x = some c → ∀ v, s.heap.IsCell c v → h'.IsCell c v := fun x c e v ⟨o, ho, hd⟩ => by
    have nch : c ∉ ch := fun z => (hch c z).2.2.1 x c e rfl
    by_cases hc : c ∈ X.fs
    · obtain ⟨sl, q⟩ := slot c o (I.cne x c e) hc nch ho (I.freeC x c e)
      exact ⟨_, q, hd⟩
    · exact ⟨o, keep c o (I.cne x c e) hc nch ho (I.freeC x c e), hd⟩
  refine ⟨I.ok, I.os, hg, ⟨fun b o e n hb hx => ?_, fun b o e n hb hx => ?_, fun b o e n hx => ?_, fun b o e hx => ?_, fun b xs e => tups b xs (I.base.tups b xs e), fun b o xs e => frzs b o xs (I.base.frzs b o xs e), fun b ps e => ?_⟩, ?_, fun x c e => ?_, ?_, fun x c e => ?_, fun p hp => ?_, hok, I.len⟩
  · exact keep b o (neL b o e) hb (neC b o e hx) (I.base.keep b o e n hb hx) (I.base.free b o e n hx)
  · obtain ⟨sl, e1⟩ := I.base.slot b o e n hb hx
    obtain ⟨sl', e2⟩ := slot b _ (neL b o e) hb (neC b o e hx) e1 (I.base.free b o e n hx)
    exact ⟨sl', e2⟩
  · obtain ⟨o', e1⟩ := I.base.there b o e hx
    exact free b o' (neC b o e hx) e1 (I.base.free b o e n hx)
  · obtain ⟨o', e1⟩ := I.base.there b o e hx
    exact there b o' (neC b o e hx) e1
  · obtain ⟨m1, e1⟩ := I.base.tbls b ps e
    obtain ⟨m2, e2⟩ := tbls b _ e1
    exact ⟨m1 ++ m2, by rw [e2, Array.append_assoc]⟩
  · obtain ⟨m, hn, hl⟩ := I.loc
    refine ⟨m, ns m hn, fun i x v e1 e2 e3 => ?_⟩
    obtain ⟨u, r, l⟩ := hl i x v e1 e2 e3
    refine ⟨u, r, ?_⟩
    rcases l with l | ⟨k, c, e, z⟩
    · exact .inl l
    · exact .inr ⟨k, c, e, cellK x c e _ z⟩
  · obtain ⟨v, z⟩ := I.cell x c e
    exact ⟨v, cellK x c e v z⟩
  · obtain ⟨m, ⟨o, _, _, ho, _⟩, _⟩ := I.loc
    exact free _ o (fun z => (hch _ z).2.1 rfl) ho I.free
  · obtain ⟨v, o, ho, hd⟩ := I.cell x c e
    exact free c o (fun z => (hch c z).2.2.1 x c e rfl) ho (I.freeC x c e)
  · obtain ⟨e, n, ne, nf, d⟩ := I.pin p hp
    have nch : p.1 ∉ ch := fun z => (hch p.1 z).2.2.2 p hp rfl
    exact ⟨keep p.1 p.2 ne nf nch e n, free p.1 p.2 nch e n, ne, nf, d⟩
/-- .. where the frame's own object is kept too -/
theorem Inv.un {t' : Nat} (I : Inv X pins σ H s) (u : Un X.fs [] H H' s.heap h') (hok : HOk X.prog X.w H' h') : Inv X pins σ H' { s with heap := h', toks := t' } := by
  obtain ⟨m, ⟨o, es, ep, ho, r⟩, _⟩ := id I.loc
  obtain ⟨sl, hL⟩ := u.any ho I.free (by simp)
  exact I.step (g' := s.gens) (d' := s.drawn) (ch := []) (fun _ z => nomatch z) (fun b o _ hb _ e n => u.keep b o e n hb (by simp)) (fun b o _ hb _ e n => u.slot b o e n hb (by simp)) (fun b o _ e n => u.free b o e n (by simp)) (fun b o _ e => u.there b o e (by simp)) u.tups u.frzs u.tbls (fun m' hm => by
    obtain ⟨o', es', ep', ho', r'⟩ := hm
    rw [ho] at ho'; cases ho'
    exact ⟨_, es', ep', hL, r'⟩) hok I.bare
/-- behind a call (or a comprehension's block): the slots of this frame may have changed too, the records at ch may have turned -/
theorem Inv.call {g' : Array GenState} {t' : Nat} {d' : Drawn} {ch : List Addr} (I : Inv X pins σ H s) (u : Un (frs X.stack) ch H H' s.heap h') (hok : HOk X.prog X.w H' h') (hg : AllBare g')
    (hch : ∀ b ∈ ch, (b ∈ X.ex ∨ X.s₀.heap.objs.size ≤ b) ∧ b ≠ X.env.locals ∧ (∀ x c, X.env.cells.lookup x = some c → c ≠ b) ∧ ∀ p ∈ X.pn ++ pins, p.1 ≠ b) :
    Inv X pins σ H' { s with heap := h', gens := g', drawn := d', toks := t' } := by
  obtain ⟨m, ⟨o, es, ep, ho, r⟩, _⟩ := id I.loc
  obtain ⟨sl, hL⟩ := u.any ho I.free fun z => (hch _ z).2.1 rfl
  exact I.step (ch := ch) hch (fun b o hL hb hc e n => u.keep b o e n (fun z => (List.mem_cons.mp (I.stkSub b z)).elim hL hb) hc) (fun b o _ _ hc e n => u.any e n hc) (fun b o hc e n => u.free b o e n hc) (fun b o hc e => u.there b o e hc) u.tups u.frzs u.tbls (fun m' hm => by
    obtain ⟨o', es', ep', ho', r'⟩ := hm
    rw [ho] at ho'; cases ho'
    exact ⟨_, es', ep', hL, r'⟩) hok hg
/-- an untracked record of ours (an iterator) has turned -/
theorem Inv.turned {t' : Nat} {it : Addr} (I : Inv X pins σ H s) (k : ∀ b o, b ≠ it → s.heap.get? b = some o → h'.get? b = some o) (hn : H it = none) (hL : it ≠ X.env.locals)
    (h1 : it ∈ X.ex ∨ X.s₀.heap.objs.size ≤ it) (h2 : ∀ x c, X.env.cells.lookup x = some c → c ≠ it) (h3 : ∀ p ∈ X.pn ++ pins, p.1 ≠ it) : Inv X pins σ H { s with heap := h', toks := t' } := by
  have nit : ∀ b u, H b = some u → b ≠ it := fun b u e z => by rw [z, hn] at e; cases e
  refine I.step (g' := s.gens) (d' := s.drawn) (ch := [it]) (fun b hb => ?_) (fun b o _ _ hc e _ => k b o (fun z => hc (by simp [z])) e) (fun b o _ _ hc e _ => ⟨o.slots, k b o (fun z => hc (by simp [z])) e⟩) (fun _ _ _ _ n => n)
    (fun b o hc e => ⟨o, k b o (fun z => hc (by simp [z])) e⟩) (fun _ _ e => e) (fun _ _ _ e => e) (fun b ps e => ⟨#[], by rw [e]; simp⟩) (fun m hm => ?_) (fun b u e => ?_) I.bare
  · have e : b = it := by simpa using hb
    subst e
    exact ⟨h1, hL, h2, h3⟩
  · obtain ⟨o, es, ep, ho, r⟩ := hm
    exact ⟨o, es, ep, k _ o (Ne.symm hL) ho, r⟩
  · refine (I.hok b u e).stay (fun c v hc q => k c v ?_ q) (fun _ q => q) fun _ _ q => q
    rcases hc with z | z
    · rw [z]; exact nit b u e
    · exact nit c _ z
theorem Inv.tok (I : Inv X pins σ H s) (t : Nat) : Inv X pins σ H { s with toks := t } := I.un (h' := s.heap) (t' := t) Un.refl I.hok
/-- all objects kept -/
theorem Inv.kept {t' : Nat} (I : Inv X pins σ H s) (k : ∀ b u, s.heap.get? b = some u → h'.get? b = some u) : Inv X pins σ H { s with heap := h', toks := t' } := I.un (Un.kept k) (I.hok.kept k)
/-- a new object laid and tracked -/
theorem Inv.laid {a : Addr} {o : HO} {t' : Nat} (I : Inv X pins σ H s) (k : ∀ b u, s.heap.get? b = some u → h'.get? b = some u) (hp : s.heap.objs.size ≤ a) (new : ObjOk X.prog X.w (upd H a o) h' a o) :
    Inv X pins σ (upd H a o) { s with heap := h', toks := t' } := I.un (Un.laid k hp (I.hok.fresh hp)) (I.hok.laid k hp new)
/-- an object written -/
theorem Inv.write {x e : Addr} {o : HO} {t' : Nat} (I : Inv X pins σ H s) (mu : Mut (H x)) (he : e = x ∨ H e = some (.own x)) (k : ∀ b u, b ≠ e → s.heap.get? b = some u → h'.get? b = some u) (heo : ∃ u, h'.get? e = some u)
    (new : ObjOk X.prog X.w (upd H x o) h' x o) : Inv X pins σ (upd H x o) { s with heap := h', toks := t' } := I.un (Un.write mu he k heo) (I.hok.write mu he k heo new)
/-- forgetting slots, pins -/
theorem Inv.weak {σ' : List (Option V)} (I : Inv X pins σ H s) (hl : σ'.length = σ.length) (w : ∀ (i : Nat) v, σ'[i]? = some (some v) → σ[i]? = some (some v)) : Inv X pins σ' H s :=
  ⟨I.ok, I.os, I.bare, I.base, let ⟨m, hn, hl'⟩ := I.loc; ⟨m, hn, fun i x v e1 e2 e3 => hl' i x v e1 (w i v e2) e3⟩, I.cell, I.free, I.freeC, I.pin, I.hok, hl.trans I.len⟩
theorem Inv.pins_of {pins' : List (Addr × Obj)} (I : Inv X pins σ H s) (h : ∀ p ∈ pins', s.heap.get? p.1 = some p.2 ∧ H p.1 = none ∧ p.1 ≠ X.env.locals ∧ p.1 ∉ X.fs ∧ ∀ v, p.2.data ≠ .cell v) : Inv X pins' σ H s :=
  ⟨I.ok, I.os, I.bare, I.base, I.loc, I.cell, I.free, I.freeC, fun p hp => (List.mem_append.mp hp).elim (fun z => I.pin p (List.mem_append_left _ z)) (h p), I.hok, I.len⟩

theorem nodup_ix {N : List Str} (hN : N.Nodup) {i j : Nat} {x : Str} (a : N[i]? = some x) (b : N[j]? = some x) : i = j := by
  obtain ⟨h1, e1⟩ := List.getElem?_eq_some_iff.mp a
  obtain ⟨h2, e2⟩ := List.getElem?_eq_some_iff.mp b
  exact (List.getElem_inj hN).mp (e1.trans e2.symm)

/-- a name is stored; what changed -/
theorem store_ok2 {M : Model} {A : Around} {E : Value → Shared → Prop} {i : Nat} {x : Str} {v : V} {u : Value} {Q : Unit → Shared → Prop} (I : Inv X pins σ H s) (hN : X.N.Nodup) (hi : X.N[i]? = some x) (hx : Loc X.env.scope x) (r : RelV v u)
    (h : ∀ s', Inv X pins (σ.set i (some v)) H s' → (∃ a, Heap.SameBut a s.heap s'.heap ∧ (a = X.env.locals ∨ X.env.cells.lookup x = some a)) → Q () s') (hf : X.fn x = true ∨ X.env.scope.names.lookup x = some .local := by first | exact .inl rfl | exact .inr rfl | assumption) : wpAny M A (storeName X.env x u) Q E s := by
  obtain ⟨m, hn, hl⟩ := id I.loc
  have hcls : (X.env.scope.kind == .class || (X.env.scope.kind == .module && X.env.locals != X.env.globals)) = false := by rw [I.ok.kind]; rfl
  have hiσ : i < σ.length := by rw [I.len]; exact (List.getElem?_eq_some_iff.mp hi).1
  have cne := I.cne
  have tracked : ∀ {a : Addr} {h' : Heap}, (∃ o, s.heap.get? a = some o ∧ H a = none) → Heap.SameBut a s.heap h' → HOk X.prog X.w H h' := fun {a h'} ha hs b ob e => by
    obtain ⟨_, _, hfree⟩ := ha
    refine (I.hok b ob e).stay (fun c w' hc q => (hs.2 c ?_).trans q) (fun _ q => q) fun _ _ q => q
    rintro rfl
    rcases hc with rfl | hc
    · rw [hfree] at e; cases e
    · rw [hfree] at hc; cases hc
  rcases hx with hk | hk
  · refine wpAny_storeName_local hk hn (fun h' hn' hs => ?_) hcls
    obtain ⟨oL, _, _, hoL, _⟩ := id hn
    refine h _ ⟨I.ok, I.os, I.bare, ⟨fun b o e n hb hx => ?_, fun b o e n hb hx => ?_, I.base.free, fun b o e hx => ?_, I.base.tups, I.base.frzs, I.base.tbls⟩, ⟨_, hn', fun j y v' e1 e2 e3 => ?_⟩, fun y c e => ?_, I.free, I.freeC, fun p hp => ?_, tracked ⟨oL, hoL, I.free⟩ hs, by simpa using I.len⟩ ⟨_, hs, .inl rfl⟩
    · exact (hs.2 b (Nat.ne_of_lt (Nat.lt_of_lt_of_le (Heap.lt_size e) I.ok.above))).trans (I.base.keep b o e n hb hx)
    · obtain ⟨sl, e1⟩ := I.base.slot b o e n hb hx
      exact ⟨sl, (hs.2 b (Nat.ne_of_lt (Nat.lt_of_lt_of_le (Heap.lt_size e) I.ok.above))).trans e1⟩
    · obtain ⟨o', e1⟩ := I.base.there b o e hx
      exact ⟨o', (hs.2 b (Nat.ne_of_lt (Nat.lt_of_lt_of_le (Heap.lt_size e) I.ok.above))).trans e1⟩
    · by_cases hj : j = i
      · subst hj
        rw [hi] at e1; cases e1
        rw [List.getElem?_set_self hiσ] at e2
        cases e2
        exact ⟨u, r, .inl ⟨hk, by simp⟩⟩
      · rw [List.getElem?_set_ne (Ne.symm hj)] at e2
        obtain ⟨u', r', q⟩ := hl j y v' e1 e2 e3
        refine ⟨u', r', ?_⟩
        rcases q with ⟨k, e⟩ | ⟨k, c, e, z⟩
        · refine .inl ⟨k, ?_⟩
          have : y ≠ x := fun e => hj (nodup_ix hN e1 (e ▸ hi))
          simp [this, e]
        · exact .inr ⟨k, c, e, z.sameBut hs (cne y c e)⟩
    · obtain ⟨w', z⟩ := I.cell y c e
      exact ⟨w', z.sameBut hs (cne y c e)⟩
    · obtain ⟨e, n, ne, nf, d⟩ := I.pin p hp
      exact ⟨(hs.2 p.1 ne).trans e, n, ne, nf, d⟩
  · have hfn : X.fn x = true := by
      rcases hf with z | z
      · exact z
      · rw [z] at hk; cases hk
    obtain ⟨c, hc⟩ := I.ok.has x (.inl hk)
    obtain ⟨w', z⟩ := I.cell x c hc
    refine wpAny_storeName_cell I.ok.kind hk hc z (fun h' hc' hs => ?_)
    obtain ⟨oc, hoc, hocd⟩ := id z
    refine h { s with heap := h' } ⟨I.ok, I.os, I.bare, ⟨fun b o e n hb hx => ?_, fun b o e n hb hx => ?_, I.base.free, fun b o e hx => ?_, I.base.tups, I.base.frzs, I.base.tbls⟩, ⟨m, hn.sameBut hs (Ne.symm (cne x c hc)), fun j y v' e1 e2 e3 => ?_⟩, fun y c' e => ?_, I.free, I.freeC, fun p hp => ?_, tracked ⟨oc, hoc, I.freeC x c hc⟩ hs, by simpa using I.len⟩ ⟨c, hs, .inr hc⟩
    · exact (hs.2 b (Nat.ne_of_lt (Nat.lt_of_lt_of_le (Heap.lt_size e) (I.ok.cab x c hfn hc)))).trans (I.base.keep b o e n hb hx)
    · obtain ⟨sl, e1⟩ := I.base.slot b o e n hb hx
      exact ⟨sl, (hs.2 b (Nat.ne_of_lt (Nat.lt_of_lt_of_le (Heap.lt_size e) (I.ok.cab x c hfn hc)))).trans e1⟩
    · obtain ⟨o', e1⟩ := I.base.there b o e hx
      exact ⟨o', (hs.2 b (Nat.ne_of_lt (Nat.lt_of_lt_of_le (Heap.lt_size e) (I.ok.cab x c hfn hc)))).trans e1⟩
    · by_cases hj : j = i
      · subst hj
        rw [hi] at e1; cases e1
        rw [List.getElem?_set_self hiσ] at e2
        cases e2
        exact ⟨u, r, .inr ⟨.inl hk, c, hc, hc'⟩⟩
      · rw [List.getElem?_set_ne (Ne.symm hj)] at e2
        obtain ⟨u', r', q⟩ := hl j y v' e1 e2 e3
        refine ⟨u', r', ?_⟩
        rcases q with q | ⟨k, c', e, z'⟩
        · exact .inl q
        · refine .inr ⟨k, c', e, z'.sameBut hs ?_⟩
          rintro rfl
          exact hj (nodup_ix hN e1 (I.ok.inj _ _ _ e hc ▸ hi))
    · by_cases hcc : c' = c
      · subst hcc; exact ⟨_, hc'⟩
      · obtain ⟨w2, z2⟩ := I.cell y c' e
        exact ⟨w2, z2.sameBut hs hcc⟩
    · obtain ⟨e, n, ne, nf, d⟩ := I.pin p hp
      refine ⟨(hs.2 p.1 ?_).trans e, n, ne, nf, d⟩
      intro q
      rw [q, hoc] at e
      have q' : oc = p.2 := Option.some.inj e
      exact d w' (by rw [← q']; exact hocd)
theorem store_ok {M : Model} {A : Around} {E : Value → Shared → Prop} {i : Nat} {x : Str} {v : V} {u : Value} {Q : Unit → Shared → Prop} (I : Inv X pins σ H s) (hN : X.N.Nodup) (hi : X.N[i]? = some x) (hx : Loc X.env.scope x) (r : RelV v u)
    (h : ∀ s', Inv X pins (σ.set i (some v)) H s' → Q () s') (hf : X.fn x = true ∨ X.env.scope.names.lookup x = some .local := by first | exact .inl rfl | exact .inr rfl | assumption) : wpAny M A (storeName X.env x u) Q E s :=
  store_ok2 I hN hi hx r (fun s' I' _ => h s' I') hf
/-- behind a call or a block, the state as it is -/
theorem Inv.call' {s' : Shared} {ch : List Addr} (I : Inv X pins σ H s) (ho : s'.os = s.os) (u : Un (frs X.stack) ch H H' s.heap s'.heap) (hok : HOk X.prog X.w H' s'.heap) (hg : AllBare s'.gens)
    (hch : ∀ b ∈ ch, (b ∈ X.ex ∨ X.s₀.heap.objs.size ≤ b) ∧ b ≠ X.env.locals ∧ (∀ x c, X.env.cells.lookup x = some c → c ≠ b) ∧ ∀ p ∈ X.pn ++ pins, p.1 ≠ b) : Inv X pins σ H' s' := by
  obtain ⟨h', g', d', t', o'⟩ := s'
  have e : o' = s.os := ho
  subst e
  exact I.call (g' := g') (t' := t') (d' := d') u hok hg hch
end

/-! ### the judgements -/
/-- an exception: its class, its own dict's address (where it has one), the abstract heap behind it -/
abbrev XK := Value → Option Addr → Hp → Prop
abbrev St := List (Option V)
abbrev VK := V → Hp → Prop
/-- an expression's reading; a test's; an argument list's -/
abbrev TE := St → Hp → VK → Prop
abbrev TT := St → Hp → (Bool → Hp → Prop) → Prop
abbrev TA := St → Hp → (List V → Hp → Prop) → Prop
/-- what is wanted behind a statement -/
structure Ends where
  nx : St → Hp → Prop
  rt : VK
  bk : St → Hp → Prop := fun _ _ => False
  ct : St → Hp → Prop := fun _ _ => False
abbrev TS := Ends → St → Hp → Prop

def EP (X : Cx) (pins : List (Addr × Obj)) (σ : St) (Q : VK) (u : Value) (s' : Shared) : Prop := ∃ v H', Inv X pins σ H' s' ∧ RelV v u ∧ Q v H'
def TP (X : Cx) (pins : List (Addr × Obj)) (σ : St) (Q : Bool → Hp → Prop) (b : Bool) (s' : Shared) : Prop := ∃ H', Inv X pins σ H' s' ∧ Q b H'
def AP (X : Cx) (pins : List (Addr × Obj)) (σ : St) (Q : List V → Hp → Prop) (us : List Value) (s' : Shared) : Prop := ∃ vs H', Inv X pins σ H' s' ∧ Vals vs us ∧ Q vs H'
def SP (X : Cx) (pins : List (Addr × Obj)) (D : Ends) (f : Flow) (s' : Shared) : Prop :=
  match f with
  | .next => ∃ σ' H', Inv X pins σ' H' s' ∧ D.nx σ' H'
  | .brk => ∃ σ' H', Inv X pins σ' H' s' ∧ D.bk σ' H'
  | .cont => ∃ σ' H', Inv X pins σ' H' s' ∧ D.ct σ' H'
  | .ret u => ∃ v σ' H', Inv X pins σ' H' s' ∧ RelV v u ∧ D.rt v H'

def PE (X : Cx) (e : Expr) (t : TE) : Prop :=
  ∀ (pins : List (Addr × Obj)) (s : Shared) (σ : St) (H : Hp) (Q : VK), Inv X pins σ H s → t σ H Q → wpAny (model X.prog X.w) X.A (eval e X.env) (EP X pins σ Q) X.xe s
def PT (X : Cx) (e : Expr) (t : TT) : Prop :=
  ∀ (pins : List (Addr × Obj)) (s : Shared) (σ : St) (H : Hp) (Q : Bool → Hp → Prop), Inv X pins σ H s → t σ H Q → wpAny (model X.prog X.w) X.A (isTrue e X.env (eval e X.env)) (TP X pins σ Q) X.xe s
/-- a test whatever its 'whole' is (and, or) -/
def PW (X : Cx) (e : Expr) (t : TT) : Prop :=
  ∀ (whole : Sem Value) (pins : List (Addr × Obj)) (s : Shared) (σ : St) (H : Hp) (Q : Bool → Hp → Prop), Inv X pins σ H s → t σ H Q → wpAny (model X.prog X.w) X.A (isTrue e X.env whole) (TP X pins σ Q) X.xe s
theorem PW.pt {X : Cx} {e : Expr} {t : TT} (h : PW X e t) : PT X e t := h _
/-- an argument list (no star), from the left -/
def PA (X : Cx) (es : List Expr) (t : TA) : Prop :=
  ∀ (pos : Pos) (pins : List (Addr × Obj)) (s : Shared) (σ : St) (H : Hp) (Q : List V → Hp → Prop), Inv X pins σ H s → t σ H Q → wpAny (model X.prog X.w) X.A (spliced (backTo pos (starEach es X.env))) (AP X pins σ Q) X.xe s
def PS (X : Cx) (st : Stmt) (t : TS) : Prop :=
  ∀ (pins : List (Addr × Obj)) (s : Shared) (σ : St) (H : Hp) (D : Ends), Inv X pins σ H s → t D σ H → wpAny (model X.prog X.w) X.A (exec st X.env) (SP X pins D) X.xe s
def PSs (X : Cx) (st : List Stmt) (t : TS) : Prop :=
  ∀ (pins : List (Addr × Obj)) (s : Shared) (σ : St) (H : Hp) (D : Ends), Inv X pins σ H s → t D σ H → wpAny (model X.prog X.w) X.A (execs st X.env) (SP X pins D) X.xe s
/-- weaken the end -/
theorem thn {α : Type} {t : Sem α} {Q Q' : α → Shared → Prop} {M : Model} {A : Around} {E : Value → Shared → Prop} {s : Shared} (h : wpAny M A t Q E s) (hQ : ∀ a s, Q a s → Q' a s) : wpAny M A t Q' E s := wpAny_mono h hQ fun _ _ x => x
end L2

namespace L2
open PySem PySem.Spec PyProof.Rows
section
variable {X : Cx}

/-- two expressions in a row -/
theorem bin {a b : Expr} {ta tb : TE} (ha : PE X a ta) (hb : PE X b tb) {pins : List (Addr × Obj)} {s : Shared} {σ : St} {H : Hp} {R : V → V → Hp → Prop} (I : Inv X pins σ H s) (h : ta σ H fun x H1 => tb σ H1 fun y H2 => R x y H2)
    {α : Type} {Q : α → Shared → Prop} {f : Value → Value → Sem α}
    (hf : ∀ v u s2 x y H2, Inv X pins σ H2 s2 → RelV x v → RelV y u → R x y H2 → wpAny (model X.prog X.w) X.A (f v u) Q X.xe s2) :
    wpAny (model X.prog X.w) X.A (eval a X.env) (fun v s₁ => wpAny (model X.prog X.w) X.A (eval b X.env) (fun u s₂ => wpAny (model X.prog X.w) X.A (f v u) Q X.xe s₂) X.xe s₁) X.xe s := by
  refine thn (ha pins s σ H _ I h) fun v s1 ⟨x, H1, I1, r1, q1⟩ => ?_
  refine thn (hb pins s1 σ H1 _ I1 q1) fun u s2 ⟨y, H2, I2, r2, q2⟩ => ?_
  exact hf v u s2 x y H2 I2 r1 r2 q2

/-! ### names and constants -/
def tVar (i : Nat) : TE := fun σ H Q => ∃ v, σ[i]? = some (some v) ∧ Q v H
def tC (v : V) : TE := fun _ H Q => Q v H
theorem pe_var {i : Nat} {x : Str} {pos : Pos} (hN : X.N[i]? = some x) (hv : Vis X.env.scope x) (hd : (x == ("__debug__" : Str)) = false := by decide) (hcd : (x == ("__classdict__" : Str)) = false := by decide) : PE X (.Name x pos) (tVar i) := by
  intro pins s σ H Q I h
  obtain ⟨v, e, h⟩ := h
  obtain ⟨m, hn, hl⟩ := I.loc
  obtain ⟨u, r, l⟩ := hl i x v hN e hv
  have fin : EP X pins σ Q u s := ⟨v, H, I, r, h⟩
  rcases l with ⟨hk, hm⟩ | ⟨hk, c, hc, hcell⟩
  · exact wpAny_Name (wpAny_loadName_local I.ok.kind hk hn hm fin) hd
  · rcases hk with hk | hk
    · exact wpAny_Name (wpAny_loadName_cell I.ok.kind hk hc hcell fin) hd
    · exact wpAny_Name (wpAny_loadName_free I.ok.kind hk hc hcell fin hcd) hd
theorem pe_int {i j pos} : PE X (.Constant (.int i) j pos) (tC (.int i)) := fun _ _ _ H _ I h => wpAny_Constant_int ⟨.int i, H, I.tok _, ⟨_, rfl⟩, h⟩
theorem pe_bl {b j pos} : PE X (.Constant (.bool b) j pos) (tC (.bl b)) := fun _ _ _ H _ I h => Constant_bool ⟨.bl b, H, I, rfl, h⟩
theorem pe_non {j pos} : PE X (.Constant .none j pos) (tC .non) := fun _ _ _ H _ I h => Constant_none ⟨.non, H, I, rfl, h⟩
theorem pe_str {x j pos} : PE X (.Constant (.str x) j pos) (tC (.str x)) := fun _ _ _ H _ I h => Calls.Constant_str ⟨.str x, H, I.tok _, ⟨_, rfl⟩, h⟩

/-- a global name of the def -/
def Gl (X : Cx) (x : Str) : Prop := X.env.kindOf x = some .globalImplicit
theorem ld_glob {E : Value → Shared → Prop} {pins : List (Addr × Obj)} {s : Shared} {σ : St} {H : Hp} {x : Str} {u : Value} {pos : Pos} {Q : Value → Shared → Prop} (I : Inv X pins σ H s) (hg : Gl X x) (hm : X.mg x = some u) (h : Q u s)
    (hd : (x == ("__debug__" : Str)) = false := by decide) : wpAny (model X.prog X.w) X.A (eval (.Name x pos) X.env) Q E s :=
  Calls.Name_function_global I.ok.kind hg (Calls.loadGlobal_global (by rw [I.ok.glob]; exact I.mod.glob.keeps I.bk) hm h) hd
theorem ld_blt {E : Value → Shared → Prop} {pins : List (Addr × Obj)} {s : Shared} {σ : St} {H : Hp} {x : Str} {u : Value} {pos : Pos} {Q : Value → Shared → Prop} (I : Inv X pins σ H s) (hg : Gl X x) (hm : X.mg x = none) (hv : bootBuiltins x = some u) (h : Q u s)
    (hn : x ≠ "__name__" := by decide) (hd : (x == ("__debug__" : Str)) = false := by decide) : wpAny (model X.prog X.w) X.A (eval (.Name x pos) X.env) Q E s := by
  obtain ⟨mb, h1, h2⟩ := I.mod.blt
  exact Calls.Name_function_global I.ok.kind hg (Calls.loadGlobal_builtin (by rw [I.ok.glob]; exact I.mod.glob.keeps I.bk) hm (by rw [I.ok.blt]; exact h1.keeps I.bk) ((h2 x hn).trans hv) h) hd
/-- a module's constant, a class, a function, as a value -/
theorem pe_glob {x : Str} {v : V} {u : Value} {pos : Pos} (hg : Gl X x) (hm : X.mg x = some u) (r : RelV v u) (hd : (x == ("__debug__" : Str)) = false := by decide) : PE X (.Name x pos) (tC v) :=
  fun _ _ _ H _ I h => ld_glob I hg hm ⟨v, H, I, r, h⟩ hd
theorem pe_bltn {x : Str} {v : V} {u : Value} {pos : Pos} (hg : Gl X x) (hm : X.mg x = none) (hv : bootBuiltins x = some u) (r : RelV v u) (hn : x ≠ "__name__" := by decide) (hd : (x == ("__debug__" : Str)) = false := by decide) : PE X (.Name x pos) (tC v) :=
  fun _ _ _ H _ I h => ld_blt I hg hm hv ⟨v, H, I, r, h⟩ hn hd

/-! ### arithmetic -/
/-- two ints -/
def t2I (ta tb : TE) (k : Int → Int → Hp → Prop) : St → Hp → Prop := fun σ H => ta σ H fun x H1 => tb σ H1 fun y H2 => ∃ i j, x = .int i ∧ y = .int j ∧ k i j H2
def tAdd (ta tb : TE) : TE := fun σ H Q => t2I ta tb (fun i j H2 => Q (.int (i + j)) H2) σ H
def tSub (ta tb : TE) : TE := fun σ H Q => t2I ta tb (fun i j H2 => Q (.int (i - j)) H2) σ H
/-- the left factor below 2^64 -/
def tMul (ta tb : TE) : TE := fun σ H Q => t2I ta tb (fun i j H2 => (-(2 ^ 64) < i ∧ i < 2 ^ 64) ∧ Q (.int (i * j)) H2) σ H
variable {a b : Expr} {ta tb : TE} {pos : Pos}
theorem pe_add (ha : PE X a ta) (hb : PE X b tb) : PE X (.BinOp a .Add b pos) (tAdd ta tb) := by
  intro pins s σ H Q I h
  refine wpAny_BinOp (bin ha hb I h fun v u s2 x y H2 I2 rx ry q => ?_)
  obtain ⟨i, j, rfl, rfl, q⟩ := q
  obtain ⟨t, rfl⟩ := rx
  obtain ⟨t', rfl⟩ := ry
  exact add_int ⟨.int _, H2, I2.tok _, ⟨_, rfl⟩, q⟩
theorem pe_sub (ha : PE X a ta) (hb : PE X b tb) : PE X (.BinOp a .Sub b pos) (tSub ta tb) := by
  intro pins s σ H Q I h
  refine wpAny_BinOp (bin ha hb I h fun v u s2 x y H2 I2 rx ry q => ?_)
  obtain ⟨i, j, rfl, rfl, q⟩ := q
  obtain ⟨t, rfl⟩ := rx
  obtain ⟨t', rfl⟩ := ry
  exact sub_int ⟨.int _, H2, I2.tok _, ⟨_, rfl⟩, q⟩
theorem pe_mul (ha : PE X a ta) (hb : PE X b tb) : PE X (.BinOp a .Mult b pos) (tMul ta tb) := by
  intro pins s σ H Q I h
  refine wpAny_BinOp (bin ha hb I h fun v u s2 x y H2 I2 rx ry q => ?_)
  obtain ⟨i, j, rfl, rfl, ⟨q1, q2⟩, q⟩ := q
  obtain ⟨t, rfl⟩ := rx
  obtain ⟨t', rfl⟩ := ry
  exact mul_int ⟨.int _, H2, I2.tok _, ⟨_, rfl⟩, q⟩ (.of_left (intBits_le_64 q1 q2))

/-! ### comparisons -/
def PC (X : Cx) (op : CmpOp) (a b : Expr) (t : TE) : Prop :=
  ∀ (pins : List (Addr × Obj)) (s : Shared) (σ : St) (H : Hp) (Q : VK), Inv X pins σ H s → t σ H Q →
    wpAny (model X.prog X.w) X.A (eval a X.env) (fun v s₁ => wpAny (model X.prog X.w) X.A (eval b X.env) (fun u s₂ => wpAny (model X.prog X.w) X.A (compareOp op v u) (EP X pins σ Q) X.xe s₂) X.xe s₁) X.xe s
theorem nobehind (b : Expr) {op : CmpOp} (h : op ≠ .In) (h2 : op ≠ .NotIn) : behindInMarks op b = false := by
  have e1 : (op == CmpOp.In) = false := by cases op <;> first | rfl | exact absurd rfl h
  have e2 : (op == CmpOp.NotIn) = false := by cases op <;> first | rfl | exact absurd rfl h2
  cases b <;> simp [behindInMarks, e1, e2]
def tCmp (p : Int → Int → Bool) (ta tb : TE) : TE := fun σ H Q => t2I ta tb (fun i j H2 => Q (.bl (p i j)) H2) σ H
abbrev tLt : TE → TE → TE := tCmp fun i j => decide (i < j)
abbrev tLe : TE → TE → TE := tCmp fun i j => decide (i ≤ j)
abbrev tGt : TE → TE → TE := tCmp fun i j => decide (j < i)
abbrev tGe : TE → TE → TE := tCmp fun i j => decide (j ≤ i)
abbrev tEqI : TE → TE → TE := tCmp fun i j => decide (i = j)
abbrev tNeI : TE → TE → TE := tCmp fun i j => !decide (i = j)
/-- a comparison of two ints, by its rule -/
theorem pc_int {op : CmpOp} {p : Int → Int → Bool} (ha : PE X a ta) (hb : PE X b tb)
    (rule : ∀ (i j : Int) (t u : Tok) (Q : Value → Shared → Prop) (s : Shared), Q (.bool (p i j)) s → wpAny (model X.prog X.w) X.A (compareOp op (.int i t) (.int j u)) Q X.xe s) : PC X op a b (tCmp p ta tb) := by
  intro pins s σ H Q I h
  refine bin ha hb I h fun v u s2 x y H2 I2 rx ry q => ?_
  obtain ⟨i, j, rfl, rfl, q⟩ := q
  obtain ⟨t, rfl⟩ := rx
  obtain ⟨t', rfl⟩ := ry
  exact rule i j t t' _ s2 ⟨.bl _, H2, I2, rfl, q⟩
theorem pc_lt (ha : PE X a ta) (hb : PE X b tb) : PC X .Lt a b (tLt ta tb) := pc_int ha hb fun _ _ _ _ _ _ h => lt_int h
theorem pc_le (ha : PE X a ta) (hb : PE X b tb) : PC X .LtE a b (tLe ta tb) := pc_int ha hb fun _ _ _ _ _ _ h => le_int h
theorem pc_gt (ha : PE X a ta) (hb : PE X b tb) : PC X .Gt a b (tGt ta tb) := pc_int ha hb fun _ _ _ _ _ _ h => gt_int h
theorem pc_ge (ha : PE X a ta) (hb : PE X b tb) : PC X .GtE a b (tGe ta tb) := pc_int ha hb fun _ _ _ _ _ _ h => ge_int h
theorem pc_eqI (ha : PE X a ta) (hb : PE X b tb) : PC X .Eq a b (tEqI ta tb) := pc_int ha hb fun _ _ _ _ _ _ h => eq_int (by rw [Bool.beq_eq_decide_eq]; exact h)
theorem pc_neI (ha : PE X a ta) (hb : PE X b tb) : PC X .NotEq a b (tNeI ta tb) := pc_int ha hb fun _ _ _ _ _ _ h => ne_int (by rw [bne, Bool.beq_eq_decide_eq]; exact h)
/-- is None -/
def tIsN (ta : TE) : TE := fun σ H Q => ta σ H fun x H1 => Q (.bl (decide (x = .non))) H1
def tNotN (ta : TE) : TE := fun σ H Q => ta σ H fun x H1 => Q (.bl (!decide (x = .non))) H1
theorem RelV.none_iff {x : V} {v : Value} (r : RelV x v) : (v == Value.none) = decide (x = .non) := by
  cases x with
  | non => cases r; rfl
  | bl _ => cases r; rfl
  | int _ => obtain ⟨t, rfl⟩ := r; rfl
  | str _ => obtain ⟨t, rfl⟩ := r; rfl
  | byt _ => obtain ⟨t, rfl⟩ := r; rfl
  | flt _ => obtain ⟨t, rfl⟩ := r; rfl
  | ref _ => cases r; rfl
  | ty _ => cases r; rfl
theorem pc_isN {j pos'} (ha : PE X a ta) : PC X .Is a (.Constant .none j pos') (tIsN ta) := by
  intro pins s σ H Q I h
  refine thn (ha pins s σ H _ I h) fun v s1 ⟨x, H1, I1, r1, q1⟩ => ?_
  exact Constant_none (is_none_gen ⟨.bl _, H1, I1, by rw [r1.none_iff]; rfl, q1⟩)
theorem pc_notN {j pos'} (ha : PE X a ta) : PC X .IsNot a (.Constant .none j pos') (tNotN ta) := by
  intro pins s σ H Q I h
  refine thn (ha pins s σ H _ I h) fun v s1 ⟨x, H1, I1, r1, q1⟩ => ?_
  exact Constant_none (isnot_none_gen ⟨.bl _, H1, I1, by rw [r1.none_iff]; rfl, q1⟩)
/-- a comparison as a value, as a test -/
def tB (t : TE) : TT := fun σ H Q => t σ H fun x H1 => ∃ c, x = .bl c ∧ Q c H1
theorem pe_cmp {op : CmpOp} {t : TE} (h : PC X op a b t) (h1 : behindInMarks op b = false := by first | exact nobehind _ (by decide) (by decide) | rfl) : PE X (.Compare a [op] [b] pos) t := fun pins s σ H Q I hw => wpAny_Compare1 (h pins s σ H Q I hw) h1
theorem pt_cmp {op : CmpOp} {t : TE} (h : PC X op a b t) (h1 : behindInMarks op b = false := by first | exact nobehind _ (by decide) (by decide) | rfl) : PT X (.Compare a [op] [b] pos) (tB t) := by
  intro pins s σ H Q I hw
  refine wpAny_isTrue_Compare1 (thn (h pins s σ H _ I hw) fun v s1 h1 => thn h1 fun u s2 h2 => thn h2 fun c s3 ⟨x, H1, I1, r1, q1⟩ => ?_) h1
  obtain ⟨d, rfl, q⟩ := q1
  cases r1
  exact wpAny_truthy_bool ⟨H1, I1, q⟩
/-- an expression whose value is a bool, as a test -/
theorem pt_val {e : Expr} {t : TE} (h : PE X e t) (he : ∀ whole, isTrue e X.env whole = (do let v ← whole; standAt e.pos; holding [v] (truthy v)) := by intro _; rfl) : PT X e (tB t) := by
  intro pins s σ H Q I hw
  refine isTrue_plain (thn (h pins s σ H _ I hw) fun v s1 ⟨x, H1, I1, r1, q1⟩ => ?_) (he _)
  obtain ⟨d, rfl, q⟩ := q1
  cases r1
  exact wpAny_truthy_bool ⟨H1, I1, q⟩

/-! ### and, or, not -/
variable {tA tB' : TT} {rest : List Expr}
def tAnd (t u : TT) : TT := fun σ H Q => t σ H fun c H1 => if c = true then u σ H1 Q else Q false H1
def tOr (t u : TT) : TT := fun σ H Q => t σ H fun c H1 => if c = true then Q true H1 else u σ H1 Q
def tNot (t : TT) : TT := fun σ H Q => t σ H fun c H1 => Q (!c) H1
theorem pw_and1 (ha : PT X a tA) : PW X (.BoolOp .And [a] pos) tA := by
  intro wh pins s σ H Q I h
  refine isTrue_and (thn (ha pins s σ H Q I h) fun c s1 e => ?_)
  cases c with
  | true => exact isTrue_and_nil e
  | false => exact e
theorem pw_or1 (ha : PT X a tA) : PW X (.BoolOp .Or [a] pos) tA := by
  intro wh pins s σ H Q I h
  refine isTrue_or (thn (ha pins s σ H Q I h) fun c s1 e => ?_)
  cases c with
  | false => exact isTrue_or_nil e
  | true => exact e
theorem pw_and (ha : PT X a tA) (hb : PW X (.BoolOp .And (b :: rest) pos) tB') : PW X (.BoolOp .And (a :: b :: rest) pos) (tAnd tA tB') := by
  intro wh pins s σ H Q I h
  refine isTrue_and (thn (ha pins s σ H _ I h) fun c s1 ⟨H1, I1, q1⟩ => ?_)
  cases c with
  | true => exact hb wh pins s1 σ H1 Q I1 q1
  | false => exact ⟨H1, I1, q1⟩
theorem pw_or (ha : PT X a tA) (hb : PW X (.BoolOp .Or (b :: rest) pos) tB') : PW X (.BoolOp .Or (a :: b :: rest) pos) (tOr tA tB') := by
  intro wh pins s σ H Q I h
  refine isTrue_or (thn (ha pins s σ H _ I h) fun c s1 ⟨H1, I1, q1⟩ => ?_)
  cases c with
  | true => exact ⟨H1, I1, q1⟩
  | false => exact hb wh pins s1 σ H1 Q I1 q1
theorem pt_not (ha : PT X a tA) : PT X (.UnaryOp .Not a pos) (tNot tA) := by
  intro pins s σ H Q I h
  exact isTrue_not (ha pins s σ H (fun c H1 => Q (!c) H1) I h)
/-- .. as values (bools) -/
def tAndV (ta tb : TE) : TE := fun σ H Q => ta σ H fun x H1 => ∃ c, x = .bl c ∧ if c = true then tb σ H1 Q else Q (.bl false) H1
def tOrV (ta tb : TE) : TE := fun σ H Q => ta σ H fun x H1 => ∃ c, x = .bl c ∧ if c = true then Q (.bl true) H1 else tb σ H1 Q
def tNotV (ta : TE) : TE := fun σ H Q => ta σ H fun x H1 => ∃ c, x = .bl c ∧ Q (.bl (!c)) H1
theorem pe_one {op} {t : TE} (h : PE X a t) : PE X (.BoolOp op [a] pos) t := fun pins s σ H Q I hw => BoolOp_one (h pins s σ H Q I hw)
theorem pe_and (ha : PE X a ta) (hb : PE X (.BoolOp .And (b :: rest) pos) tb) : PE X (.BoolOp .And (a :: b :: rest) pos) (tAndV ta tb) := by
  intro pins s σ H Q I h
  refine BoolOp_and (thn (ha pins s σ H _ I h) fun v s1 ⟨x, H1, I1, r1, q1⟩ => ?_)
  obtain ⟨c, rfl, q1⟩ := q1
  cases r1
  refine wpAny_truthy_bool ?_
  cases c with
  | true => exact hb pins s1 σ H1 Q I1 q1
  | false => exact ⟨.bl false, H1, I1, rfl, q1⟩
theorem pe_or (ha : PE X a ta) (hb : PE X (.BoolOp .Or (b :: rest) pos) tb) : PE X (.BoolOp .Or (a :: b :: rest) pos) (tOrV ta tb) := by
  intro pins s σ H Q I h
  refine BoolOp_or (thn (ha pins s σ H _ I h) fun v s1 ⟨x, H1, I1, r1, q1⟩ => ?_)
  obtain ⟨c, rfl, q1⟩ := q1
  cases r1
  refine wpAny_truthy_bool ?_
  cases c with
  | false => exact hb pins s1 σ H1 Q I1 q1
  | true => exact ⟨.bl true, H1, I1, rfl, q1⟩
theorem pe_not (ha : PE X a ta) : PE X (.UnaryOp .Not a pos) (tNotV ta) := by
  intro pins s σ H Q I h
  refine UnaryOp_ (thn (ha pins s σ H _ I h) fun v s1 ⟨x, H1, I1, r1, q1⟩ => ?_)
  obtain ⟨c, rfl, q1⟩ := q1
  cases r1
  exact not_of (wpAny_truthy_bool ⟨.bl (!c), H1, I1, rfl, q1⟩)
/-- a if t else b -/
def tIf (t : TT) (ta tb : TE) : TE := fun σ H Q => t σ H fun c H1 => if c = true then ta σ H1 Q else tb σ H1 Q
theorem pe_ifExp {c : Expr} (hc : PT X c tA) (ha : PE X a ta) (hb : PE X b tb) : PE X (.IfExp c a b pos) (tIf tA ta tb) := by
  intro pins s σ H Q I h
  refine wpAny_IfExp (thn (hc pins s σ H _ I h) fun d s1 ⟨H1, I1, q1⟩ => ?_)
  cases d with
  | true => exact ha pins s1 σ H1 Q I1 q1
  | false => exact hb pins s1 σ H1 Q I1 q1
end
end L2

namespace L2
open PySem PySem.Spec PyProof.Rows

/-! ### a list, a tuple that is read: tracked, frozen, or an object of the module -/
def SqL (K : PySem.W.Frag) (H : Hp) (a : Addr) (xs : List V) : Prop :=
  Rd H a (.lst xs) ∨
    ∃ (o : Obj) (its : Array Value) (n : Nat), K.lookup a = some o ∧ o.cls = .type "list" ∧ o.dict = none ∧ o.data = .seq its n ∧ its.size ≤ sizeLine ∧ Vals xs its.toList
def SqT (K : PySem.W.Frag) (H : Hp) (a : Addr) (xs : List V) : Prop :=
  Rd H a (.tup xs) ∨
    ∃ (o : Obj) (its : Array Value) (n : Nat), K.lookup a = some o ∧ o.cls = .type "tuple" ∧ o.data = .seq its n ∧ its.size ≤ sizeLine ∧ Vals xs its.toList
def absV : Value → Option V
  | .none => some .non
  | .bool b => some (.bl b)
  | .int i _ => some (.int i)
  | .str x _ => some (.str x)
  | .bytes b _ => some (.byt b)
  | .float b _ => some (.flt b)
  | .ref a => some (.ref a)
  | .type n => some (.ty n)
  | _ => none
theorem RelV.abs {x : V} {u : Value} (r : RelV x u) : absV u = some x := by
  cases x with
  | non => cases r; rfl
  | bl _ => cases r; rfl
  | int _ => obtain ⟨t, rfl⟩ := r; rfl
  | str _ => obtain ⟨t, rfl⟩ := r; rfl
  | byt _ => obtain ⟨t, rfl⟩ := r; rfl
  | flt _ => obtain ⟨t, rfl⟩ := r; rfl
  | ref _ => cases r; rfl
  | ty _ => cases r; rfl
theorem RelV.inj {x y : V} {u : Value} (r : RelV x u) (q : RelV y u) : x = y := Option.some.inj (r.abs.symm.trans q.abs)
theorem Vals.inj : ∀ {xs ys : List V} {us : List Value}, Vals xs us → Vals ys us → xs = ys
  | _, _, _, .nil, .nil => rfl
  | _, _, _, .cons r t, .cons r' t' => by rw [r.inj r', Vals.inj t t']
section
variable {X : Cx} {pins : List (Addr × Obj)} {σ : St} {H : Hp} {s : Shared} {a : Addr} {xs ys : List V}
theorem SqL.of {K : PySem.W.Frag} (h : H a = some (.lst xs)) : SqL K H a xs := .inl (.inl h)
theorem SqT.of {K : PySem.W.Frag} (h : H a = some (.tup xs)) : SqT K H a xs := .inl (.inl h)
theorem Inv.list (I : Inv X pins σ H s) (h : SqL X.K H a xs) : ∃ its : List Value, Vals xs its ∧ PlainL s.heap a its.toArray ∧ xs.length ≤ sizeLine := by
  rcases h with h | ⟨o, its, n, hk, hc, hd, hs, hz, r⟩
  · obtain ⟨z, its, n, r, e⟩ := h.ok I.hok
    exact ⟨its, r, ⟨_, n, e, rfl, rfl, rfl⟩, z⟩
  · refine ⟨its.toList, r, ⟨o, n, I.kIn a o hk, hc, hd, by simpa using hs⟩, ?_⟩
    have e := r.length
    simp only [Array.length_toList] at e
    omega
theorem Inv.tuple (I : Inv X pins σ H s) (h : SqT X.K H a xs) : ∃ its : List Value, Vals xs its ∧ IsTup s.heap a its.toArray ∧ xs.length ≤ sizeLine := by
  rcases h with h | ⟨o, its, n, hk, hc, hs, hz, r⟩
  · obtain ⟨z, its, r, p⟩ := h.ok I.hok
    exact ⟨its, r, p, z⟩
  · refine ⟨its.toList, r, ⟨o, I.kIn a o hk, hc, n, by simpa using hs⟩, ?_⟩
    have e := r.length
    simp only [Array.length_toList] at e
    omega
theorem Inv.list_inj (I : Inv X pins σ H s) (h : SqL X.K H a xs) (h' : SqL X.K H a ys) : xs = ys := by
  obtain ⟨its, r, ⟨o, n, e, _, _, d⟩, _⟩ := I.list h
  obtain ⟨its', r', ⟨o', n', e', _, _, d'⟩, _⟩ := I.list h'
  rw [e] at e'; cases e'
  rw [d] at d'
  injection d' with d1 _
  have : its = its' := by simpa using congrArg Array.toList d1
  subst this
  exact r.inj r'
theorem Inv.tuple_inj (I : Inv X pins σ H s) (h : SqT X.K H a xs) (h' : SqT X.K H a ys) : xs = ys := by
  obtain ⟨its, r, ⟨o, e, _, n, d⟩, _⟩ := I.tuple h
  obtain ⟨its', r', ⟨o', e', _, n', d'⟩, _⟩ := I.tuple h'
  rw [e] at e'; cases e'
  rw [d] at d'
  injection d' with d1 _
  have : its = its' := by simpa using congrArg Array.toList d1
  subst this
  exact r.inj r'
end

/-! ### another wish about exceptions -/
abbrev Cx.wish (X : Cx) (E : Value → Shared → Prop) : Cx := { X with xe := E }
/-- no exception leaves -/
abbrev Cx.nox (X : Cx) : Cx := X.wish fun _ _ => False
theorem Cx.Ok.wish {X : Cx} (ok : X.Ok) (E : Value → Shared → Prop) : (X.wish E).Ok :=
  ⟨ok.mod, ok.kind, ok.glob, ok.blt, ok.above, ok.inj, ok.has, ok.cab, ok.hd, ok.frames, ok.stk, ok.exf, ok.bs, ok.bsz, ok.noex, ok.exfs, ok.funs, ok.frf⟩
theorem Cx.Ok.unwish {X : Cx} {E : Value → Shared → Prop} (ok : (X.wish E).Ok) : X.Ok :=
  ⟨ok.mod, ok.kind, ok.glob, ok.blt, ok.above, ok.inj, ok.has, ok.cab, ok.hd, ok.frames, ok.stk, ok.exf, ok.bs, ok.bsz, ok.noex, ok.exfs, ok.funs, ok.frf⟩
section
variable {X : Cx} {pins : List (Addr × Obj)} {σ : St} {H : Hp} {s : Shared} {E : Value → Shared → Prop}
theorem Inv.wish (I : Inv X pins σ H s) (E : Value → Shared → Prop) : Inv (X.wish E) pins σ H s := ⟨I.ok.wish E, I.os, I.bare, I.base, I.loc, I.cell, I.free, I.freeC, I.pin, I.hok, I.len⟩
theorem Inv.unwish (I : Inv (X.wish E) pins σ H s) : Inv X pins σ H s := ⟨I.ok.unwish, I.os, I.bare, I.base, I.loc, I.cell, I.free, I.freeC, I.pin, I.hok, I.len⟩
theorem SP.unwish {D : Ends} {f : Flow} {s' : Shared} (h : SP (X.wish E) pins D f s') : SP X pins D f s' := by
  cases f with
  | next => obtain ⟨σ', H', I, q⟩ := h; exact ⟨σ', H', I.unwish, q⟩
  | brk => obtain ⟨σ', H', I, q⟩ := h; exact ⟨σ', H', I.unwish, q⟩
  | cont => obtain ⟨σ', H', I, q⟩ := h; exact ⟨σ', H', I.unwish, q⟩
  | ret u => obtain ⟨v, σ', H', I, r, q⟩ := h; exact ⟨v, σ', H', I.unwish, r, q⟩
theorem PE.nox {e : Expr} {t : TE} (h : PE X.nox e t) : PE X e t := fun pins s σ H Q I hw =>
  wpAny_mono (h pins s σ H Q (I.wish _) hw) (fun _ _ ⟨v, H', I', r, q⟩ => ⟨v, H', I'.unwish, r, q⟩) fun _ _ z => False.elim z
theorem PT.nox {e : Expr} {t : TT} (h : PT X.nox e t) : PT X e t := fun pins s σ H Q I hw =>
  wpAny_mono (h pins s σ H Q (I.wish _) hw) (fun _ _ ⟨H', I', q⟩ => ⟨H', I'.unwish, q⟩) fun _ _ z => False.elim z
theorem PSs.nox {st : List Stmt} {t : TS} (h : PSs X.nox st t) : PSs X st t := fun pins s σ H D I hw =>
  wpAny_mono (h pins s σ H D (I.wish _) hw) (fun _ _ q => q.unwish) fun _ _ z => False.elim z
end

/-! ### blocks and small statements -/
section
variable {X : Cx} {st : Stmt} {rest : List Stmt} {t u : TS} {e : Expr} {te : TE} {pos : Pos}
def tNext : TS := fun D σ H => D.nx σ H
def tSeq (t u : TS) : TS := fun D σ H => t { D with nx := u D } σ H
theorem pss_nil : PSs X [] tNext := fun _ _ σ H _ I h => wpAny_execs_nil ⟨σ, H, I, h⟩
theorem pss_cons (h1 : PS X st t) (h2 : PSs X rest u) : PSs X (st :: rest) (tSeq t u) := by
  intro pins s σ H D I h
  refine wpAny_execs_cons (thn (h1 pins s σ H { D with nx := u D } I h) fun f s1 q => ?_)
  cases f with
  | next =>
    obtain ⟨σ', H', I', q⟩ := q
    exact h2 pins s1 σ' H' D I' q
  | ret v => exact q
  | brk => exact q
  | cont => exact q
theorem pss_one (h1 : PS X st t) : PSs X [st] t := by
  intro pins s σ H D I h
  refine wpAny_execs_cons (thn (h1 pins s σ H D I h) fun f s1 q => ?_)
  cases f with
  | next => exact wpAny_execs_nil q
  | ret v => exact q
  | brk => exact q
  | cont => exact q
def tBreak : TS := fun D σ H => D.bk σ H
def tCont : TS := fun D σ H => D.ct σ H
theorem ps_pass : PS X (.Pass pos) tNext := fun _ _ σ H _ I h => wpAny_Pass ⟨σ, H, I, h⟩
theorem ps_break : PS X (.Break pos) tBreak := fun _ _ σ H _ I h => wpAny_Break ⟨σ, H, I, h⟩
theorem ps_continue : PS X (.Continue pos) tCont := fun _ _ σ H _ I h => wpAny_Continue ⟨σ, H, I, h⟩
/-- in a def's body nothing is shown -/
theorem Inv.quiet {pins : List (Addr × Obj)} {σ : St} {H : Hp} {s : Shared} (I : Inv X pins σ H s) : interactive X.env = false := by simp [interactive, I.ok.kind]
/-- a docstring -/
theorem ps_doc {x j pos pos'} : PS X (.Expr (.Constant (.str x) j pos) pos') tNext := fun _ s σ H _ I h => wpAny_Expr (Calls.Constant_str (show SP X _ _ .next { s with toks := s.toks + 1 } from ⟨σ, H, I.tok _, h⟩)) I.quiet
/-- an expression whose value is dropped -/
def tDrop (te : TE) : TS := fun D σ H => te σ H fun _ H1 => D.nx σ H1
theorem ps_expr (he : PE X e te) (hs : swapsWith e none pos.line X.env = pure false := by rfl) : PS X (.Expr e pos) (tDrop te) := by
  intro pins s σ H D I h
  exact wpAny_Expr_any (thn (he pins s σ H _ I h) fun v s1 ⟨x, H1, I1, r1, q1⟩ => ⟨σ, H1, I1, q1⟩) I.quiet hs
def tRet (te : TE) : TS := fun D σ H => te σ H D.rt
theorem ps_ret (he : PE X e te) : PS X (.Return (some e) pos) (tRet te) := by
  intro pins s σ H D I h
  exact wpAny_Return_some (thn (he pins s σ H _ I h) fun v s1 ⟨x, H1, I1, r1, q1⟩ => ⟨x, σ, H1, I1, r1, q1⟩)
def tRetN : TS := fun D _ H => D.rt .non H
theorem ps_retN : PS X (.Return none pos) tRetN := fun _ _ σ H _ I h => wpAny_Return_none ⟨.non, σ, H, I, rfl, h⟩
def tIfS (c : TT) (t u : TS) : TS := fun D σ H => c σ H fun b H1 => if b = true then t D σ H1 else u D σ H1
theorem ps_if {c : Expr} {a b : List Stmt} {tc : TT} (hc : PT X c tc) (ha : PSs X a t) (hb : PSs X b u) : PS X (.If c a b pos) (tIfS tc t u) := by
  intro pins s σ H D I h
  refine wpAny_If (thn (hc pins s σ H _ I h) fun d s1 ⟨H1, I1, q1⟩ => ?_)
  cases d with
  | true => exact ha pins s1 σ H1 D I1 q1
  | false => exact hb pins s1 σ H1 D I1 q1
/-- code that the proof never comes to -/
def tNever : TS := fun _ _ _ => False
theorem ps_never : PS X st tNever := fun _ _ _ _ _ _ h => h.elim
theorem pss_never {sts : List Stmt} : PSs X sts tNever := fun _ _ _ _ _ _ h => h.elim
end

/-! ### targets -/
abbrev TG := V → St → Hp → (St → Hp → Prop) → Prop
abbrev TGs := List V → St → Hp → (St → Hp → Prop) → Prop
def PG (X : Cx) (target : Expr) (t : TG) : Prop :=
  ∀ (pins : List (Addr × Obj)) (s : Shared) (σ : St) (H : Hp) (v : V) (u : Value) (Q : St → Hp → Prop), Inv X pins σ H s → RelV v u → t v σ H Q →
    wpAny (model X.prog X.w) X.A (assign target X.env u) (fun _ s' => ∃ σ' H', Inv X pins σ' H' s' ∧ Q σ' H') X.xe s
/-- several targets, one after another -/
def PGs (X : Cx) (ts : List Expr) (t : TGs) : Prop :=
  ∀ (pins : List (Addr × Obj)) (s : Shared) (σ : St) (H : Hp) (vs : List V) (us : List Value) (Q : St → Hp → Prop), Inv X pins σ H s → Vals vs us → t vs σ H Q →
    wpAny (model X.prog X.w) X.A (assignInOrder ((assignEach ts X.env).map (·.2)) us) (fun _ s' => ∃ σ' H', Inv X pins σ' H' s' ∧ Q σ' H') X.xe s
/-- o[i] = v, by values -/
abbrev TSet := V → V → V → Hp → (Hp → Prop) → Prop
def PSet (X : Cx) (t : TSet) : Prop :=
  ∀ (pins : List (Addr × Obj)) (s : Shared) (σ : St) (H : Hp) (o i v : V) (ov iv u : Value) (Q : Hp → Prop), Inv X pins σ H s → RelV o ov → RelV i iv → RelV v u → t o i v H Q →
    wpAny (model X.prog X.w) X.A (setItem ov iv u) (fun _ s' => ∃ H', Inv X pins σ H' s' ∧ Q H') X.xe s
/-- a op= b, by values -/
abbrev TIp := V → V → Hp → VK → Prop
def PIp (X : Cx) (op : Operator) (t : TIp) : Prop :=
  ∀ (pins : List (Addr × Obj)) (s : Shared) (σ : St) (H : Hp) (x y : V) (v u : Value) (Q : VK), Inv X pins σ H s → RelV x v → RelV y u → t x y H Q →
    wpAny (model X.prog X.w) X.A (inplaceOp op v u) (EP X pins σ Q) X.xe s
section
variable {X : Cx} {pos : Pos}
def gName (i : Nat) : TG := fun v σ H Q => Q (σ.set i (some v)) H
theorem pg_name {i : Nat} {x : Str} (hN : X.N.Nodup) (hi : X.N[i]? = some x) (hx : Loc X.env.scope x) (hf : X.fn x = true ∨ X.env.scope.names.lookup x = some .local := by first | exact .inl rfl | exact .inr rfl | assumption) : PG X (.Name x pos) (gName i) := by
  intro pins s σ H v u Q I r h
  exact wpAny_assign_Name (store_ok I hN hi hx r (fun s' I' => ⟨_, H, I', h⟩) hf)
def gNil : TGs := fun vs σ H Q => vs = [] ∧ Q σ H
def gCons (t : TG) (u : TGs) : TGs := fun vs σ H Q => ∃ v r, vs = v :: r ∧ t v σ H fun σ' H' => u r σ' H' Q
theorem pgs_nil : PGs X [] gNil := by
  intro pins s σ H vs us Q I r h
  obtain ⟨e, h⟩ := h
  subst e
  cases r
  exact assignInOrder_nil ⟨σ, H, I, h⟩
theorem pgs_cons {e : Expr} {es : List Expr} {t : TG} {u : TGs} (h1 : PG X e t) (h2 : PGs X es u)
    (hs : (assignEach (e :: es) X.env).map (·.2) = assign e X.env :: (assignEach es X.env).map (·.2) := by rfl) : PGs X (e :: es) (gCons t u) := by
  intro pins s σ H vs us Q I r h
  obtain ⟨v, vr, e1, h⟩ := h
  subst e1
  cases r with
  | cons r rr =>
    rw [hs]
    refine assignInOrder_cons (thn (h1 pins s σ H _ _ _ I r h) fun _ s1 ⟨σ1, H1, I1, q1⟩ => ?_)
    exact h2 pins s1 σ1 H1 _ _ Q I1 rr q1
/-- (a, b, ..) = a tuple of that length -/
def gTup (K : PySem.W.Frag) (n : Nat) (t : TGs) : TG := fun v σ H Q => ∃ a xs, v = .ref a ∧ SqT K H a xs ∧ xs.length = n ∧ t xs σ H Q
theorem pg_tup {es : List Expr} {k : Nat} {t : TGs} {n : Nat} (hc : X.calm = true) (h : PGs X es t)
    (hn : (assignEach es X.env).length = n := by rfl) (hst : (assignEach es X.env).findIdx? (·.1) = none := by rfl) : PG X (.Tuple es k pos) (gTup X.K n t) := by
  intro pins s σ H v u Q I r hw
  obtain ⟨a, xs, e1, hq, hl, hw⟩ := hw
  subst e1
  cases r
  obtain ⟨its, rv, ht, hz⟩ := I.tuple hq
  refine assign_Tuple_tuple (I.ok.hd hc) ht (by simp [hn, ← hl, rv.length]) hst fun h' hx => ?_
  have I1 : Inv X pins σ H { s with heap := h' } := I.kept (t' := s.toks) fun b o e => hx b o (Nat.ne_of_lt (Heap.lt_size e)) e
  exact h pins _ σ H xs _ Q I1 (by simpa using rv) hw
/-- o[i] = .. -/
def gSub (to ti : TE) (t : TSet) : TG := fun v σ H Q => to σ H fun o H1 => ti σ H1 fun i H2 => t o i v H2 fun H3 => Q σ H3
theorem pg_sub {o i : Expr} {to ti : TE} {t : TSet} (ho : PE X o to) (hi : PE X i ti) (hs : PSet X t)
    (ha : ∀ v, assign (.Subscript o i pos) X.env v = (do
      let ov ← holding [v] (eval o X.env)
      let iv ← holding [v, ov] (eval i X.env)
      standAt pos
      holding [v, ov, iv] (setItem ov iv v)
      release [v, ov, iv] []) := by intro _; rfl) : PG X (.Subscript o i pos) (gSub to ti t) := by
  intro pins s σ H v u Q I r h
  rw [ha]
  refine wpAny_bind (wpAny_holding (thn (ho pins s σ H _ I h) fun ov s1 ⟨x, H1, I1, r1, q1⟩ => ?_))
  refine wpAny_bind (wpAny_holding (thn (hi pins s1 σ H1 _ I1 q1) fun iv s2 ⟨y, H2, I2, r2, q2⟩ => ?_))
  refine wpAny_bind (wpAny_standAt (wpAny_bind (wpAny_holding (thn (hs pins s2 σ H2 x y v ov iv u _ I2 r1 r2 r q2) fun _ s3 ⟨H3, I3, q3⟩ => ?_))))
  exact wpAny_release ⟨σ, H3, I3, q3⟩
/-- target = value -/
def tAsg (te : TE) (g : TG) : TS := fun D σ H => te σ H fun x H1 => g x σ H1 D.nx
theorem ps_asg {tg e : Expr} {te : TE} {g : TG} (he : PE X e te) (hg : PG X tg g) (hs : swapsWithSole [tg] e pos.line X.env = pure false := by rfl) (hw : swappedStores [tg] e X.env = pure none := by rfl)
    (h1 : (assignEach [tg] X.env).map (·.2) = [assign tg X.env] := by rfl) : PS X (.Assign [tg] e pos) (tAsg te g) := by
  intro pins s σ H D I h
  refine wpAny_Assign_stores (thn (he pins s σ H _ I h) fun v s1 ⟨x, H1, I1, r1, q1⟩ => ?_) hs hw
  rw [h1]
  exact thn (hg pins s1 σ H1 x v _ I1 r1 q1) fun _ s2 q => q
/-- name = value -/
theorem ps_set {i : Nat} {x : Str} {e : Expr} {te : TE} {pos' : Pos} (hN : X.N.Nodup) (hi : X.N[i]? = some x) (hx : Loc X.env.scope x) (he : PE X e te) (hs : swapsWith e (some (.Name x pos')) pos.line X.env = pure false := by rfl) (hf : X.fn x = true ∨ X.env.scope.names.lookup x = some .local := by first | exact .inl rfl | exact .inr rfl | assumption) :
    PS X (.Assign [.Name x pos'] e pos) (tAsg te (gName i)) := by
  intro pins s σ H D I h
  refine wpAny_Assign_Name (thn (he pins s σ H _ I h) fun v s1 ⟨y, H1, I1, r1, q1⟩ => ?_) hs
  exact store_ok I1 hN hi hx r1 (fun s2 I2 => ⟨_, H1, I2, q1⟩) hf
/-- a, b = x, y with plain local names: stored from the right; the pair itself is not tracked (the opening rows as in PyProof/Rows/TupAssign.lean:23) -/
def tPar (i j : Nat) (ta : TA) : TS := fun D σ H => ta σ H fun vs H1 => ∃ v w, vs = [v, w] ∧ D.nx ((σ.set i (some v)).set j (some w)) H1
theorem ps_par {i j : Nat} {x y : Str} {a b : Expr} {ta : TA} {px py pt : Pos} {kt k2 pt2} (hc : X.calm = true) (hN : X.N.Nodup) (hi : X.N[i]? = some x) (hj : X.N[j]? = some y) (hij : i ≠ j)
    (hx : X.env.scope.names.lookup x = some .local) (hy : X.env.scope.names.lookup y = some .local) (ha : PA X [a, b] ta)
    (hw : swappedStores [.Tuple [.Name x px, .Name y py] kt pt] (.Tuple [a, b] k2 pt2) X.env = pure (some [x, y]))
    (hs : swapsWithSole [.Tuple [.Name x px, .Name y py] kt pt] (.Tuple [a, b] k2 pt2) pos.line X.env = pure false := by rfl) :
    PS X (.Assign [.Tuple [.Name x px, .Name y py] kt pt] (.Tuple [a, b] k2 pt2) pos) (tPar i j ta) := by
  intro pins s σ H D I h
  rw [exec_Assign_arm]
  refine wpAny_bind (wpAny_standAt ?_)
  rw [hs]
  refine wpAny_bind (wpAny_pure ?_)
  rw [if_neg (by decide)]
  refine wpAny_bind (Tuple_ (thn (ha _ pins s σ H _ I h) fun us s1 ⟨vs, H1, I1, r1, q1⟩ => ?_))
  obtain ⟨v, w, e1, q1⟩ := q1
  subst e1
  obtain ⟨u1, u2, rfl, rv, rw'⟩ : ∃ u1 u2, us = [u1, u2] ∧ RelV v u1 ∧ RelV w u2 := by
    cases r1 with
    | cons p q =>
      cases q with
      | cons p' q' =>
        cases q'
        exact ⟨_, _, rfl, p, p'⟩
  refine wpAny_newObj_type ?_ (by show 2 ≤ sizeLine; decide)
  have I2 : Inv X pins σ H1 { s1 with heap := s1.heap.push { cls := .type "tuple", data := .seq [u1, u2].toArray } } := I1.kept (t' := s1.toks) fun b o e => Heap.get?_push_of_some _ e
  rw [hw]
  refine wpAny_bind (wpAny_pure ?_)
  show wpAny (model X.prog X.w) X.A (do rule "assign.swapped-stores"; let items ← unpackItems (.ref s1.heap.objs.size) 2 none; assignInOrder [fun v => bindName X.env y v, fun v => bindName X.env x v] items.reverse; pure Flow.next) _ _ _
  refine wpAny_bind (wpAny_rule (wpAny_bind (unpackItems_tuple (items := #[u1, u2]) (I.ok.hd hc) (IsTup.new s1.heap _) fun h' hx' => ?_)))
  have I3 := I2.kept (h' := h') (t' := s1.toks) fun b o e => hx' b o (Nat.ne_of_lt (Heap.lt_size e)) e
  show wpAny _ _ (assignInOrder [fun v => bindName X.env y v, fun v => bindName X.env x v] [u2, u1] >>= fun _ => pure Flow.next) _ _ _
  refine wpAny_bind (assignInOrder_cons (wpAny_bindName (store_ok I3 hN hj (.inl hy) rw' (fun s2 I4 => ?_) (.inr hy))))
  refine assignInOrder_cons (wpAny_bindName (store_ok I4 hN hi (.inl hx) rv (fun s3 I5 => assignInOrder_nil (wpAny_pure ?_)) (.inr hx)))
  rw [List.set_comm _ _ (Ne.symm hij)] at I5
  exact ⟨_, H1, I5, q1⟩
/-- name op= e -/
def tAug (i : Nat) (te : TE) (ti : TIp) : TS := fun D σ H => ∃ x, σ[i]? = some (some x) ∧ te σ H fun y H1 => ti x y H1 fun z H2 => D.nx (σ.set i (some z)) H2
theorem ps_aug {i : Nat} {x : Str} {e : Expr} {te : TE} {op : Operator} {ti : TIp} {pos' : Pos} (hN : X.N.Nodup) (hi : X.N[i]? = some x) (hx : Loc X.env.scope x) (he : PE X e te) (ho : PIp X op ti) (hf : X.fn x = true ∨ X.env.scope.names.lookup x = some .local := by first | exact .inl rfl | exact .inr rfl | assumption) :
    PS X (.AugAssign (.Name x pos') op e pos) (tAug i te ti) := by
  intro pins s σ H D I h
  obtain ⟨v, e1, h⟩ := h
  obtain ⟨m, hn, hl⟩ := I.loc
  have vis : Vis X.env.scope x := by rcases hx with k | k; exact .inl k; exact .inr (.inl k)
  obtain ⟨u, r, l⟩ := hl i x v hi e1 vis
  refine wpAny_AugAssign_Name ?_
  have go : wpAny (model X.prog X.w) X.A (eval e X.env) (fun w s₂ => wpAny (model X.prog X.w) X.A (inplaceOp op u w) (fun r s₃ => wpAny (model X.prog X.w) X.A (storeName X.env x r) (fun _ => SP X pins D .next) X.xe s₃) X.xe s₂) X.xe s := by
    refine thn (he pins s σ H _ I h) fun w s1 ⟨y, H1, I1, r1, q1⟩ => ?_
    refine thn (ho pins s1 σ H1 v y u w _ I1 r r1 q1) fun z s2 ⟨zv, H2, I2, r2, q2⟩ => ?_
    exact store_ok I2 hN hi hx r2 (fun s3 I3 => ⟨_, H2, I3, q2⟩) hf
  rcases l with ⟨hk, hm⟩ | ⟨hk, c, hc, hcell⟩
  · exact wpAny_loadName_local I.ok.kind hk hn hm go
  · rcases hk with hk | hk
    · exact wpAny_loadName_cell I.ok.kind hk hc hcell go
    · rcases hx with k | k
      · have : X.env.scope.names.lookup x = some .free := hk
        rw [k] at this; cases this
      · have : X.env.scope.names.lookup x = some .free := hk
        rw [k] at this; cases this
/-- o[i] op= e -/
def tAugS (to ti te : TE) (tget : V → V → Hp → VK → Prop) (tip : TIp) (tset : TSet) : TS := fun D σ H => to σ H fun o H1 => ti σ H1 fun i H2 => tget o i H2 fun x H3 => te σ H3 fun y H4 => tip x y H4 fun z H5 => tset o i z H5 fun H6 => D.nx σ H6
/-- o[i], by values -/
def PGet (X : Cx) (t : V → V → Hp → VK → Prop) : Prop :=
  ∀ (pins : List (Addr × Obj)) (s : Shared) (σ : St) (H : Hp) (o i : V) (ov iv : Value) (Q : VK), Inv X pins σ H s → RelV o ov → RelV i iv → t o i H Q →
    wpAny (model X.prog X.w) X.A (getItem ov iv) (EP X pins σ Q) X.xe s
theorem ps_augS {o i e : Expr} {to ti te : TE} {tget : V → V → Hp → VK → Prop} {tip : TIp} {tset : TSet} {op : Operator} {tpos : Pos} (ho : PE X o to) (hi : PE X i ti) (hg : PGet X tget) (he : PE X e te) (hp : PIp X op tip) (hs : PSet X tset)
    (ha : ∀ ov iv new, augStore i ov iv new = (do holding [new, ov, iv] (setItem ov iv new); release [new, ov, iv] []; pure .next) := by intros; rfl) : PS X (.AugAssign (.Subscript o i tpos) op e pos) (tAugS to ti te tget tip tset) := by
  intro pins s σ H D I h
  refine wpAny_AugAssign_SubscriptAny (thn (ho pins s σ H _ I h) fun ov s1 ⟨x1, H1, I1, r1, q1⟩ => ?_) ha
  refine thn (hi pins s1 σ H1 _ I1 q1) fun iv s2 ⟨x2, H2, I2, r2, q2⟩ => ?_
  refine thn (hg pins s2 σ H2 x1 x2 ov iv _ I2 r1 r2 q2) fun old s3 ⟨x3, H3, I3, r3, q3⟩ => ?_
  refine thn (he pins s3 σ H3 _ I3 q3) fun v s4 ⟨x4, H4, I4, r4, q4⟩ => ?_
  refine thn (hp pins s4 σ H4 x3 x4 old v _ I4 r3 r4 q4) fun new s5 ⟨x5, H5, I5, r5, q5⟩ => ?_
  exact thn (hs pins s5 σ H5 x1 x2 x5 ov iv new _ I5 r1 r2 r5 q5) fun _ s6 ⟨H6, I6, q6⟩ => ⟨σ, H6, I6, q6⟩
/-- ints -/
def ipI (f : Int → Int → Int) : TIp := fun x y H Q => ∃ i j, x = .int i ∧ y = .int j ∧ Q (.int (f i j)) H
theorem ip_add : PIp X .Add (ipI fun i j => i + j) := by
  intro pins s σ H x y v u Q I r1 r2 h
  obtain ⟨i, j, e1, e2, q⟩ := h
  subst e1; subst e2
  obtain ⟨t, rfl⟩ := r1
  obtain ⟨t', rfl⟩ := r2
  exact iadd_int ⟨.int _, H, I.tok _, ⟨_, rfl⟩, q⟩
theorem ip_sub : PIp X .Sub (ipI fun i j => i - j) := by
  intro pins s σ H x y v u Q I r1 r2 h
  obtain ⟨i, j, e1, e2, q⟩ := h
  subst e1; subst e2
  obtain ⟨t, rfl⟩ := r1
  obtain ⟨t', rfl⟩ := r2
  exact isub_int ⟨.int _, H, I.tok _, ⟨_, rfl⟩, q⟩
end

/-! ### while -/
section
variable {X : Cx} {pos : Pos}
/-- the invariant W with its measure -/
def tWhile (c : TT) (tb : TS) : TS := fun D σ H => ∃ W : Nat → St → Hp → Prop, (∃ m, W m σ H) ∧ ∀ m σ H, W m σ H →
  c σ H fun b H1 => if b = true then ∃ N : St → Hp → Prop, (∀ σ' H', N σ' H' → ∃ m', m' < m ∧ W m' σ' H') ∧ tb { D with nx := N, ct := N, bk := D.nx } σ H1 else D.nx σ H1
theorem ps_while {c : Expr} {body : List Stmt} {tc : TT} {tb : TS} (hp : PassesOwn (model X.prog X.w) X.A X.env X.xe) (hc : PT X c tc) (hb : PSs X body tb) : PS X (.While c body [] pos) (tWhile tc tb) := by
  intro pins s σ H D I h
  obtain ⟨W, ⟨m0, w0⟩, turn⟩ := h
  refine wpAny_While (codeAny_whileLoop (fun n s' => ∃ σ' H', Inv X pins σ' H' s' ∧ W n σ' H') ?_ m0 ⟨σ, H, I, w0⟩)
  rintro n s1 ⟨σ1, H1, I1, w1⟩
  refine wpAny_passesOwn hp (thn (hc pins s1 σ1 H1 _ I1 (turn n σ1 H1 w1)) fun b s2 ⟨H2, I2, q2⟩ => ?_)
  cases b with
  | true =>
    obtain ⟨N, hN, q2⟩ := q2
    rw [if_pos rfl]
    refine wpAny_passesOwn hp (thn (hb pins s2 σ1 H2 _ I2 q2) fun f s3 q3 => ?_)
    cases f with
    | next =>
      obtain ⟨σ3, H3, I3, n3⟩ := q3
      obtain ⟨m', hm, w3⟩ := hN σ3 H3 n3
      exact ⟨m', hm, σ3, H3, I3, w3⟩
    | cont =>
      obtain ⟨σ3, H3, I3, n3⟩ := q3
      obtain ⟨m', hm, w3⟩ := hN σ3 H3 n3
      exact ⟨m', hm, σ3, H3, I3, w3⟩
    | brk => exact q3
    | ret v => exact q3
  | false =>
    rw [if_neg Bool.false_ne_true]
    exact wpAny_execs_nil ⟨σ1, H2, I2, q2⟩
end

/-! ### what a loop or a comprehension walks -/
/-- at turn i: it yields x (the heap may grow), or it stops -/
structure It where
  go : Nat → Hp → Prop
  yld : Nat → Hp → V → Hp → Prop
  stop : Nat → Hp → Prop
/-- the iterator's own objects may turn: they are not the frame's, not pinned, younger than the entry (or a comprehension's own) -/
def FpOk (X : Cx) (pins : List (Addr × Obj)) (H : Hp) (b : Addr) : Prop :=
  H b = none ∧ b ≠ X.env.locals ∧ b ∉ X.fs ∧ (b ∈ X.ex ∨ X.s₀.heap.objs.size ≤ b) ∧ (∀ x c, X.env.cells.lookup x = some c → c ≠ b) ∧ ∀ p ∈ X.pn ++ pins, p.1 ≠ b
theorem Inv.fpOk {X : Cx} {pins : List (Addr × Obj)} {σ : St} {H H' : Hp} {s : Shared} {b : Addr} (I : Inv X pins σ H s) (hb : s.heap.objs.size ≤ b) (hn : H' b = none) : FpOk X pins H' b := by
  refine ⟨hn, Nat.ne_of_gt (Nat.lt_of_lt_of_le I.lt hb), I.nofs hb, .inr (Nat.le_trans I.sz hb), fun x c e z => ?_, fun p hp z => ?_⟩
  · obtain ⟨v, q⟩ := I.cell x c e
    exact absurd (Nat.lt_of_lt_of_le q.lt (by rw [z]; exact hb)) (Nat.lt_irrefl _)
  · exact absurd (Nat.lt_of_lt_of_le (Heap.lt_size (I.pin p hp).1) (by rw [z]; exact hb)) (Nat.lt_irrefl _)
structure Turn (P : Program) (w : World) (K : PySem.W.Frag) (tg : Expr) (J : It) (fp : List Addr) (it : Addr) (tn : Nat → Heap → Prop) : Prop where
  mem : it ∈ fp
  obj : ∀ i h, tn i h → ∀ b ∈ fp, ∃ o, h.get? b = some o ∧ ∀ v, o.data ≠ .cell v
  keep : ∀ i h h', tn i h → (∀ b ∈ fp, ∀ o, h.get? b = some o → h'.get? b = some o) → tn i h'
  item : ∀ (X : Cx), X.prog = P → X.w = w → X.K = K → X.calm = true → ∀ (i : Nat) (pins : List (Addr × Obj)) (s : Shared) (σ : St) (H : Hp) (E : Value → Shared → Prop), Inv X pins σ H s → (∀ b ∈ fp, FpOk X pins H b) → tn i s.heap → J.go i H →
    wpAny (model P w) X.A (pyNext (.ref it)) (fun r s1 => ∃ u, r = some u ∧
      wpAny (model P w) X.A (letOwnedTupleGo tg (.ref it) u) (fun _ s2 => ∃ x H', Inv X pins σ H' s2 ∧ RelV x u ∧ J.yld i H x H' ∧ tn (i + 1) s2.heap ∧ ∀ b ∈ fp, H' b = none) E s1) E s
  done : ∀ (X : Cx), X.prog = P → X.w = w → X.K = K → X.calm = true → ∀ (i : Nat) (pins : List (Addr × Obj)) (s : Shared) (σ : St) (H : Hp) (E : Value → Shared → Prop), Inv X pins σ H s → (∀ b ∈ fp, FpOk X pins H b) → tn i s.heap → J.stop i H →
    wpAny (model P w) X.A (pyNext (.ref it)) (fun r s1 => r = none ∧ Inv X pins σ H s1) E s
  self : ∀ (A : Around) (i : Nat) (s : Shared) (Q : Value → Shared → Prop) (E : Value → Shared → Prop), tn i s.heap → Q (.ref it) s → wpAny (model P w) A (pyIter (.ref it)) Q E s
abbrev TI := St → Hp → (It → Hp → Prop) → Prop
/-- an iterator has come -/
def PIE (X : Cx) (pins : List (Addr × Obj)) (σ : St) (tg : Expr) (R : It → Hp → Prop) (itv : Value) (s2 : Shared) : Prop :=
  ∃ (it : Addr) (fp : List Addr) (tn : Nat → Heap → Prop) (J : It) (H' : Hp), itv = .ref it ∧ Inv X pins σ H' s2 ∧ Turn X.prog X.w X.K tg J fp it tn ∧ tn 0 s2.heap ∧ (∀ b ∈ fp, FpOk X pins H' b) ∧ R J H'
def PI (X : Cx) (tg iter : Expr) (wi : TI) : Prop :=
  ∀ (pins : List (Addr × Obj)) (s : Shared) (σ : St) (H : Hp) (R : It → Hp → Prop), Inv X pins σ H s → wi σ H R →
    wpAny (model X.prog X.w) X.A (eval iter X.env) (fun v s1 => wpAny (model X.prog X.w) X.A (pyIter v) (PIE X pins σ tg R) X.xe s1) X.xe s

/-- the step ahead of the store is nothing for an iterator that keeps no tuple -/
theorem go_of {M : Model} {A : Around} {E : Value → Shared → Prop} {s : Shared} {tg : Expr} {it : Addr} {u : Value} {o : Obj} {n : String} {vs : Array Value} {Q : Unit → Shared → Prop} (ho : s.heap.get? it = some o) (hc : o.cls = .type n) (hd : o.data = .fields vs)
    (hn : ["enumerate", "zip", "dict_itemiterator", "dict_reverseitemiterator", "odict_iterator", "itertools.zip_longest", "itertools.pairwise"].contains n = false) (hQ : Q () s) : wpAny M A (letOwnedTupleGo tg (.ref it) u) Q E s := by
  unfold letOwnedTupleGo
  cases tg <;> first
    | exact wpAny_pure hQ
    | (cases u <;> first
        | exact wpAny_pure hQ
        | (refine wpAny_bind (wpAny_load ho ?_)
           rw [hc, hd]
           show wpAny M A (if (["enumerate", "zip", "dict_itemiterator", "dict_reverseitemiterator", "odict_iterator", "itertools.zip_longest", "itertools.pairwise"].contains n && vs[0]? == some (rawInt _)) = true then _ else _) Q E s
           rw [if_neg (by intro h; rw [hn, Bool.false_and] at h; cases h)]
           exact wpAny_pure hQ))

/-- the list at a, as it stands at each turn (a loop may append to it) -/
def Itl (K : PySem.W.Frag) (a : Addr) : It :=
  ⟨fun i H => ∃ xs x, SqL K H a xs ∧ xs[i]? = some x, fun i H x H' => H' = H ∧ ∀ xs, SqL K H a xs → xs[i]? = some x, fun i H => ∃ xs, SqL K H a xs ∧ xs.length ≤ i⟩
def Itt (K : PySem.W.Frag) (a : Addr) : It :=
  ⟨fun i H => ∃ xs x, SqT K H a xs ∧ xs[i]? = some x, fun i H x H' => H' = H ∧ ∀ xs, SqT K H a xs → xs[i]? = some x, fun i H => ∃ xs, SqT K H a xs ∧ xs.length ≤ i⟩
/-- lo, lo + 1, .. (n of them) -/
def Itr (lo : Int) (n : Nat) : It := ⟨fun i _ => i < n, fun i H x H' => H' = H ∧ x = .int (lo + i), fun i _ => n ≤ i⟩
theorem turn_list {P : Program} {w : World} {K : PySem.W.Frag} {tg : Expr} (a it : Addr) : Turn P w K tg (Itl K a) [it] it (fun i h => h.IsListIter it a i) where
  mem := by simp
  obj := fun i h st b hb => by
    have e : b = it := by simpa using hb
    subst e
    obtain ⟨o, e, c, d⟩ := st
    exact ⟨o, e, fun v z => by rw [d] at z; cases z⟩
  keep := fun i h h' st k => st.at fun o e => k it (by simp) o e
  item := by
    intro X hP hw hK hc i pins s σ H E I hf st hg
    subst hP hw hK
    obtain ⟨xs, x, hq, hx⟩ := hg
    obtain ⟨its, rv, p, hz⟩ := I.list hq
    obtain ⟨u, hu, ru⟩ := rv.get hx
    obtain ⟨f0, f1, f2, f3, f4, f5⟩ := hf it (by simp)
    refine wpAny_pyNext_list_item st p.isList (x := u) (by simpa using hu) fun h' st' sb => ?_
    have I1 : Inv X pins σ H { s with heap := h' } := I.turned (t' := s.toks) (fun b o hb e => (sb.2 b hb).trans e) f0 f1 f3 f4 f5
    obtain ⟨o, e, c, d⟩ := id st'
    exact ⟨u, rfl, go_of (s := { s with heap := h' }) e c d (by decide) ⟨x, H, I1, ru, ⟨rfl, fun ys hy => by rw [I.list_inj hy hq]; exact hx⟩, st', fun b hb => (hf b hb).1⟩⟩
  done := by
    intro X hP hw hK hc i pins s σ H E I hf st hg
    subst hP hw hK
    obtain ⟨xs, hq, hx⟩ := hg
    obtain ⟨its, rv, p, hz⟩ := I.list hq
    obtain ⟨f0, f1, f2, f3, f4, f5⟩ := hf it (by simp)
    have hl := rv.length
    exact wpAny_pyNext_list_end (I.ok.hd hc) st p.isList (by simp; omega) fun h' eb => ⟨rfl, I.turned (t' := s.toks) (fun b o hb e => eb b o hb e) f0 f1 f3 f4 f5⟩
  self := fun _ _ _ _ _ st h => wpAny_pyIter_listiter st h
theorem turn_tuple {P : Program} {w : World} {K : PySem.W.Frag} {tg : Expr} (a it : Addr) : Turn P w K tg (Itt K a) [it] it (fun i h => h.IsTupleIter it a i) where
  mem := by simp
  obj := fun i h st b hb => by
    have e : b = it := by simpa using hb
    subst e
    obtain ⟨o, e, c, d⟩ := st
    exact ⟨o, e, fun v z => by rw [d] at z; cases z⟩
  keep := fun i h h' st k => st.at fun o e => k it (by simp) o e
  item := by
    intro X hP hw hK hc i pins s σ H E I hf st hg
    subst hP hw hK
    obtain ⟨xs, x, hq, hx⟩ := hg
    obtain ⟨its, rv, p, hz⟩ := I.tuple hq
    obtain ⟨u, hu, ru⟩ := rv.get hx
    obtain ⟨f0, f1, f2, f3, f4, f5⟩ := hf it (by simp)
    refine wpAny_pyNext_tuple_item st (show s.heap.IsTuple a its.toArray from p) (x := u) (by simpa using hu) fun h' st' sb => ?_
    have I1 : Inv X pins σ H { s with heap := h' } := I.turned (t' := s.toks) (fun b o hb e => (sb.2 b hb).trans e) f0 f1 f3 f4 f5
    obtain ⟨o, e, c, d⟩ := id st'
    exact ⟨u, rfl, go_of (s := { s with heap := h' }) e c d (by decide) ⟨x, H, I1, ru, ⟨rfl, fun ys hy => by rw [I.tuple_inj hy hq]; exact hx⟩, st', fun b hb => (hf b hb).1⟩⟩
  done := by
    intro X hP hw hK hc i pins s σ H E I hf st hg
    subst hP hw hK
    obtain ⟨xs, hq, hx⟩ := hg
    obtain ⟨its, rv, p, hz⟩ := I.tuple hq
    obtain ⟨f0, f1, f2, f3, f4, f5⟩ := hf it (by simp)
    have hl := rv.length
    exact wpAny_pyNext_tuple_end (I.ok.hd hc) st (show s.heap.IsTuple a its.toArray from p) (by simp; omega) fun h' eb => ⟨rfl, I.turned (t' := s.toks) (fun b o hb e => eb b o hb e) f0 f1 f3 f4 f5⟩
  self := fun _ _ _ _ _ st h => wpAny_pyIter_tupleiter st h
theorem turn_range {P : Program} {w : World} {K : PySem.W.Frag} {tg : Expr} (it : Addr) (lo : Int) (n : Nat) : Turn P w K tg (Itr lo n) [it] it (fun i h => IsRangeIter h it (lo + (i : Nat) * 1) ((n : Int) - (i : Nat)) 1) where
  mem := by simp
  obj := fun i h st b hb => by
    have e : b = it := by simpa using hb
    subst e
    exact ⟨_, st, fun v z => by
      have z' : Data.fields _ = Data.cell v := z
      cases z'⟩
  keep := fun i h h' st k => k it (by simp) _ st
  item := by
    intro X hP hw hK hc i pins s σ H E I hf st hg
    subst hP hw hK
    obtain ⟨f0, f1, f2, f3, f4, f5⟩ := hf it (by simp)
    have W := Walks.range (prog := X.prog) (w := X.w) (I.ok.hd hc) it lo 1 n
    refine W.item i s _ _ hg st fun v h' tk hv st' kk => ?_
    obtain ⟨t, rfl⟩ := hv
    have I1 : Inv X pins σ H { s with heap := h', toks := tk } := I.turned (fun b o hb e => kk b o (by simpa using hb) e) f0 f1 f3 f4 f5
    refine ⟨_, rfl, go_of (s := { s with heap := h', toks := tk }) (n := "range_iterator") st' rfl rfl (by decide) ⟨.int (lo + i), H, I1, ⟨t, ?_⟩, ⟨rfl, rfl⟩, st', fun b hb => (hf b hb).1⟩⟩
    rw [Int.mul_one]
  done := by
    intro X hP hw hK hc i pins s σ H E I hf st hg
    subst hP hw hK
    obtain ⟨f0, f1, f2, f3, f4, f5⟩ := hf it (by simp)
    exact wpAny_pyNext_range_end (I.ok.hd hc) st (by have : n ≤ i := hg; omega) fun h' eb => ⟨rfl, I.turned (t' := s.toks) (fun b o hb e => eb b o hb e) f0 f1 f3 f4 f5⟩
  self := fun _ _ _ _ _ st h => wpAny_pyIter_rangeiter st h
end L2

namespace L2
open PySem PySem.Spec PyProof.Rows
section
variable {X : Cx} {tg : Expr}
def iList (K : PySem.W.Frag) (tl : TE) : TI := fun σ H R => tl σ H fun x H1 => ∃ a, x = .ref a ∧ (∃ xs, SqL K H1 a xs) ∧ R (Itl K a) H1
def iTup (K : PySem.W.Frag) (tl : TE) : TI := fun σ H R => tl σ H fun x H1 => ∃ a, x = .ref a ∧ (∃ xs, SqT K H1 a xs) ∧ R (Itt K a) H1
theorem pi_list {l : Expr} {tl : TE} (hl : PE X l tl) : PI X tg l (iList X.K tl) := by
  intro pins s σ H R I h
  refine thn (hl pins s σ H _ I h) fun v s1 ⟨x, H1, I1, r1, q1⟩ => ?_
  obtain ⟨a, e, ⟨xs, hq⟩, q⟩ := q1
  subst e
  cases r1
  obtain ⟨its, rv, p, hz⟩ := I1.list hq
  refine wpAny_pyIter_list p.isList ?_
  refine ⟨s1.heap.objs.size, [s1.heap.objs.size], _, _, H1, rfl, I1.kept (t' := s1.toks) fun b o e => Heap.get?_push_of_some _ e, turn_list a _, ⟨_, Heap.get?_push_size _ rfl, rfl, rfl⟩, fun b hb => ?_, q⟩
  have e : b = s1.heap.objs.size := by simpa using hb
  subst e
  exact I1.fpOk (Nat.le_refl _) (I1.hok.fresh (Nat.le_refl _))
theorem pi_tup {l : Expr} {tl : TE} (hl : PE X l tl) : PI X tg l (iTup X.K tl) := by
  intro pins s σ H R I h
  refine thn (hl pins s σ H _ I h) fun v s1 ⟨x, H1, I1, r1, q1⟩ => ?_
  obtain ⟨a, e, ⟨xs, hq⟩, q⟩ := q1
  subst e
  cases r1
  obtain ⟨its, rv, p, hz⟩ := I1.tuple hq
  refine wpAny_pyIter_tuple (show s1.heap.IsTuple a its.toArray from p) ?_
  refine ⟨s1.heap.objs.size, [s1.heap.objs.size], _, _, H1, rfl, I1.kept (t' := s1.toks) fun b o e => Heap.get?_push_of_some _ e, turn_tuple a _, ⟨_, Heap.get?_push_size _ rfl, rfl, rfl⟩, fun b hb => ?_, q⟩
  have e : b = s1.heap.objs.size := by simpa using hb
  subst e
  exact I1.fpOk (Nat.le_refl _) (I1.hok.fresh (Nat.le_refl _))
/-- a range object just made, walked -/
theorem range_it {pins : List (Addr × Obj)} {σ : St} {H : Hp} {s : Shared} {R : It → Hp → Prop} {E : Value → Shared → Prop} {lo hi : Int} {t u v : Tok} {tk : Nat} (I : Inv X pins σ H s) (h1 : -(2 ^ 62) ≤ lo) (h2 : lo < 2 ^ 62) (h3 : -(2 ^ 62) ≤ hi) (h4 : hi < 2 ^ 62)
    (q : R (Itr lo (hi - lo).toNat) H) : wpAny (model X.prog X.w) X.A (pyIter (.ref s.heap.objs.size)) (PIE X pins σ tg R) E { s with heap := s.heap.push { cls := .type "range", data := .fields #[.int lo t, .int hi u, .int 1 v] }, toks := tk } := by
  refine wpAny_pyIter_range (IsRange.new ..) (small_one h1 h2 h3 h4) ?_
  have I1 : Inv X pins σ H { s with heap := s.heap.push { cls := .type "range", data := .fields #[.int lo t, .int hi u, .int 1 v] }, toks := tk } := I.kept fun b o e => Heap.get?_push_of_some _ e
  refine ⟨(s.heap.push { cls := .type "range", data := .fields #[.int lo t, .int hi u, .int 1 v] }).objs.size, [(s.heap.push { cls := .type "range", data := .fields #[.int lo t, .int hi u, .int 1 v] }).objs.size], _, _, H, rfl,
    I1.kept (t' := tk) fun b o e => Heap.get?_push_of_some _ e, turn_range _ lo (hi - lo).toNat, ?_, fun b hb => ?_, q⟩
  · have e1 : lo + ((0 : Nat) : Int) * 1 = lo := by simp
    have e2 : (((hi - lo).toNat : Nat) : Int) - ((0 : Nat) : Int) = Builtin.Range.rangeSize lo hi 1 := by rw [rangeSize_one]; split <;> omega
    show IsRangeIter _ _ (lo + ((0 : Nat) : Int) * 1) ((((hi - lo).toNat : Nat) : Int) - ((0 : Nat) : Int)) 1
    rw [e1, e2]
    exact Heap.get?_push_size _ rfl
  · have e : b = (s.heap.push { cls := .type "range", data := .fields #[.int lo t, .int hi u, .int 1 v] }).objs.size := by simpa using hb
    subst e
    exact I1.fpOk (Nat.le_refl _) (I1.hok.fresh (Nat.le_refl _))
def iRng1 (ta : TA) : TI := fun σ H R => ta σ H fun vs H1 => ∃ j : Int, vs = [.int j] ∧ -(2 ^ 62) ≤ j ∧ j < 2 ^ 62 ∧ R (Itr 0 j.toNat) H1
def iRng2 (ta : TA) : TI := fun σ H R => ta σ H fun vs H1 => ∃ i j : Int, vs = [.int i, .int j] ∧ (-(2 ^ 62) ≤ i ∧ i < 2 ^ 62 ∧ -(2 ^ 62) ≤ j ∧ j < 2 ^ 62) ∧ R (Itr i (j - i).toNat) H1
theorem pi_range1 {a : Expr} {ta : TA} {p pos : Pos} (hg : Gl X "range") (hm : X.mg "range" = none) (ha : PA X [a] ta) (hs : starEach [a] X.env = [(false, eval a X.env)] := by rfl) : PI X tg (.Call (.Name "range" p) [a] [] pos) (iRng1 ta) := by
  intro pins s σ H R I h
  refine Call_ (ld_blt I hg hm boot_range (PyProof.Rows.callWith_type1 (thn (ha pos pins s σ H _ I h) fun us s1 ⟨vs, H1, I1, r1, q1⟩ => ?_) hs rfl))
  obtain ⟨j, e, q1, q2, q⟩ := q1
  subst e
  cases r1 with
  | cons r rr =>
    cases rr
    obtain ⟨t, rfl⟩ := r
    exact call_range_1 (range_it I1 (by omega) (by omega) q1 q2 (by simpa using q))
theorem pi_range2 {a b : Expr} {ta : TA} {p pos : Pos} (hg : Gl X "range") (hm : X.mg "range" = none) (ha : PA X [a, b] ta) (hs : starEach [a, b] X.env = [(false, eval a X.env), (false, eval b X.env)] := by rfl) (hs2 : starEach [b] X.env = [(false, eval b X.env)] := by rfl) :
    PI X tg (.Call (.Name "range" p) [a, b] [] pos) (iRng2 ta) := by
  intro pins s σ H R I h
  refine Call_ (ld_blt I hg hm boot_range (PyProof.Rows.callWith_type1 (thn (ha pos pins s σ H _ I h) fun us s1 ⟨vs, H1, I1, r1, q1⟩ => ?_) (by rw [hs, hs2]) (by rw [hs2]; rfl)))
  obtain ⟨i, j, e, ⟨q1, q2, q3, q4⟩, q⟩ := q1
  subst e
  cases r1 with
  | cons r rr =>
    cases rr with
    | cons r' rr =>
      cases rr
      obtain ⟨t, rfl⟩ := r
      obtain ⟨t', rfl⟩ := r'
      exact call_range_2 (range_it I1 q1 q2 q3 q4 q)

/-! ### for -/
/-- W: the invariant by the turn and a measure; N: what the body is to reach -/
def tFor (wi : TI) (g : TG) (tb : TS) : TS := fun D σ H => wi σ H fun J H1 => ∃ W : Nat → Nat → St → Hp → Prop, (∃ m, W 0 m σ H1) ∧ ∀ i m σ H, W i m σ H →
  (J.stop i H ∧ D.nx σ H) ∨ (J.go i H ∧ ∃ N : St → Hp → Prop, (∀ σ' H', N σ' H' → ∃ m', m' < m ∧ W (i + 1) m' σ' H') ∧ ∀ x H', J.yld i H x H' → g x σ H' fun σ2 H2 => tb { D with nx := N, ct := N, bk := D.nx } σ2 H2)
/-- the records at fp as they stand -/
def pinsAt (fp : List Addr) (h : Heap) : List (Addr × Obj) := fp.filterMap fun b => (h.get? b).map fun o => (b, o)
theorem mem_pinsAt {fp : List Addr} {h : Heap} {b : Addr} {o : Obj} (hb : b ∈ fp) (e : h.get? b = some o) : (b, o) ∈ pinsAt fp h := List.mem_filterMap.mpr ⟨b, hb, by rw [e]; rfl⟩
theorem of_pinsAt {fp : List Addr} {h : Heap} {p : Addr × Obj} (hp : p ∈ pinsAt fp h) : p.1 ∈ fp ∧ h.get? p.1 = some p.2 := by
  obtain ⟨b, hb, e⟩ := List.mem_filterMap.mp hp
  cases q : h.get? b with
  | none => rw [q] at e; cases e
  | some o =>
    rw [q] at e
    have e' : (b, o) = p := Option.some.inj e
    subst e'
    exact ⟨hb, q⟩
theorem Inv.pinned {pins : List (Addr × Obj)} {σ : St} {H : Hp} {s : Shared} {fp : List Addr} (I : Inv X pins σ H s) (hf : ∀ b ∈ fp, FpOk X pins H b) (ho : ∀ b ∈ fp, ∃ o, s.heap.get? b = some o ∧ ∀ v, o.data ≠ .cell v) : Inv X (pins ++ pinsAt fp s.heap) σ H s :=
  I.pins_of fun p hp => (List.mem_append.mp hp).elim (fun z => I.pin p (List.mem_append_right _ z)) fun z => by
    obtain ⟨hb, e⟩ := of_pinsAt z
    obtain ⟨f0, f1, f2, _⟩ := hf p.1 hb
    obtain ⟨o, e', d⟩ := ho p.1 hb
    rw [e] at e'; cases e'
    exact ⟨e, f0, f1, f2, d⟩
theorem Inv.unpinned {pins pl : List (Addr × Obj)} {σ : St} {H : Hp} {s : Shared} (I : Inv X (pins ++ pl) σ H s) : Inv X pins σ H s := I.pins_of fun p hp => I.pin p (List.mem_append_right _ (List.mem_append_left _ hp))
theorem ps_for {iter : Expr} {body : List Stmt} {wi : TI} {g : TG} {tb : TS} {pos : Pos} (hp : PassesOwn (model X.prog X.w) X.A X.env X.xe) (hc : X.calm = true) (hi : PI X tg iter wi) (hg : PG X tg g) (hb : PSs X body tb)
    (hs : ∀ x, foldedSetIterable iter X.env x = pure x := by intro _; rfl) : PS X (.For tg iter body [] pos) (tFor wi g tb) := by
  intro pins s σ H D I h
  refine wpAny_For (thn (hi pins s σ H _ I h) fun v s1 h1 => thn h1 fun itv s2 h2 => ?_) hs
  obtain ⟨it, fp, tn, J, H2, e, I2, T, st2, f2, W, ⟨m0, w0⟩, turn⟩ := h2
  subst e
  -- what stays true of the iterator's objects through the loop
  have stat : ∀ {H' : Hp}, (∀ b ∈ fp, H' b = none) → ∀ b ∈ fp, FpOk X pins H' b := fun hn b hb => ⟨hn b hb, (f2 b hb).2⟩
  refine codeAny_forLoop_any (fun n s' => ∃ i σ' H', Inv X pins σ' H' s' ∧ tn i s'.heap ∧ (∀ b ∈ fp, H' b = none) ∧ W i n σ' H') ?_ m0 ⟨0, σ, H2, I2, st2, fun b hb => (f2 b hb).1, w0⟩
  rintro n s3 ⟨i, σ3, H3, I3, st3, fr3, w3⟩
  rcases turn i n σ3 H3 w3 with ⟨stop, qn⟩ | ⟨go, N, hN, step⟩
  · refine wpAny_passesOwn hp (thn (T.done X rfl rfl rfl hc i pins s3 σ3 H3 X.xe I3 (stat fr3) st3 stop) fun r s4 ⟨hr, I4⟩ => ?_)
    subst hr
    exact wpAny_execs_nil ⟨σ3, H3, I4, qn⟩
  · refine wpAny_passesOwn hp (thn (T.item X rfl rfl rfl hc i pins s3 σ3 H3 X.xe I3 (stat fr3) st3 go) fun r s4 ⟨u, hr, h4⟩ => ?_)
    subst hr
    refine wpAny_passesOwn hp (thn h4 fun _ s5 ⟨x, H5, I5, r5, y5, st5, fr5⟩ => ?_)
    have I5' := I5.pinned (stat fr5) (T.obj _ _ st5)
    refine wpAny_passesOwn hp (thn (hg _ s5 σ3 H5 x u _ I5' r5 (step x H5 y5)) fun _ s6 ⟨σ6, H6, I6, q6⟩ => ?_)
    refine wpAny_passesOwn hp (thn (hb _ s6 σ6 H6 _ I6 q6) fun f s7 q7 => ?_)
    have again : ∀ {σ7 : St} {H7 : Hp}, Inv X (pins ++ pinsAt fp s5.heap) σ7 H7 s7 → N σ7 H7 → ∃ m, m < n ∧ ∃ i σ' H', Inv X pins σ' H' s7 ∧ tn i s7.heap ∧ (∀ b ∈ fp, H' b = none) ∧ W i m σ' H' := fun {σ7 H7} I7 n7 => by
      obtain ⟨m', hm, w7⟩ := hN σ7 H7 n7
      refine ⟨m', hm, i + 1, σ7, H7, I7.unpinned, T.keep _ _ _ st5 fun b hb o e => (I7.pin (b, o) (List.mem_append_right _ (List.mem_append_right _ (mem_pinsAt hb e)))).1, fun b hb => ?_, w7⟩
      obtain ⟨o, e, d⟩ := T.obj _ _ st5 b hb
      exact (I7.pin (b, o) (List.mem_append_right _ (List.mem_append_right _ (mem_pinsAt hb e)))).2.1
    cases f with
    | next => obtain ⟨σ7, H7, I7, n7⟩ := q7; exact again I7 n7
    | cont => obtain ⟨σ7, H7, I7, n7⟩ := q7; exact again I7 n7
    | brk => obtain ⟨σ7, H7, I7, q7⟩ := q7; exact ⟨σ7, H7, I7.unpinned, q7⟩
    | ret v => obtain ⟨x7, σ7, H7, I7, r7, q7⟩ := q7; exact ⟨x7, σ7, H7, I7.unpinned, r7, q7⟩
end

/-! ### the forms one uses -/
/-- over a list that the body leaves as it is -/
theorem for_list {K : PySem.W.Frag} {a : Addr} {xs : List V} {g : TG} {tb : TS} {D : Ends} {σ : St} {H : Hp} (Pv : Nat → St → Hp → Prop) (h0 : Pv 0 σ H) (hl : ∀ i σ H, i ≤ xs.length → Pv i σ H → SqL K H a xs)
    (hs : ∀ i x σ H, xs[i]? = some x → Pv i σ H → g x σ H fun σ2 H2 => tb { D with nx := Pv (i + 1), ct := Pv (i + 1), bk := D.nx } σ2 H2) (hd : ∀ σ H, Pv xs.length σ H → D.nx σ H) :
    ∃ W : Nat → Nat → St → Hp → Prop, (∃ m, W 0 m σ H) ∧ ∀ i m σ H, W i m σ H →
      ((Itl K a).stop i H ∧ D.nx σ H) ∨ ((Itl K a).go i H ∧ ∃ N : St → Hp → Prop, (∀ σ' H', N σ' H' → ∃ m', m' < m ∧ W (i + 1) m' σ' H') ∧ ∀ x H', (Itl K a).yld i H x H' → g x σ H' fun σ2 H2 => tb { D with nx := N, ct := N, bk := D.nx } σ2 H2) := by
  refine ⟨fun i m σ H => m = xs.length - i ∧ i ≤ xs.length ∧ Pv i σ H, ⟨xs.length, by simp, Nat.zero_le _, h0⟩, ?_⟩
  rintro i m σ H ⟨rfl, hi, p⟩
  have q := hl i σ H hi p
  by_cases hlt : i < xs.length
  · refine .inr ⟨⟨xs, xs[i], q, by simp [hlt]⟩, Pv (i + 1), fun σ' H' p' => ⟨xs.length - (i + 1), by omega, rfl, hlt, p'⟩, fun x H' y => ?_⟩
    obtain ⟨e, y⟩ := y
    subst e
    exact hs i x σ _ (y xs q) p
  · have e : i = xs.length := by omega
    subst e
    exact .inl ⟨⟨xs, q, Nat.le_refl _⟩, hd σ H p⟩
theorem for_tup {K : PySem.W.Frag} {a : Addr} {xs : List V} {g : TG} {tb : TS} {D : Ends} {σ : St} {H : Hp} (Pv : Nat → St → Hp → Prop) (h0 : Pv 0 σ H) (hl : ∀ i σ H, i ≤ xs.length → Pv i σ H → SqT K H a xs)
    (hs : ∀ i x σ H, xs[i]? = some x → Pv i σ H → g x σ H fun σ2 H2 => tb { D with nx := Pv (i + 1), ct := Pv (i + 1), bk := D.nx } σ2 H2) (hd : ∀ σ H, Pv xs.length σ H → D.nx σ H) :
    ∃ W : Nat → Nat → St → Hp → Prop, (∃ m, W 0 m σ H) ∧ ∀ i m σ H, W i m σ H →
      ((Itt K a).stop i H ∧ D.nx σ H) ∨ ((Itt K a).go i H ∧ ∃ N : St → Hp → Prop, (∀ σ' H', N σ' H' → ∃ m', m' < m ∧ W (i + 1) m' σ' H') ∧ ∀ x H', (Itt K a).yld i H x H' → g x σ H' fun σ2 H2 => tb { D with nx := N, ct := N, bk := D.nx } σ2 H2) := by
  refine ⟨fun i m σ H => m = xs.length - i ∧ i ≤ xs.length ∧ Pv i σ H, ⟨xs.length, by simp, Nat.zero_le _, h0⟩, ?_⟩
  rintro i m σ H ⟨rfl, hi, p⟩
  have q := hl i σ H hi p
  by_cases hlt : i < xs.length
  · refine .inr ⟨⟨xs, xs[i], q, by simp [hlt]⟩, Pv (i + 1), fun σ' H' p' => ⟨xs.length - (i + 1), by omega, rfl, hlt, p'⟩, fun x H' y => ?_⟩
    obtain ⟨e, y⟩ := y
    subst e
    exact hs i x σ _ (y xs q) p
  · have e : i = xs.length := by omega
    subst e
    exact .inl ⟨⟨xs, q, Nat.le_refl _⟩, hd σ H p⟩
theorem for_range {lo : Int} {n : Nat} {g : TG} {tb : TS} {D : Ends} {σ : St} {H : Hp} (Pv : Nat → St → Hp → Prop) (h0 : Pv 0 σ H)
    (hs : ∀ i σ H, i < n → Pv i σ H → g (.int (lo + i)) σ H fun σ2 H2 => tb { D with nx := Pv (i + 1), ct := Pv (i + 1), bk := D.nx } σ2 H2) (hd : ∀ σ H, Pv n σ H → D.nx σ H) :
    ∃ W : Nat → Nat → St → Hp → Prop, (∃ m, W 0 m σ H) ∧ ∀ i m σ H, W i m σ H →
      ((Itr lo n).stop i H ∧ D.nx σ H) ∨ ((Itr lo n).go i H ∧ ∃ N : St → Hp → Prop, (∀ σ' H', N σ' H' → ∃ m', m' < m ∧ W (i + 1) m' σ' H') ∧ ∀ x H', (Itr lo n).yld i H x H' → g x σ H' fun σ2 H2 => tb { D with nx := N, ct := N, bk := D.nx } σ2 H2) := by
  refine ⟨fun i m σ H => m = n - i ∧ i ≤ n ∧ Pv i σ H, ⟨n, by simp, Nat.zero_le _, h0⟩, ?_⟩
  rintro i m σ H ⟨rfl, hi, p⟩
  by_cases hlt : i < n
  · refine .inr ⟨hlt, Pv (i + 1), fun σ' H' p' => ⟨n - (i + 1), by omega, rfl, hlt, p'⟩, fun x H' y => ?_⟩
    obtain ⟨e, y⟩ := y
    subst e y
    exact hs i σ _ hlt p
  · have e : i = n := by omega
    subst e
    exact .inl ⟨Nat.le_refl _, hd σ H p⟩
/-- while, by a word and a measure of the state -/
theorem while_by {c : TT} {tb : TS} {D : Ends} {σ : St} {H : Hp} (Pv : St → Hp → Prop) (μ : St → Hp → Nat) (h0 : Pv σ H)
    (hs : ∀ σ H, Pv σ H → c σ H fun b H1 => if b = true then tb { D with nx := fun σ' H' => Pv σ' H' ∧ μ σ' H' < μ σ H, ct := fun σ' H' => Pv σ' H' ∧ μ σ' H' < μ σ H, bk := D.nx } σ H1 else D.nx σ H1)
    (mono : ∀ σ H Q Q', (∀ b H1, Q b H1 → Q' b H1) → c σ H Q → c σ H Q') : tWhile c tb D σ H := by
  refine ⟨fun m σ H => m = μ σ H ∧ Pv σ H, ⟨_, rfl, h0⟩, ?_⟩
  rintro m σ H ⟨rfl, p⟩
  refine mono σ H _ _ (fun b H1 q => ?_) (hs σ H p)
  cases b with
  | true => exact ⟨_, fun σ' H' ⟨p', l⟩ => ⟨_, l, rfl, p'⟩, q⟩
  | false => exact q
end L2

namespace L2
open PySem PySem.Spec PyProof.Rows

abbrev R2 := V → V → Hp → VK → Prop
/-- a two-place operation on values: f is binaryOp op, inplaceOp op or compareOp op -/
def OpR (X : Cx) (f : Value → Value → Sem Value) (r : R2) : Prop :=
  ∀ (pins : List (Addr × Obj)) (s : Shared) (σ : St) (H : Hp) (x y : V) (v u : Value) (Q : VK), Inv X pins σ H s → RelV x v → RelV y u → r x y H Q →
    wpAny (model X.prog X.w) X.A (f v u) (EP X pins σ Q) X.xe s
/-- a one-place operation -/
def UnR (X : Cx) (f : Value → Sem Value) (r : V → Hp → VK → Prop) : Prop :=
  ∀ (pins : List (Addr × Obj)) (s : Shared) (σ : St) (H : Hp) (x : V) (v : Value) (Q : VK), Inv X pins σ H s → RelV x v → r x H Q →
    wpAny (model X.prog X.w) X.A (f v) (EP X pins σ Q) X.xe s
/-- a call of a value that is known (a builtin, a type) with values -/
def CallR (X : Cx) (f : Value) (r : List V → Hp → VK → Prop) : Prop :=
  ∀ (pins : List (Addr × Obj)) (s : Shared) (σ : St) (H : Hp) (xs : List V) (us : List Value) (Q : VK), Inv X pins σ H s → Vals xs us → r xs H Q →
    wpAny (model X.prog X.w) X.A (call f us) (EP X pins σ Q) X.xe s
/-- a value's truth -/
def TruR (X : Cx) (r : V → Hp → (Bool → Hp → Prop) → Prop) : Prop :=
  ∀ (pins : List (Addr × Obj)) (s : Shared) (σ : St) (H : Hp) (x : V) (v : Value) (Q : Bool → Hp → Prop), Inv X pins σ H s → RelV x v → r x H Q →
    wpAny (model X.prog X.w) X.A (truthy v) (TP X pins σ Q) X.xe s

def tOp (r : R2) (ta tb : TE) : TE := fun σ H Q => ta σ H fun x H1 => tb σ H1 fun y H2 => r x y H2 Q
def tUn (r : V → Hp → VK → Prop) (ta : TE) : TE := fun σ H Q => ta σ H fun x H1 => r x H1 Q
/-- ints in, under C, and a value out -/
def rI (C : Int → Int → Prop) (g : Int → Int → V) : R2 := fun x y H Q => ∃ i j, x = .int i ∧ y = .int j ∧ C i j ∧ Q (g i j) H
def rI0 (g : Int → Int → V) : R2 := fun x y H Q => ∃ i j, x = .int i ∧ y = .int j ∧ Q (g i j) H
def rU (g : Int → V) : V → Hp → VK → Prop := fun x H Q => ∃ i, x = .int i ∧ Q (g i) H

section
variable {X : Cx} {a b c : Expr} {ta tb tc : TE} {pos : Pos}

theorem binT (ha : PE X a ta) (hb : PE X b tb) {pins : List (Addr × Obj)} {s : Shared} {σ : St} {H : Hp} {R : V → V → Hp → Prop} (I : Inv X pins σ H s)
    (h : ta σ H fun x H1 => tb σ H1 fun y H2 => R x y H2) {Q : Value → Shared → Prop} {f : Value → Value → Sem Value}
    (hf : ∀ v u s2 x y H2, Inv X pins σ H2 s2 → RelV x v → RelV y u → R x y H2 → wpAny (model X.prog X.w) X.A (f v u) Q X.xe s2) :
    wpAny (model X.prog X.w) X.A (eval a X.env) (fun v s₁ => wpAny (model X.prog X.w) X.A (eval b X.env) (fun u s₂ => wpAny (model X.prog X.w) X.A (f v u) Q X.xe s₂) X.xe s₁) X.xe s := by
  refine thn (ha pins s σ H _ I h) fun v s1 ⟨x, H1, I1, r1, q1⟩ => ?_
  refine thn (hb pins s1 σ H1 _ I1 q1) fun u s2 ⟨y, H2, I2, r2, q2⟩ => ?_
  exact hf v u s2 x y H2 I2 r1 r2 q2

theorem pe_op {op : Operator} {r : R2} (ho : OpR X (binaryOp op) r) (ha : PE X a ta) (hb : PE X b tb) : PE X (.BinOp a op b pos) (tOp r ta tb) := by
  intro pins s σ H Q I h
  exact wpAny_BinOp (binT ha hb I h fun v u s2 x y H2 I2 rx ry q => ho pins s2 σ H2 x y v u Q I2 rx ry q)
theorem pe_un {op : UnaryOp} {r : V → Hp → VK → Prop} (ho : UnR X (unaryOp op) r) (ha : PE X a ta) : PE X (.UnaryOp op a pos) (tUn r ta) := by
  intro pins s σ H Q I h
  exact UnaryOp_ (thn (ha pins s σ H _ I h) fun v s1 ⟨x, H1, I1, r1, q1⟩ => ho pins s1 σ H1 x v Q I1 r1 q1)
/-- a op= e at a name: the name's slot i -/
theorem augR {op : Operator} {r : R2} (ho : OpR X (inplaceOp op) r) {pins : List (Addr × Obj)} {s : Shared} {σ : St} {H : Hp} {x y : V} {v u : Value} {Q : VK} (I : Inv X pins σ H s)
    (rx : RelV x v) (ry : RelV y u) (q : r x y H Q) : wpAny (model X.prog X.w) X.A (inplaceOp op v u) (EP X pins σ Q) X.xe s := ho pins s σ H x y v u Q I rx ry q

/-! ### ints -/
theorem opI {f : Value → Value → Sem Value} {C : Int → Int → Prop} {g : Int → Int → Int}
    (rule : ∀ (i j : Int) (t u : Tok) (s : Shared) (Q : Value → Shared → Prop) (E : Value → Shared → Prop), C i j → Q (.int (g i j) s.toks) { s with toks := s.toks + 1 } → wpAny (model X.prog X.w) X.A (f (.int i t) (.int j u)) Q E s) :
    OpR X f (rI C fun i j => .int (g i j)) := by
  intro pins s σ H x y v u Q I rx ry h
  obtain ⟨i, j, rfl, rfl, hc, q⟩ := h
  obtain ⟨t, rfl⟩ := rx
  obtain ⟨t', rfl⟩ := ry
  exact rule i j t t' s _ _ hc ⟨.int (g i j), H, I.tok _, ⟨_, rfl⟩, q⟩
theorem opI0 {f : Value → Value → Sem Value} {g : Int → Int → Int}
    (rule : ∀ (i j : Int) (t u : Tok) (s : Shared) (Q : Value → Shared → Prop) (E : Value → Shared → Prop), Q (.int (g i j) s.toks) { s with toks := s.toks + 1 } → wpAny (model X.prog X.w) X.A (f (.int i t) (.int j u)) Q E s) :
    OpR X f (rI0 fun i j => .int (g i j)) := by
  intro pins s σ H x y v u Q I rx ry h
  obtain ⟨i, j, rfl, rfl, q⟩ := h
  obtain ⟨t, rfl⟩ := rx
  obtain ⟨t', rfl⟩ := ry
  exact rule i j t t' s _ _ ⟨.int (g i j), H, I.tok _, ⟨_, rfl⟩, q⟩
theorem opB0 {f : Value → Value → Sem Value} {g : Int → Int → Bool}
    (rule : ∀ (i j : Int) (t u : Tok) (s : Shared) (Q : Value → Shared → Prop) (E : Value → Shared → Prop), Q (.bool (g i j)) s → wpAny (model X.prog X.w) X.A (f (.int i t) (.int j u)) Q E s) :
    OpR X f (rI0 fun i j => .bl (g i j)) := by
  intro pins s σ H x y v u Q I rx ry h
  obtain ⟨i, j, rfl, rfl, q⟩ := h
  obtain ⟨t, rfl⟩ := rx
  obtain ⟨t', rfl⟩ := ry
  exact rule i j t t' s _ _ ⟨.bl (g i j), H, I, rfl, q⟩

def CDiv (i j : Int) : Prop := 0 < j ∧ j < 1073741824
def CDivN (i j : Int) : Prop := j ≠ 0 ∧ j.natAbs < 1073741824
def CPow (i j : Int) : Prop := 0 ≤ j ∧ j ≤ 1000000 ∧ i.natAbs < 2 ^ 64
def CMul (i j : Int) : Prop := (-(2 ^ 64) < i ∧ i < 2 ^ 64) ∨ (-(2 ^ 64) < j ∧ j < 2 ^ 64)
theorem CMul.ok {i j : Int} (h : CMul i j) : IntMulOk i j := by
  rcases h with ⟨h1, h2⟩ | ⟨h1, h2⟩
  · exact .of_left (intBits_le_64 h1 h2)
  · exact .of_right (intBits_le_64 h1 h2)
theorem two_pow_nn (k : Nat) : (0 : Int) ≤ 2 ^ k := by
  rw [two_pow_cast]
  exact Int.natCast_nonneg _

theorem op_add : OpR X (binaryOp .Add) (rI0 fun i j => .int (i + j)) := opI0 fun _ _ _ _ _ _ _ q => add_int q
theorem op_sub : OpR X (binaryOp .Sub) (rI0 fun i j => .int (i - j)) := opI0 fun _ _ _ _ _ _ _ q => sub_int q
theorem op_mul : OpR X (binaryOp .Mult) (rI CMul fun i j => .int (i * j)) := opI fun _ _ _ _ _ _ _ hc q => mul_int q hc.ok
/-- // by a positive divisor -/
theorem op_fdiv : OpR X (binaryOp .FloorDiv) (rI CDiv fun i j => .int (i / j)) := opI fun i j _ _ _ _ _ hc q => by
  have h1 : (0 : Int) < j := hc.1
  have h2 : j < 1073741824 := hc.2
  exact floordiv_int (by omega) (by rw [Int.fdiv_eq_ediv_of_nonneg i (by omega)]; exact q) (.inl (PyProof.noPylong_small (by omega)))
theorem op_fdivN : OpR X (binaryOp .FloorDiv) (rI CDivN fun i j => .int (i.fdiv j)) := opI fun _ _ _ _ _ _ _ hc q => floordiv_int hc.1 q (.inl (PyProof.noPylong_small hc.2))
/-- % by a positive divisor of any size -/
theorem op_mod : OpR X (binaryOp .Mod) (rI (fun _ j => 0 < j) fun i j => .int (i % j)) := opI fun i j _ _ _ _ _ hc q => by
  have h1 : (0 : Int) < j := hc
  exact mod_int' (by omega) (by rw [Int.fmod_eq_emod_of_nonneg i (by omega)]; exact q)
theorem op_modN : OpR X (binaryOp .Mod) (rI (fun _ j => j ≠ 0) fun i j => .int (i.fmod j)) := opI fun _ _ _ _ _ _ _ hc q => mod_int' hc q
theorem op_pow : OpR X (binaryOp .Pow) (rI CPow fun i j => .int (i ^ j.toNat)) := opI fun _ _ _ _ _ _ _ hc q => pow_int_small hc.1 hc.2.1 hc.2.2 q
theorem op_shl : OpR X (binaryOp .LShift) (rI CPow fun i j => .int (i * 2 ^ j.toNat)) := opI fun _ _ _ _ _ _ _ hc q => lshift_int_small hc.1 hc.2.1 hc.2.2 q
theorem op_shr : OpR X (binaryOp .RShift) (rI (fun _ j => 0 ≤ j) fun i j => .int (i / 2 ^ j.toNat)) := opI fun i j _ _ _ _ _ hc q =>
  rshift_int hc (by rw [Int.fdiv_eq_ediv_of_nonneg i (two_pow_nn _)]; exact q)
theorem op_and : OpR X (binaryOp .BitAnd) (rI0 fun i j => .int (Builtin.bitAnd i j)) := opI0 fun _ _ _ _ _ _ _ q => and_int q
theorem op_or : OpR X (binaryOp .BitOr) (rI0 fun i j => .int (Builtin.bitOr i j)) := opI0 fun _ _ _ _ _ _ _ q => or_int q
theorem op_xor : OpR X (binaryOp .BitXor) (rI0 fun i j => .int (Builtin.bitXor i j)) := opI0 fun _ _ _ _ _ _ _ q => xor_int q

theorem iop_add : OpR X (inplaceOp .Add) (rI0 fun i j => .int (i + j)) := opI0 fun _ _ _ _ _ _ _ q => iadd_int q
theorem iop_sub : OpR X (inplaceOp .Sub) (rI0 fun i j => .int (i - j)) := opI0 fun _ _ _ _ _ _ _ q => isub_int q
theorem iop_mul : OpR X (inplaceOp .Mult) (rI CMul fun i j => .int (i * j)) := opI fun _ _ _ _ _ _ _ hc q => imul_int q hc.ok
theorem iop_fdiv : OpR X (inplaceOp .FloorDiv) (rI CDiv fun i j => .int (i / j)) := opI fun i j _ _ _ _ _ hc q => by
  have h1 : (0 : Int) < j := hc.1
  have h2 : j < 1073741824 := hc.2
  exact ifloordiv_int (by omega) (by rw [Int.fdiv_eq_ediv_of_nonneg i (by omega)]; exact q) (.inl (PyProof.noPylong_small (by omega)))
theorem iop_mod : OpR X (inplaceOp .Mod) (rI (fun _ j => 0 < j) fun i j => .int (i % j)) := opI fun i j _ _ _ _ _ hc q => by
  have h1 : (0 : Int) < j := hc
  exact imod_int (by omega) (by rw [Int.fmod_eq_emod_of_nonneg i (by omega)]; exact q)
theorem iop_shl : OpR X (inplaceOp .LShift) (rI CPow fun i j => .int (i * 2 ^ j.toNat)) := opI fun _ _ _ _ _ _ _ hc q => ilshift_int_small hc.1 hc.2.1 hc.2.2 q
theorem iop_shr : OpR X (inplaceOp .RShift) (rI (fun _ j => 0 ≤ j) fun i j => .int (i / 2 ^ j.toNat)) := opI fun i j _ _ _ _ _ hc q =>
  irshift_int hc (by rw [Int.fdiv_eq_ediv_of_nonneg i (two_pow_nn _)]; exact q)
theorem iop_and : OpR X (inplaceOp .BitAnd) (rI0 fun i j => .int (Builtin.bitAnd i j)) := opI0 fun _ _ _ _ _ _ _ q => iand_int q
theorem iop_or : OpR X (inplaceOp .BitOr) (rI0 fun i j => .int (Builtin.bitOr i j)) := opI0 fun _ _ _ _ _ _ _ q => ior_int q
theorem iop_xor : OpR X (inplaceOp .BitXor) (rI0 fun i j => .int (Builtin.bitXor i j)) := opI0 fun _ _ _ _ _ _ _ q => ixor_int q

theorem unI {f : Value → Sem Value} {g : Int → Int}
    (rule : ∀ (i : Int) (t : Tok) (s : Shared) (Q : Value → Shared → Prop) (E : Value → Shared → Prop), Q (.int (g i) s.toks) { s with toks := s.toks + 1 } → wpAny (model X.prog X.w) X.A (f (.int i t)) Q E s) :
    UnR X f (rU fun i => .int (g i)) := by
  intro pins s σ H x v Q I rx h
  obtain ⟨i, rfl, q⟩ := h
  obtain ⟨t, rfl⟩ := rx
  exact rule i t s _ _ ⟨.int (g i), H, I.tok _, ⟨_, rfl⟩, q⟩
theorem un_neg : UnR X (unaryOp .USub) (rU fun i => .int (-i)) := unI fun _ _ _ _ _ q => neg_int q
theorem un_inv : UnR X (unaryOp .Invert) (rU fun i => .int (Builtin.bitNot i)) := unI fun _ _ _ _ _ q => invert_int q

/-! ### bools among ints: n += (a < b) -/
theorem op_add_ib : OpR X (binaryOp .Add) (fun x y H Q => ∃ i k, x = .int i ∧ y = .bl k ∧ Q (.int (i + b2i k)) H) := by
  intro pins s σ H x y v u Q I rx ry h
  obtain ⟨i, k, rfl, rfl, q⟩ := h
  obtain ⟨t, rfl⟩ := rx
  cases ry
  exact add_int_bool ⟨.int (i + b2i k), H, I.tok _, ⟨_, rfl⟩, q⟩
end

/-! ### comparisons -/
/-- the scalars that == tells apart as data does -/
def scal : V → V → Bool
  | .non, .non => true | .non, .int _ => true | .int _, .non => true | .non, .bl _ => true | .bl _, .non => true | .non, .str _ => true | .str _, .non => true
  | .int _, .int _ => true | .bl _, .bl _ => true | .str _, .str _ => true | .byt _, .byt _ => true
  | .int _, .str _ => true | .str _, .int _ => true | .bl _, .str _ => true | .str _, .bl _ => true
  | _, _ => false
def rEq : R2 := fun x y H Q => scal x y = true ∧ Q (.bl (decide (x = y))) H
def rNe : R2 := fun x y H Q => scal x y = true ∧ Q (.bl (!decide (x = y))) H

theorem dec_int {i j : Int} : decide (V.int i = V.int j) = (i == j) := by
  rw [Bool.eq_iff_iff]
  simp
theorem dec_bl {i j : Bool} : decide (V.bl i = V.bl j) = (i == j) := by
  rw [Bool.eq_iff_iff]
  simp
theorem dec_str {i j : Str} : decide (V.str i = V.str j) = (i == j) := by
  rw [Bool.eq_iff_iff]
  simp
theorem dec_byt {i j : Array UInt8} : decide (V.byt i = V.byt j) = (i.toList == j.toList) := by
  rw [Bool.eq_iff_iff]
  cases i
  cases j
  simp

section
variable {X : Cx} {a b c : Expr} {ta tb tc : TE} {pos : Pos}
theorem fin_bl {pins : List (Addr × Obj)} {σ : St} {H : Hp} {s : Shared} {Q : VK} {k k' : Bool} (I : Inv X pins σ H s) (q : Q (.bl k) H) (e : k = k') : EP X pins σ Q (.bool k') s := by
  subst e
  exact ⟨.bl k, H, I, rfl, q⟩
theorem op_eq : OpR X (compareOp .Eq) rEq := by
  intro pins s σ H x y v u Q I rx ry h
  obtain ⟨hs, q⟩ := h
  cases x with
  | non =>
    cases rx
    cases y with
    | non => cases ry; exact PySem.EqNone.eq_none_none (fin_bl I q (by simp))
    | bl j => cases ry; exact PySem.EqNone.eq_none_bool (fin_bl I q (by simp))
    | int j => obtain ⟨t', rfl⟩ := ry; exact PySem.EqNone.eq_none_int (fin_bl I q (by simp))
    | str j => obtain ⟨t', rfl⟩ := ry; exact PySem.EqNone.eq_none_str (fin_bl I q (by simp))
    | _ => exact absurd (show false = true from hs) Bool.false_ne_true
  | bl i =>
    cases rx
    cases y with
    | non => cases ry; exact PySem.EqNone.eq_bool_none (fin_bl I q (by simp))
    | bl j => cases ry; exact eq_bool (fin_bl I q dec_bl)
    | str j => obtain ⟨t', rfl⟩ := ry; exact PySem.EqMixed.eq_bool_str (fin_bl I q (by simp))
    | _ => exact absurd (show false = true from hs) Bool.false_ne_true
  | int i =>
    obtain ⟨t, rfl⟩ := rx
    cases y with
    | non => cases ry; exact PySem.EqNone.eq_int_none (fin_bl I q (by simp))
    | int j => obtain ⟨t', rfl⟩ := ry; exact eq_int (fin_bl I q dec_int)
    | str j => obtain ⟨t', rfl⟩ := ry; exact PySem.EqMixed.eq_int_str (fin_bl I q (by simp))
    | _ => exact absurd (show false = true from hs) Bool.false_ne_true
  | str i =>
    obtain ⟨t, rfl⟩ := rx
    cases y with
    | non => cases ry; exact PySem.EqNone.eq_str_none (fin_bl I q (by simp))
    | bl j => cases ry; exact PySem.EqMixed.eq_str_bool (fin_bl I q (by simp))
    | int j => obtain ⟨t', rfl⟩ := ry; exact PySem.EqMixed.eq_str_int (fin_bl I q (by simp))
    | str j => obtain ⟨t', rfl⟩ := ry; exact eq_str (fin_bl I q dec_str)
    | _ => exact absurd (show false = true from hs) Bool.false_ne_true
  | byt i =>
    obtain ⟨t, rfl⟩ := rx
    cases y with
    | byt j => obtain ⟨t', rfl⟩ := ry; exact PySem.W.eq_bytes (fin_bl I q dec_byt)
    | _ => exact absurd (show false = true from hs) Bool.false_ne_true
  | _ => cases y <;> exact absurd (show false = true from hs) Bool.false_ne_true
theorem op_ne : OpR X (compareOp .NotEq) rNe := by
  intro pins s σ H x y v u Q I rx ry h
  obtain ⟨hs, q⟩ := h
  cases x with
  | non =>
    cases rx
    cases y with
    | non => cases ry; exact PySem.EqNone.ne_none_none (fin_bl I q (by simp))
    | bl j => cases ry; exact PySem.EqNone.ne_none_bool (fin_bl I q (by simp))
    | int j => obtain ⟨t', rfl⟩ := ry; exact PySem.EqNone.ne_none_int (fin_bl I q (by simp))
    | str j => obtain ⟨t', rfl⟩ := ry; exact PySem.EqNone.ne_none_str (fin_bl I q (by simp))
    | _ => exact absurd (show false = true from hs) Bool.false_ne_true
  | bl i =>
    cases rx
    cases y with
    | non => cases ry; exact PySem.EqNone.ne_bool_none (fin_bl I q (by simp))
    | bl j => cases ry; exact ne_bool (fin_bl I q (congrArg not dec_bl))
    | str j => obtain ⟨t', rfl⟩ := ry; exact PySem.EqMixed.ne_bool_str (fin_bl I q (by simp))
    | _ => exact absurd (show false = true from hs) Bool.false_ne_true
  | int i =>
    obtain ⟨t, rfl⟩ := rx
    cases y with
    | non => cases ry; exact PySem.EqNone.ne_int_none (fin_bl I q (by simp))
    | int j => obtain ⟨t', rfl⟩ := ry; exact ne_int (fin_bl I q (congrArg not dec_int))
    | str j => obtain ⟨t', rfl⟩ := ry; exact PySem.EqMixed.ne_int_str (fin_bl I q (by simp))
    | _ => exact absurd (show false = true from hs) Bool.false_ne_true
  | str i =>
    obtain ⟨t, rfl⟩ := rx
    cases y with
    | non => cases ry; exact PySem.EqNone.ne_str_none (fin_bl I q (by simp))
    | bl j => cases ry; exact PySem.EqMixed.ne_str_bool (fin_bl I q (by simp))
    | int j => obtain ⟨t', rfl⟩ := ry; exact PySem.EqMixed.ne_str_int (fin_bl I q (by simp))
    | str j => obtain ⟨t', rfl⟩ := ry; exact ne_str (fin_bl I q (congrArg not dec_str))
    | _ => exact absurd (show false = true from hs) Bool.false_ne_true
  | byt i =>
    obtain ⟨t, rfl⟩ := rx
    cases y with
    | byt j => obtain ⟨t', rfl⟩ := ry; exact PySem.W.ne_bytes (fin_bl I q (congrArg not dec_byt))
    | _ => exact absurd (show false = true from hs) Bool.false_ne_true
  | _ => cases y <;> exact absurd (show false = true from hs) Bool.false_ne_true

theorem op_lt : OpR X (compareOp .Lt) (rI0 fun i j => .bl (decide (i < j))) := opB0 fun _ _ _ _ _ _ _ q => lt_int q
theorem op_le : OpR X (compareOp .LtE) (rI0 fun i j => .bl (decide (i ≤ j))) := opB0 fun _ _ _ _ _ _ _ q => le_int q
theorem op_gt : OpR X (compareOp .Gt) (rI0 fun i j => .bl (decide (j < i))) := opB0 fun _ _ _ _ _ _ _ q => gt_int q
theorem op_ge : OpR X (compareOp .GtE) (rI0 fun i j => .bl (decide (j ≤ i))) := opB0 fun _ _ _ _ _ _ _ q => ge_int q
theorem op_lt_str : OpR X (compareOp .Lt) (fun x y H Q => ∃ i j, x = .str i ∧ y = .str j ∧ Q (.bl (decide (i.cps.toList < j.cps.toList))) H) := by
  intro pins s σ H x y v u Q I rx ry h
  obtain ⟨i, j, rfl, rfl, q⟩ := h
  obtain ⟨t, rfl⟩ := rx
  obtain ⟨t', rfl⟩ := ry
  exact lt_str (fin_bl I q rfl)
/-- the one string within the other -/
theorem op_in_str : OpR X (compareOp .In) (fun x y H Q => ∃ i j, x = .str i ∧ y = .str j ∧ Q (.bl (!(Builtin.Str.occurrences j i 0 j.length 1).isEmpty)) H) := by
  intro pins s σ H x y v u Q I rx ry h
  obtain ⟨i, j, rfl, rfl, q⟩ := h
  obtain ⟨t, rfl⟩ := rx
  obtain ⟨t', rfl⟩ := ry
  exact in_str (fin_bl I q rfl)

/-- is None, is not None: the right side a value none -/
theorem op_isN : OpR X (compareOp .Is) (fun x y H Q => y = .non ∧ Q (.bl (decide (x = .non))) H) := by
  intro pins s σ H x y v u Q I rx ry h
  obtain ⟨rfl, q⟩ := h
  cases ry
  refine is_none_gen (fin_bl I q ?_)
  cases x <;> first
    | (cases rx; rfl)
    | (obtain ⟨t, rfl⟩ := rx; rfl)
theorem op_notN : OpR X (compareOp .IsNot) (fun x y H Q => y = .non ∧ Q (.bl (!decide (x = .non))) H) := by
  intro pins s σ H x y v u Q I rx ry h
  obtain ⟨rfl, q⟩ := h
  cases ry
  refine isnot_none_gen (fin_bl I q ?_)
  cases x <;> first
    | (cases rx; rfl)
    | (obtain ⟨t, rfl⟩ := rx; rfl)

theorem op_notin_str : OpR X (compareOp .NotIn) (fun x y H Q => ∃ i j, x = .str i ∧ y = .str j ∧ Q (.bl (!(!(Builtin.Str.occurrences j i 0 j.length 1).isEmpty))) H) := by
  intro pins s σ H x y v u Q I rx ry h
  obtain ⟨i, j, rfl, rfl, q⟩ := h
  obtain ⟨t, rfl⟩ := rx
  obtain ⟨t', rfl⟩ := ry
  exact notIn_str (fin_bl I q rfl)
/-- is, is not of two objects that are tracked lists or instances -/
def isObj : HO → Bool
  | .lst _ => true
  | .ins _ _ _ => true
  | _ => false
theorem obj_there {pins : List (Addr × Obj)} {s : Shared} {σ : St} {H : Hp} {a : Addr} {o : HO} (I : Inv X pins σ H s) (h : H a = some o) (p : isObj o = true) : ∃ ob, s.heap.get? a = some ob ∧ ob.cls ≠ .type "tuple" := by
  cases o with
  | lst xs =>
    obtain ⟨_, its, n, _, e⟩ : xs.length ≤ sizeLine ∧ ∃ (its : List Value) (n : Nat), Vals xs its ∧ s.heap.get? a = some { cls := .type "list", data := .seq its.toArray n } := I.hok a _ h
    exact ⟨_, e, (by show Value.type "list" ≠ .type "tuple"; decide +kernel)⟩
  | ins C dx fs =>
    have x := I.hok a _ h
    obtain ⟨_, _, _, e, _⟩ := x
    exact ⟨_, e, (by show Value.ref C ≠ .type "tuple"; exact fun z => by cases z)⟩
  | _ => exact absurd (show false = true from p) Bool.false_ne_true
theorem op_is_ref : OpR X (compareOp .Is) (fun x y H Q => ∃ a b oa ob, x = .ref a ∧ y = .ref b ∧ H a = some oa ∧ isObj oa = true ∧ H b = some ob ∧ isObj ob = true ∧ Q (.bl (decide (a = b))) H) := by
  intro pins s σ H x y v u Q I rx ry h
  obtain ⟨a, b, oa, ob, rfl, rfl, ha, pa, hb, pb, q⟩ := h
  cases rx
  cases ry
  obtain ⟨o1, e1, n1⟩ := obj_there I ha pa
  obtain ⟨o2, e2, _⟩ := obj_there I hb pb
  by_cases z : a = b
  · subst z
    exact wpAny_is_ref_self (fin_bl I q (by simp))
  · exact wpAny_is_ref_other z e1 e2 n1 (fin_bl I q (by simp [z]))
theorem op_isnot_ref : OpR X (compareOp .IsNot) (fun x y H Q => ∃ a b oa ob, x = .ref a ∧ y = .ref b ∧ H a = some oa ∧ isObj oa = true ∧ H b = some ob ∧ isObj ob = true ∧ Q (.bl (!decide (a = b))) H) := by
  intro pins s σ H x y v u Q I rx ry h
  obtain ⟨a, b, oa, ob, rfl, rfl, ha, pa, hb, pb, q⟩ := h
  cases rx
  cases ry
  obtain ⟨o1, e1, n1⟩ := obj_there I ha pa
  obtain ⟨o2, e2, _⟩ := obj_there I hb pb
  by_cases z : a = b
  · subst z
    exact wpAny_isNot_ref_self (fin_bl I q (by simp))
  · exact wpAny_isNot_ref_other z e1 e2 n1 (fin_bl I q (by simp [z]))

/-- two rules for one operation: by cases -/
theorem OpR.or {f : Value → Value → Sem Value} {r r' : R2} (h : OpR X f r) (h' : OpR X f r') : OpR X f (fun x y H Q => r x y H Q ∨ r' x y H Q) := by
  intro pins s σ H x y v u Q I rx ry q
  rcases q with q | q
  · exact h pins s σ H x y v u Q I rx ry q
  · exact h' pins s σ H x y v u Q I rx ry q

theorem nomark (b : Expr) {op : CmpOp} (h : op ≠ .In := by decide) (h2 : op ≠ .NotIn := by decide) : behindInMarks op b = false := by
  have e1 : (op == CmpOp.In) = false := by cases op <;> first | rfl | exact absurd rfl h
  have e2 : (op == CmpOp.NotIn) = false := by cases op <;> first | rfl | exact absurd rfl h2
  cases b <;> simp [behindInMarks, e1, e2]
/-- a comparison as a value; hm: nomark b, or (for in, not in) by with_unfolding_all rfl -/
theorem pe_cmpR {op : CmpOp} {r : R2} (ho : OpR X (compareOp op) r) (ha : PE X a ta) (hb : PE X b tb) (hm : behindInMarks op b = false) : PE X (.Compare a [op] [b] pos) (tOp r ta tb) := by
  intro pins s σ H Q I h
  exact wpAny_Compare1 (binT ha hb I h fun v u s2 x y H2 I2 rx ry q => ho pins s2 σ H2 x y v u Q I2 rx ry q) hm
/-- a reading of a value as a test -/
def tTest (t : TE) : TT := fun σ H Q => t σ H fun x H' => ∃ k, x = .bl k ∧ Q k H'
theorem pt_cmpR {op : CmpOp} {r : R2} (ho : OpR X (compareOp op) r) (ha : PE X a ta) (hb : PE X b tb) (hm : behindInMarks op b = false) : PT X (.Compare a [op] [b] pos) (tTest (tOp r ta tb)) := by
  intro pins s σ H Q I h
  refine wpAny_isTrue_Compare1 (thn (ha pins s σ H _ I h) fun v s1 ⟨x, H1, I1, r1, q1⟩ => thn (hb pins s1 σ H1 _ I1 q1) fun u s2 ⟨y, H2, I2, r2, q2⟩ =>
    thn (ho pins s2 σ H2 x y v u _ I2 r1 r2 q2) fun c s3 ⟨z, H3, I3, r3, k, e, q3⟩ => ?_) hm
  subst e
  cases r3
  exact wpAny_truthy_bool ⟨H3, I3, q3⟩
/-- a op1 b op2 c -/
def tChain (r r' : R2) (ta tb tc : TE) : TE := fun σ H Q => ta σ H fun x H1 => tb σ H1 fun y H2 => r x y H2 fun z H3 => ∃ k, z = .bl k ∧
  (if k = true then tc σ H3 fun w' H4 => r' y w' H4 Q else Q (.bl false) H3)
theorem pe_chain {op op' : CmpOp} {r r' : R2} (ho : OpR X (compareOp op) r) (ho' : OpR X (compareOp op') r') (ha : PE X a ta) (hb : PE X b tb) (hc : PE X c tc)
    (hm : lastMarks [op, op'] [b, c] = false := by with_unfolding_all rfl) : PE X (.Compare a [op, op'] [b, c] pos) (tChain r r' ta tb tc) := by
  intro pins s σ H Q I h
  refine Compare_chain (thn (ha pins s σ H _ I h) fun v s1 ⟨x, H1, I1, r1, q1⟩ => chain_link (thn (hb pins s1 σ H1 _ I1 q1) fun u s2 ⟨y, H2, I2, r2, q2⟩ =>
    thn (ho pins s2 σ H2 x y v u _ I2 r1 r2 q2) fun d s3 ⟨z, H3, I3, r3, k, e, q3⟩ => ?_)) hm
  subst e
  cases r3
  refine wpAny_truthy_bool ?_
  cases k with
  | false => exact ite_ff ⟨.bl false, H3, I3, rfl, q3⟩
  | true => exact ite_tt (chain_last (thn (hc pins s3 σ H3 _ I3 q3) fun w' s4 ⟨z', H4, I4, r4, q4⟩ => ho' pins s4 σ H4 y z' u w' Q I4 r2 r4 q4))
theorem pt_chain {op op' : CmpOp} {r r' : R2} (ho : OpR X (compareOp op) r) (ho' : OpR X (compareOp op') r') (ha : PE X a ta) (hb : PE X b tb) (hc : PE X c tc)
    (hm : lastMarks [op, op'] [b, c] = false := by with_unfolding_all rfl) : PT X (.Compare a [op, op'] [b, c] pos) (tTest (tChain r r' ta tb tc)) := by
  intro pins s σ H Q I h
  refine isTrue_chain (thn (ha pins s σ H _ I h) fun v s1 ⟨x, H1, I1, r1, q1⟩ => test_link (thn (hb pins s1 σ H1 _ I1 q1) fun u s2 ⟨y, H2, I2, r2, q2⟩ =>
    thn (ho pins s2 σ H2 x y v u _ I2 r1 r2 q2) fun d s3 ⟨z, H3, I3, r3, k, e, q3⟩ => ?_)) hm
  subst e
  cases r3
  refine wpAny_truthy_bool ?_
  cases k with
  | false =>
    obtain ⟨k', e', q'⟩ := q3
    cases e'
    exact ite_ff ⟨H3, I3, q'⟩
  | true =>
    refine ite_tt (test_last (thn (hc pins s3 σ H3 _ I3 q3) fun w' s4 ⟨z', H4, I4, r4, q4⟩ => thn (ho' pins s4 σ H4 y z' u w' _ I4 r2 r4 q4) fun d' s5 ⟨z2, H5, I5, r5, k2, e2, q5⟩ => ?_))
    subst e2
    cases r5
    exact wpAny_truthy_bool ⟨H5, I5, q5⟩

/-! ### truth -/
/-- a value's truth by the abstract heap -/
def TruV (K : PySem.W.Frag) (x : V) (H : Hp) (k : Bool) : Prop :=
  match x with
  | .non => k = false
  | .bl b => k = b
  | .int i => k = (i != 0)
  | .str y => y.length ≤ sizeLine ∧ k = ((y.length : Int) != 0)
  | .byt y => y.size ≤ sizeLine ∧ k = ((y.size : Int) != 0)
  | .ref p => (∃ xs, SqL K H p xs ∧ k = !xs.isEmpty) ∨ (∃ xs, SqT K H p xs ∧ k = !xs.isEmpty) ∨ ∃ kvs, H p = some (.dK kvs) ∧ k = !kvs.isEmpty
  | _ => False
theorem isEmpty_kv {κ : Type} {kvs : List (κ × V)} {vs : List (κ × Value)} (r : KV kvs vs) : (!vs.isEmpty) = !kvs.isEmpty := by
  cases r <;> rfl
theorem isEmpty_of {xs : List V} {its : List Value} (r : Vals xs its) : (!its.toArray.isEmpty) = !xs.isEmpty := by
  cases r <;> simp
theorem line63 : (sizeLine : Nat) < 2 ^ 63 := by rw [sizeLine_eq]; decide
theorem tru_ok : TruR X (fun x H Q => ∃ k, TruV X.K x H k ∧ Q k H) := by
  intro pins s σ H x v Q I rx h
  obtain ⟨k, e, q⟩ := h
  have hl := line63
  have hs : sizeLine = 16777216 := sizeLine_eq
  cases x with
  | non =>
    cases rx
    have e' : k = false := e
    subst e'
    exact truthy_none ⟨H, I, q⟩
  | bl b =>
    cases rx
    have e' : k = b := e
    subst e'
    exact wpAny_truthy_bool ⟨H, I, q⟩
  | int i =>
    obtain ⟨t, rfl⟩ := rx
    have e' : k = (i != 0) := e
    subst e'
    exact PySem.P.truthy_int ⟨H, I, q⟩
  | str y =>
    obtain ⟨t, rfl⟩ := rx
    obtain ⟨hy, e'⟩ : y.length ≤ sizeLine ∧ k = ((y.length : Int) != 0) := e
    subst e'
    exact PySem.P.truthy_str (by omega) ⟨H, I.tok _, q⟩
  | byt y =>
    obtain ⟨t, rfl⟩ := rx
    obtain ⟨hy, e'⟩ : y.size ≤ sizeLine ∧ k = ((y.size : Int) != 0) := e
    subst e'
    exact PySem.W.truthy_bytes (by omega) ⟨H, I.tok _, q⟩
  | ref p =>
    cases rx
    have e' : (∃ xs, SqL X.K H p xs ∧ k = !xs.isEmpty) ∨ (∃ xs, SqT X.K H p xs ∧ k = !xs.isEmpty) ∨ ∃ kvs, H p = some (.dK kvs) ∧ k = !kvs.isEmpty := e
    rcases e' with ⟨xs, hx, e'⟩ | ⟨xs, hx, e'⟩ | ⟨kvs, hx, e'⟩
    · subst e'
      obtain ⟨its, r, pl, hz⟩ := I.list hx
      have hlen := r.length
      exact wpAny_truthy_list pl.isList (by simp only [List.size_toArray]; omega) ⟨H, I.tok _, by rw [isEmpty_of r]; exact q⟩
    · subst e'
      obtain ⟨its, r, pl, hz⟩ := I.tuple hx
      have hlen := r.length
      exact truthy_tuple pl (by simp only [List.size_toArray]; omega) ⟨H, I.tok _, by rw [isEmpty_of r]; exact q⟩
    · subst e'
      obtain ⟨hz, hS, vs, r, m⟩ : kvs.length ≤ sizeLine ∧ (p == sysModules) = false ∧ ∃ vs, KV kvs vs ∧ s.heap.DictOf (mixKind X.prog X.w) p vs := I.hok p _ hx
      have hlen : kvs.length = vs.length := Paired.length r
      exact wpAny_truthy_dict hS m (by omega) ⟨H, I.tok _, by rw [isEmpty_kv r]; exact q⟩
  | _ => exact (show False from e).elim
/-- any expression whose test is its value's truth (a name, a call, a subscript, a field ..: he by fun _ => rfl) -/
theorem pt_truth (ha : PE X a ta) (he : ∀ whole, isTrue a X.env whole = (do let v ← whole; standAt a.pos; holding [v] (truthy v))) :
    PT X a (fun σ H Q => ta σ H fun x H' => ∃ k, TruV X.K x H' k ∧ Q k H') := by
  intro pins s σ H Q I h
  exact isTrue_plain (thn (ha pins s σ H _ I h) fun v s1 ⟨x, H1, I1, r1, q1⟩ => tru_ok pins s1 σ H1 x v Q I1 r1 q1) (he _)

/-! ### strs and bytes -/
theorem pe_byt {x : List UInt8} {k : Nat} : PE X (.Constant (.bytes x) k pos) (fun _ H Q => Q (.byt x.toArray) H) := fun _ _ _ H _ I h => PySem.W.Constant_bytes ⟨.byt x.toArray, H, I.tok _, ⟨_, rfl⟩, h⟩
theorem op_add_str : OpR X (binaryOp .Add) (fun x y H Q => ∃ i j, x = .str i ∧ y = .str j ∧ i.length + j.length ≤ sizeLine ∧ Q (.str (i ++ j)) H) := by
  intro pins s σ H x y v u Q I rx ry h
  obtain ⟨i, j, rfl, rfl, hz, q⟩ := h
  obtain ⟨t, rfl⟩ := rx
  obtain ⟨t', rfl⟩ := ry
  exact add_str (fun t' tk => ⟨.str (i ++ j), H, I.tok _, ⟨_, rfl⟩, q⟩) hz
theorem iop_add_str : OpR X (inplaceOp .Add) (fun x y H Q => ∃ i j, x = .str i ∧ y = .str j ∧ i.length + j.length ≤ sizeLine ∧ Q (.str (i ++ j)) H) := by
  intro pins s σ H x y v u Q I rx ry h
  obtain ⟨i, j, rfl, rfl, hz, q⟩ := h
  obtain ⟨t, rfl⟩ := rx
  obtain ⟨t', rfl⟩ := ry
  exact iadd_str (fun t' tk => ⟨.str (i ++ j), H, I.tok _, ⟨_, rfl⟩, q⟩) hz
theorem op_add_byt : OpR X (binaryOp .Add) (fun x y H Q => ∃ i j, x = .byt i ∧ y = .byt j ∧ i.size + j.size ≤ 16777216 ∧ Q (.byt (i ++ j)) H) := by
  intro pins s σ H x y v u Q I rx ry h
  obtain ⟨i, j, rfl, rfl, hz, q⟩ := h
  obtain ⟨t, rfl⟩ := rx
  obtain ⟨t', rfl⟩ := ry
  exact PySem.W.KBy.add_bytes hz (fun t' tk => ⟨.byt (i ++ j), H, I.tok _, ⟨_, rfl⟩, q⟩)

def PlainIxT (b : Expr) : Prop := ∀ o i, subscripted b false o i = operate [o, i] (getItem o i)
/-- s[i], 0 ≤ i < len -/
theorem pe_item_str (ha : PE X a ta) (hb : PE X b tb) (hs : PlainIxT b) :
    PE X (.Subscript a b pos) (tOp (fun x y H Q => ∃ z i c, x = .str z ∧ y = .int i ∧ 0 ≤ i ∧ i < 2 ^ 63 ∧ i < z.length ∧ z.cps[i.toNat]? = some c ∧ Q (.str ⟨#[c]⟩) H) ta tb) := by
  intro pins s σ H Q I h
  refine Subscript_ (binT ha hb I h fun v u s2 x y H2 I2 rx ry q => ?_)
  obtain ⟨z, i, c, rfl, rfl, h0, h63, h1, hc, q⟩ := q
  obtain ⟨t, rfl⟩ := rx
  obtain ⟨t', rfl⟩ := ry
  have e : seqIndex? i z.length = some i.toNat := PySem.StrLaws.seqIndex_nonneg h0 h1
  exact tail_any (typeIs_str s2 z t) slot_str_getitem.lookup (getItem_str (c := c) (by
    have e1 : decide (i < -(2 ^ 63 : Int)) = false := decide_eq_false (by omega)
    have e2 : decide (i ≥ 2 ^ 63) = false := decide_eq_false (by omega)
    rw [e1, e2] <;> rfl) (by rw [e]; exact hc) ⟨.str ⟨#[c]⟩, H2, I2.tok _, ⟨_, rfl⟩, q⟩) (hs _ _)
/-- b[i], 0 ≤ i < len -/
theorem pe_item_byt (ha : PE X a ta) (hb : PE X b tb) (hs : PlainIxT b) :
    PE X (.Subscript a b pos) (tOp (fun x y H Q => ∃ (z : List UInt8) (i : Int), x = .byt z.toArray ∧ y = .int i ∧ z.length ≤ sizeLine ∧ 0 ≤ i ∧ i < z.length ∧ Q (.int ((z.getD i.toNat 0).toNat : Nat)) H) ta tb) := by
  intro pins s σ H Q I h
  refine Subscript_ (binT ha hb I h fun v u s2 x y H2 I2 rx ry q => ?_)
  obtain ⟨z, i, rfl, rfl, hz, h0, h1, q⟩ := q
  obtain ⟨t, rfl⟩ := rx
  obtain ⟨t', rfl⟩ := ry
  have hl : sizeLine = 16777216 := sizeLine_eq
  exact tail_any (PySem.W.typeIs_bytes s2 z.toArray t) PySem.W.FB.slot_bytes_getitem.lookup (PySem.W.getItem_bytes (by omega) h0 h1 ⟨.int ((z.getD i.toNat 0).toNat : Nat), H2, I2.tok _, ⟨_, rfl⟩, q⟩) (hs _ _)

/-! ### scalar builtins, by CallR -/
theorem vals1 {x : V} {us : List Value} (r : Vals [x] us) : ∃ u, us = [u] ∧ RelV x u := by
  cases r with
  | cons r1 r2 => cases r2; exact ⟨_, rfl, r1⟩
theorem vals2 {x y : V} {us : List Value} (r : Vals [x, y] us) : ∃ u w', us = [u, w'] ∧ RelV x u ∧ RelV y w' := by
  cases r with
  | cons r1 r2 =>
    cases r2 with
    | cons r3 r4 => cases r4; exact ⟨_, _, rfl, r1, r3⟩
theorem call_abs : CallR X (.builtin "abs") (fun xs H Q => ∃ i, xs = [.int i] ∧ Q (.int (if i < 0 then -i else i)) H) := by
  intro pins s σ H xs us Q I r h
  obtain ⟨i, rfl, q⟩ := h
  obtain ⟨u, rfl, t, rfl⟩ := vals1 r
  exact call_abs_int fun u tk => ⟨.int (if i < 0 then -i else i), H, I.tok _, ⟨_, rfl⟩, q⟩
theorem call_max2 (hc : X.calm = true) : CallR X (.builtin "max") (fun xs H Q => ∃ i j, xs = [.int i, .int j] ∧ Q (.int (if j > i then j else i)) H) := by
  intro pins s σ H xs us Q I r h
  obtain ⟨i, j, rfl, q⟩ := h
  obtain ⟨u, w', rfl, ⟨t, rfl⟩, ⟨t', rfl⟩⟩ := vals2 r
  refine max_two_ints (I.ok.hd hc) fun h' tk k => ⟨_, H, I.kept k, ?_, q⟩
  by_cases hj : j > i
  · rw [if_pos hj, if_pos hj]; exact ⟨_, rfl⟩
  · rw [if_neg hj, if_neg hj]; exact ⟨_, rfl⟩
theorem call_min2 (hc : X.calm = true) : CallR X (.builtin "min") (fun xs H Q => ∃ i j, xs = [.int i, .int j] ∧ Q (.int (if j < i then j else i)) H) := by
  intro pins s σ H xs us Q I r h
  obtain ⟨i, j, rfl, q⟩ := h
  obtain ⟨u, w', rfl, ⟨t, rfl⟩, ⟨t', rfl⟩⟩ := vals2 r
  refine min_two_ints (I.ok.hd hc) fun h' tk k => ⟨_, H, I.kept k, ?_, q⟩
  by_cases hj : j < i
  · rw [if_pos hj, if_pos hj]; exact ⟨_, rfl⟩
  · rw [if_neg hj, if_neg hj]; exact ⟨_, rfl⟩
theorem call_int1 : CallR X (.type "int") (fun xs H Q => (∃ i, xs = [.int i] ∧ Q (.int i) H) ∨ ∃ k, xs = [.bl k] ∧ Q (.int (if k then 1 else 0)) H) := by
  intro pins s σ H xs us Q I r h
  rcases h with ⟨i, rfl, q⟩ | ⟨k, rfl, q⟩
  · obtain ⟨u, rfl, t, rfl⟩ := vals1 r
    exact call_int_int ⟨.int i, H, I, ⟨_, rfl⟩, q⟩
  · obtain ⟨u, rfl, r1⟩ := vals1 r
    cases r1
    exact call_int_bool ⟨.int (if k then 1 else 0), H, I.tok _, ⟨_, rfl⟩, q⟩
theorem call_bool1 : CallR X (.type "bool") (fun xs H Q => (∃ i, xs = [.int i] ∧ Q (.bl (i != 0)) H) ∨ ∃ k, xs = [.bl k] ∧ Q (.bl k) H) := by
  intro pins s σ H xs us Q I r h
  rcases h with ⟨i, rfl, q⟩ | ⟨k, rfl, q⟩
  · obtain ⟨u, rfl, t, rfl⟩ := vals1 r
    exact call_bool_int ⟨.bl (i != 0), H, I, rfl, q⟩
  · obtain ⟨u, rfl, r1⟩ := vals1 r
    cases r1
    exact call_bool_bool ⟨.bl k, H, I, rfl, q⟩
theorem call_str_int : CallR X (.type "str") (fun xs H Q => ∃ i, xs = [.int i] ∧ i.natAbs.log2 < 1920 ∧ Q (.str (toString i)) H) := by
  intro pins s σ H xs us Q I r h
  obtain ⟨i, rfl, hz, q⟩ := h
  obtain ⟨u, rfl, t, rfl⟩ := vals1 r
  exact PySem.P.str_of_int hz ⟨.str _, H, I.tok _, ⟨_, rfl⟩, q⟩
theorem call_ord : CallR X (.builtin "ord") (fun xs H Q => ∃ x, xs = [.str x] ∧ x.length = 1 ∧ Q (.int (x.cps.getD 0 0 : Nat)) H) := by
  intro pins s σ H xs us Q I r h
  obtain ⟨x, rfl, hz, q⟩ := h
  obtain ⟨u, rfl, t, rfl⟩ := vals1 r
  exact ord_of_one hz ⟨.int _, H, I.tok _, ⟨_, rfl⟩, q⟩
theorem call_chr : CallR X (.builtin "chr") (fun xs H Q => ∃ i, xs = [.int i] ∧ 0 ≤ i ∧ i ≤ 1114111 ∧ Q (.str ⟨#[i.toNat]⟩) H) := by
  intro pins s σ H xs us Q I r h
  obtain ⟨i, rfl, h0, h1, q⟩ := h
  obtain ⟨u, rfl, t, rfl⟩ := vals1 r
  exact chr_of_range h0 h1 ⟨.str _, H, I.tok _, ⟨_, rfl⟩, q⟩
/-- len of a str, a bytes, a list, a tuple -/
def LenV (K : PySem.W.Frag) (x : V) (H : Hp) (n : Nat) : Prop :=
  match x with
  | .str y => y.length ≤ sizeLine ∧ n = y.length
  | .byt y => y.size ≤ sizeLine ∧ n = y.size
  | .ref p => (∃ xs, SqL K H p xs ∧ n = xs.length) ∨ ∃ xs, SqT K H p xs ∧ n = xs.length
  | _ => False
theorem call_len : CallR X (.builtin "len") (fun xs H Q => ∃ x n, xs = [x] ∧ LenV X.K x H n ∧ Q (.int n) H) := by
  intro pins s σ H xs us Q I r h
  obtain ⟨x, n, rfl, e, q⟩ := h
  obtain ⟨u, rfl, rx⟩ := vals1 r
  have hl := line63
  have hs : sizeLine = 16777216 := sizeLine_eq
  cases x with
  | str y =>
    obtain ⟨t, rfl⟩ := rx
    obtain ⟨hy, e'⟩ : y.length ≤ sizeLine ∧ n = y.length := e
    subst e'
    exact len_str (by omega) ⟨.int _, H, I.tok _, ⟨_, rfl⟩, q⟩
  | byt y =>
    obtain ⟨t, rfl⟩ := rx
    obtain ⟨hy, e'⟩ : y.size ≤ sizeLine ∧ n = y.size := e
    subst e'
    exact PySem.W.len_bytes (by omega) ⟨.int _, H, I.tok _, ⟨_, rfl⟩, q⟩
  | ref p =>
    cases rx
    have e' : (∃ xs, SqL X.K H p xs ∧ n = xs.length) ∨ ∃ xs, SqT X.K H p xs ∧ n = xs.length := e
    rcases e' with ⟨xs, hx, e'⟩ | ⟨xs, hx, e'⟩
    · subst e'
      obtain ⟨its, r', pl, hz⟩ := I.list hx
      have hlen := r'.length
      exact Calls.call_len_list pl.isList (by simp only [List.size_toArray]; omega) ⟨.int xs.length, H, I.tok _, ⟨_, by simp only [List.size_toArray]; rw [hlen]⟩, q⟩
    · subst e'
      obtain ⟨its, r', pl, hz⟩ := I.tuple hx
      have hlen := r'.length
      exact len_tuple pl (by simp only [List.size_toArray]; omega) ⟨.int xs.length, H, I.tok _, ⟨_, by simp only [List.size_toArray]; rw [hlen]⟩, q⟩
  | _ => exact (show False from e).elim
/-- divmod: a new tuple -/
theorem call_divmod : CallR X (.builtin "divmod") (fun xs H Q => ∃ i j, xs = [.int i, .int j] ∧ CDiv i j ∧ ∀ p, H p = none → Q (.ref p) (upd H p (.tup [.int (i / j), .int (i % j)]))) := by
  intro pins s σ H xs us Q I r h
  obtain ⟨i, j, rfl, ⟨h1, h2⟩, q⟩ := h
  obtain ⟨u, w', rfl, ⟨t, rfl⟩, ⟨t', rfl⟩⟩ := vals2 r
  refine divmod_int (by omega) ?_ (.inl (PyProof.noPylong_small (by omega)))
  rw [Int.fdiv_eq_ediv_of_nonneg i (by omega), Int.fmod_eq_emod_of_nonneg i (by omega)]
  have hn : H s.heap.objs.size = none := I.hok.fresh (Nat.le_refl _)
  refine ⟨.ref s.heap.objs.size, _, ?_, rfl, q _ hn⟩
  refine I.laid (fun b o e => Heap.get?_push_of_some _ e) (Nat.le_refl _) ⟨by simp only [List.length_cons, List.length_nil]; rw [sizeLine_eq]; decide, [.int (i / j) s.toks, .int (i % j) (s.toks + 1)], .cons ⟨_, rfl⟩ (.cons ⟨_, rfl⟩ .nil), ?_⟩
  exact ⟨_, Heap.get?_push_size s.heap rfl, rfl, 0, rfl⟩
end
end L2

namespace L2
open PySem PySem.Spec PyProof.Rows

/-! ### an instance, its attributes a map -/
structure ObjM (h : Heap) (x dx C : Addr) (mA : Str → Option Value) : Prop where
  obj : h.get? x = some (PySem.W.instObj C dx)
  ns : h.Ns1 dx mA
  ne : dx ≠ x

theorem lookIn_ns {h : Heap} {dx : Addr} {mA : Str → Option Value} (n : h.Ns1 dx mA) : ∃ od, h.get? dx = some od ∧ ∀ name, PySem.W.lookIn name od = some (mA name) := by
  obtain ⟨o, es, ep, ho, hd, hk, _, hm⟩ := n
  refine ⟨o, ho, fun name => ?_⟩
  have e := hm name
  unfold nsFind findBy at e
  rw [← Array.find?_toList] at e
  unfold PySem.W.lookIn
  rw [hd]
  dsimp only
  split
  · rename_i y q
    rw [q] at e
    exact congrArg some e
  · rename_i q
    rw [q] at e
    have a : es.toList.any (·.refKey) = false := by
      rw [List.any_eq_false]
      intro y hy
      obtain ⟨z, t, hkey⟩ := hk y (Array.mem_toList_iff.mp hy)
      simp [DictEntry.refKey, hkey]
    have a' : ¬ es.toList.any (·.refKey) = true := by rw [a]; exact Bool.false_ne_true
    rw [if_neg a']
    exact congrArg some e

theorem ObjM.look {h : Heap} {x dx C : Addr} {mA : Str → Option Value} (I : ObjM h x dx C mA) : ∃ od, PySem.W.InstAt h x (PySem.W.instObj C dx) C (some od) ∧ ∀ name, PySem.W.lookIn name od = some (mA name) :=
  let ⟨od, ho, hl⟩ := lookIn_ns I.ns
  ⟨od, ⟨I.obj, rfl, rfl, ho⟩, hl⟩

section
variable {prog : Program} {w : World} {A : Around} {E : Value → Shared → Prop} {s : Shared} {K : PySem.W.Frag} {x dx C f : Addr} {mA : Str → Option Value} {name : Str} {v : Value}

theorem get_map {expr : Bool} {Q : Value → Shared → Prop} (X : K.In s.heap) (I : ObjM s.heap x dx C mA) (hg : PySem.W.plainGet K C name = true) (hh : PySem.W.hasDictIn K C = true)
    (ha : PySem.W.findIn K (.ref C) name = some none) (hv : mA name = some v) (hv' : PySem.W.handedIn v = true) (h : Q v { s with toks := s.toks + 1 }) :
    wpAny (model prog w) A (getAttr (.ref x) name expr) Q E s := by
  obtain ⟨od, J, hl⟩ := I.look
  exact PySem.W.get_value X J (PySem.W.plainGet_of hg).1 (PySem.W.findObj_own hh ha rfl (by rw [hl, hv])) hv' h

theorem get_const {expr : Bool} {a : Value} {Q : Value → Shared → Prop} (X : K.In s.heap) (I : ObjM s.heap x dx C mA) (hg : PySem.W.plainGet K C name = true) (hh : PySem.W.hasDictIn K C = true)
    (ha : PySem.W.findIn K (.ref C) name = some (some a)) (hn : PySem.W.specialIn K a "__get__" = some none) (hc : PySem.W.copiedNames.contains name = false) (hv : mA name = none) (hv' : PySem.W.handedIn a = true)
    (h : Q a { s with toks := s.toks + 1 }) : wpAny (model prog w) A (getAttr (.ref x) name expr) Q E s := by
  obtain ⟨od, J, hl⟩ := I.look
  exact PySem.W.get_value X J (PySem.W.plainGet_of hg).1 (PySem.W.findObj_cls hh ha hn hv' hc (by rw [hl, hv])) hv' h

theorem get_meth {pl : Sem Bool} {Q : Value × List Value → Shared → Prop} (X : K.In s.heap) (I : ObjM s.heap x dx C mA) (hg : PySem.W.plainGet K C name = true)
    (hf : PySem.W.findIn K (.ref C) name = some (some (.ref f))) (ht : PySem.W.isFn K (.ref f) = true) (hv : mA name = none) (h : Q (.ref f, [.ref x]) s) :
    wpAny (model prog w) A (getMethod (.ref x) name pl) Q E s := by
  obtain ⟨od, J, hl⟩ := I.look
  exact PySem.W.method_fn X J (PySem.W.plainGet_of hg).1 (PySem.W.plainGet_of hg).2 hf (beq_iff_eq.mp ht) (by show (PySem.W.lookIn name od).map (·.isSome) = some false; rw [hl, hv]; rfl) h

theorem set_map {ns : List Str} {Q : Unit → Shared → Prop} (X : K.In s.heap) (I : ObjM s.heap x dx C mA)
    (hs : PySem.W.findIn K (.ref C) "__setattr__" = some (some (.builtin "object.__setattr__"))) (hp : PySem.W.plainOver K C = true) (ht : PySem.W.takerIn K C name = some none) (hh : PySem.W.hasDictIn K C = true)
    (hw : PySem.Within mA ns) (hsz : ns.length ≤ sizeLine)
    (h : ∀ h', ObjM h' x dx C (fun y => if y = name then some v else mA y) → Heap.SameBut dx s.heap h' → Q () { s with heap := h', toks := s.toks + 2 }) :
    wpAny (model prog w) A (setAttr (.ref x) name v) Q E s := by
  obtain ⟨od, J, hl⟩ := I.look
  refine PySem.W.set_plain X J hs (PySem.W.osa_open (s := { s with toks := s.toks + 1 }) (r := none) X J hp ht fun b => ?_)
  obtain ⟨cd, hc, hd'⟩ := PySem.W.any_some hh
  have hx : s.heap.get? x = some ⟨.ref C, some dx, .plain, #[]⟩ := I.obj
  refine wpAny_bind (wpAny_pure (wpAny_bind (wpAny_bind (wpAny_loadPart hx (wpAny_bind (PySem.W.Looks.here (s := { s with toks := s.toks + 1 }) (PySem.W.looks_clsIn X hc) ?_))))))
  rw [hd']
  refine wpAny_pure (a := some dx) (wpAny_bind (wpAny_pure (wpAny_bind ?_)))
  refine wpAny_nsSet1 (s := { s with toks := s.toks + 1 }) I.ns fun h' hn2 hs2 => ?_
  obtain ⟨oD, esD, epD, hoD, hdD, hcD⟩ := hn2.count (PySem.Within.cons name v hw)
  refine wpAny_bind (wpAny_lookBehind hoD (by rw [hdD]; exact pastItsLine_dict (Nat.le_trans hcD (by rw [List.length_cons]; omega))) ?_)
  exact wpAny_pure (h _ ⟨(hs2.2 _ (Ne.symm I.ne)).trans I.obj, hn2, I.ne⟩ hs2)

/-- C(..): the dict at the heap's end, the instance behind it; then its __init__ -/
theorem make_map {R : Result → Shared → Prop} {vs : List Value} {kw : List (Str × Value)} (X : K.In s.heap) (hm : PySem.W.makesIn K C = true)
    (hi : PySem.W.findIn K (.ref C) "__init__" = some (some (.ref f))) (hf : PySem.W.typeIn K (.ref f) = some (.type "function"))
    (h : codeAny (model prog w) (A.under (.builtin "type.__call__" ⟨.ref C :: vs, kw⟩)) (.call (.ref f) ⟨.ref (s.heap.objs.size + 1) :: vs, kw⟩) (PySem.W.InitBack (s.heap.objs.size + 1) R)
      { s with heap := (s.heap.push PySem.W.emptyDict).push (PySem.W.instObj C s.heap.objs.size) }) :
    codeAny (model prog w) A (.call (.ref C) ⟨vs, kw⟩) R s := by
  obtain ⟨hh, g, d, t, os⟩ := s
  exact PySem.W.make_core (PySem.W.makes_of X hm) (PySem.W.looks_findIn X hi) (fun self => PySem.W.bind_fn X self hf) (.inl rfl) h
/-- C() where there is no __init__ but object's -/
theorem make_map0 {R : Result → Shared → Prop} (X : K.In s.heap) (hm : PySem.W.makesIn K C = true)
    (hi : PySem.W.findIn K (.ref C) "__init__" = some (some (.builtin "object.__init__")))
    (hb : ∀ self, PySem.W.Looks (model prog w) s.heap (bindSpecial (.builtin "object.__init__") self) (.builtin "object.__init__", [self]))
    (h : codeAny (model prog w) (A.under (.builtin "type.__call__" ⟨[.ref C], []⟩)) (.call (.builtin "object.__init__") ⟨[.ref (s.heap.objs.size + 1)], []⟩) (PySem.W.InitBack (s.heap.objs.size + 1) R)
      { s with heap := (s.heap.push PySem.W.emptyDict).push (PySem.W.instObj C s.heap.objs.size) }) :
    codeAny (model prog w) A (.call (.ref C) ⟨[], []⟩) R s := by
  obtain ⟨hh, g, d, t, os⟩ := s
  exact PySem.W.make_core (PySem.W.makes_of X hm) (PySem.W.looks_findIn X hi) hb (.inr ⟨rfl, rfl⟩) h
end

/-! ### the attributes as a list of pairs -/
def putF (f : Str) (v : V) : List (Str × V) → List (Str × V)
  | [] => [(f, v)]
  | (g, x) :: r => if g = f then (g, v) :: r else (g, x) :: putF f v r
theorem lookup_putF (f g : Str) (v : V) : ∀ fs : List (Str × V), (putF f v fs).lookup g = if g = f then some v else fs.lookup g
  | [] => by
    show List.lookup g [(f, v)] = _
    by_cases h : g = f
    · have hb : (g == f) = true := beq_iff_eq.mpr h
      simp only [List.lookup, hb, if_pos h]
    · have hb : (g == f) = false := beq_eq_false_iff_ne.mpr h
      simp only [List.lookup, hb, if_neg h]
  | (k, x) :: r => by
    have ih := lookup_putF f g v r
    rw [show putF f v ((k, x) :: r) = (if k = f then (k, v) :: r else (k, x) :: putF f v r) from rfl]
    by_cases hk : k = f
    · rw [if_pos hk]
      by_cases h : g = k
      · have hb : (g == k) = true := beq_iff_eq.mpr h
        simp only [List.lookup, hb, if_pos (h.trans hk)]
      · have hb : (g == k) = false := beq_eq_false_iff_ne.mpr h
        simp only [List.lookup, hb, if_neg (fun e : g = f => h (e.trans hk.symm))]
    · rw [if_neg hk]
      by_cases h : g = k
      · have hb : (g == k) = true := beq_iff_eq.mpr h
        simp only [List.lookup, hb, if_neg (fun e : g = f => hk (h.symm.trans e))]
      · have hb : (g == k) = false := beq_eq_false_iff_ne.mpr h
        simp only [List.lookup, hb]
        exact ih
theorem keys_putF (f : Str) (v : V) : ∀ fs : List (Str × V), f ∈ (putF f v fs).map (·.1) ∧ ∀ g, g ∈ fs.map (·.1) → g ∈ (putF f v fs).map (·.1)
  | [] => ⟨by simp [putF], fun g h => by simp at h⟩
  | (k, x) :: r => by
    obtain ⟨i1, i2⟩ := keys_putF f v r
    rw [show putF f v ((k, x) :: r) = (if k = f then (k, v) :: r else (k, x) :: putF f v r) from rfl]
    by_cases hk : k = f
    · rw [if_pos hk]
      subst hk
      exact ⟨by simp, fun g h => by simpa using h⟩
    · rw [if_neg hk]
      refine ⟨?_, fun g h => ?_⟩
      · rw [List.map_cons]
        exact List.mem_cons_of_mem _ i1
      · rw [List.map_cons] at h ⊢
        rcases List.mem_cons.mp h with e | e
        · exact List.mem_cons.mpr (.inl e)
        · exact List.mem_cons_of_mem _ (i2 g e)
theorem length_putF (f : Str) (v : V) : ∀ fs : List (Str × V), (putF f v fs).length ≤ fs.length + 1
  | [] => by simp [putF]
  | (k, x) :: r => by
    have ih := length_putF f v r
    rw [show putF f v ((k, x) :: r) = (if k = f then (k, v) :: r else (k, x) :: putF f v r) from rfl]
    by_cases hk : k = f
    · rw [if_pos hk, List.length_cons, List.length_cons]; omega
    · rw [if_neg hk, List.length_cons, List.length_cons]; omega

theorem RelO.some_of {v : V} {o : Option Value} (r : RelO (some v) o) : ∃ u, o = some u ∧ RelV v u := by
  cases o with
  | none => exact (show False from r).elim
  | some u => exact ⟨u, rfl, r⟩
theorem RelO.none_of {o : Option Value} (r : RelO none o) : o = none := by
  cases o with
  | none => rfl
  | some u => exact (show False from r).elim
theorem handed_of {v : V} {u : Value} (r : RelV v u) : PySem.W.handedIn u = true := by
  cases v with
  | non => cases (show u = Value.none from r); rfl
  | bl b => cases (show u = Value.bool b from r); rfl
  | int i => obtain ⟨t, e⟩ := (show ∃ t, u = Value.int i t from r); cases e; rfl
  | str x => obtain ⟨t, e⟩ := (show ∃ t, u = Value.str x t from r); cases e; rfl
  | byt b => obtain ⟨t, e⟩ := (show ∃ t, u = Value.bytes b t from r); cases e; rfl
  | flt b => obtain ⟨t, e⟩ := (show ∃ t, u = Value.float b t from r); cases e; rfl
  | ref a => cases (show u = Value.ref a from r); rfl
  | ty n => cases (show u = Value.type n from r); rfl

section
variable {P : Program} {w : World} {H H' : Hp} {h h' : Heap} {a C dx : Addr} {fs fs' : List (Str × V)}
theorem ins_get (hok : HOk P w H h) (e : H a = some (.ins C dx fs)) : ∃ mA, ObjM h a dx C mA ∧ (∀ f, RelO (fs.lookup f) (mA f)) ∧ PySem.Within mA (fs.map (·.1)) ∧ fs.length ≤ 1000 ∧ H dx = some (.own a) := by
  obtain ⟨d, z, ne, ob, mA, n, r, q⟩ := (show ObjOk P w H h a (.ins C dx fs) from hok a _ e)
  exact ⟨mA, ⟨ob, n, ne⟩, r, q, z, d⟩
end

/-! ### what of the text a class must have -/
structure Cls (K : PySem.W.Frag) (C : Addr) : Prop where
  pg : PySem.W.plainGet K C Str.empty = true
  hd : PySem.W.hasDictIn K C = true
  po : PySem.W.plainOver K C = true
  sa : PySem.W.findIn K (.ref C) "__setattr__" = some (some (.builtin "object.__setattr__"))
theorem Cls.get {K : PySem.W.Frag} {C : Addr} (c : Cls K C) (f : Str) : PySem.W.plainGet K C f = true := c.pg
/-- no class of it has the name -/
def NoAttr (K : PySem.W.Frag) (C : Addr) (f : Str) : Prop := PySem.W.findIn K (.ref C) f = some none
theorem NoAttr.taker {K : PySem.W.Frag} {C : Addr} {f : Str} (n : NoAttr K C f) : PySem.W.takerIn K C f = some none := by
  unfold PySem.W.takerIn
  rw [show PySem.W.findIn K (.ref C) f = some none from n]
  rfl
/-- a constant of the class -/
structure Con (K : PySem.W.Frag) (C : Addr) (f : Str) (v : V) (u : Value) : Prop where
  at_ : PySem.W.findIn K (.ref C) f = some (some u)
  rel : RelV v u
  get : PySem.W.specialIn K u "__get__" = some none
  cp : PySem.W.copiedNames.contains f = false
/-- a method: a plain def of the class or of one above it -/
structure Meth (K : PySem.W.Frag) (C : Addr) (m : Str) (f : Addr) : Prop where
  at_ : PySem.W.findIn K (.ref C) m = some (some (.ref f))
  fn : PySem.W.isFn K (.ref f) = true
  kp : PySem.W.keepIn K (.ref f) = true

section
variable {X : Cx} {pins : List (Addr × Obj)} {σ : St} {H : Hp} {s : Shared} {a C dx : Addr} {fs : List (Str × V)} {f : Str} {v : V} {A : Around} {E : Value → Shared → Prop}

theorem getattr_ok {b : Bool} {Q : Value → Shared → Prop} (I : Inv X pins σ H s) (e : H a = some (.ins C dx fs)) (c : Cls X.K C) (n : NoAttr X.K C f) (l : fs.lookup f = some v)
    (h : ∀ u s', Inv X pins σ H s' → RelV v u → Q u s') : wpAny (model X.prog X.w) A (getAttr (.ref a) f b) Q E s := by
  obtain ⟨mA, O, r, _, _, _⟩ := ins_get I.hok e
  obtain ⟨u, hu, ru⟩ := RelO.some_of (v := v) (o := mA f) (by rw [← l]; exact r f)
  exact get_map I.kIn O (c.get f) c.hd n hu (handed_of ru) (h u _ (I.tok _) ru)

theorem getcon_ok {b : Bool} {u : Value} {Q : Value → Shared → Prop} (I : Inv X pins σ H s) (e : H a = some (.ins C dx fs)) (c : Cls X.K C) (k : Con X.K C f v u) (l : fs.lookup f = none)
    (h : ∀ s', Inv X pins σ H s' → Q u s') : wpAny (model X.prog X.w) A (getAttr (.ref a) f b) Q E s := by
  obtain ⟨mA, O, r, _, _, _⟩ := ins_get I.hok e
  have hn : mA f = none := RelO.none_of (by rw [← l]; exact r f)
  exact get_const I.kIn O (c.get f) c.hd k.at_ k.get k.cp hn (handed_of k.rel) (h _ (I.tok _))

theorem getmeth_ok {m : Str} {g : Addr} {pl : Sem Bool} {Q : Value × List Value → Shared → Prop} (I : Inv X pins σ H s) (e : H a = some (.ins C dx fs)) (c : Cls X.K C) (k : Meth X.K C m g) (l : fs.lookup m = none)
    (h : Q (.ref g, [.ref a]) s) : wpAny (model X.prog X.w) A (getMethod (.ref a) m pl) Q E s := by
  obtain ⟨mA, O, r, _, _, _⟩ := ins_get I.hok e
  have hn : mA m = none := RelO.none_of (by rw [← l]; exact r m)
  exact get_meth I.kIn O (c.get m) k.at_ k.fn hn h

theorem setattr_ok {y : V} {u : Value} {Q : Unit → Shared → Prop} (I : Inv X pins σ H s) (e : H a = some (.ins C dx fs)) (c : Cls X.K C) (n : NoAttr X.K C f) (hl : fs.length < 1000) (ry : RelV y u)
    (h : ∀ s', Inv X pins σ (upd H a (.ins C dx (putF f y fs))) s' → Q () s') : wpAny (model X.prog X.w) A (setAttr (.ref a) f u) Q E s := by
  obtain ⟨mA, O, r, wi, _, ho⟩ := ins_get I.hok e
  have hz : (fs.map (·.1)).length ≤ sizeLine := by rw [List.length_map, sizeLine_eq]; omega
  refine set_map I.kIn O c.sa c.po n.taker c.hd wi hz fun h' O' sb => h _ ?_
  have hd : ∃ o, h'.get? dx = some o := let ⟨o, _, _, e', _⟩ := O'.ns; ⟨o, e'⟩
  refine I.write (x := a) (e := dx) (by rw [e]; exact True.intro) (.inr ho) (fun b q hb z => (sb.2 b hb).trans z) hd ?_
  refine ⟨by rw [upd_ne O.ne]; exact ho, ?_, O.ne, O'.obj, _, O'.ns, fun g => ?_, fun g hg => ?_⟩
  · have := length_putF f y fs; omega
  · show RelO ((putF f y fs).lookup g) (if g = f then some u else mA g)
    rw [lookup_putF]
    by_cases q : g = f
    · rw [if_pos q, if_pos q]; exact ry
    · rw [if_neg q, if_neg q]; exact r g
  · by_cases q : g = f
    · rw [q]; exact (keys_putF f y fs).1
    · refine (keys_putF f y fs).2 g (wi g fun z => hg ?_)
      show (if g = f then some u else mA g) = none
      rw [if_neg q]; exact z

/-- a new instance, tracked, without attributes -/
theorem Inv.made (I : Inv X pins σ H s) : Inv X pins σ (upd (upd H s.heap.objs.size (.own (s.heap.objs.size + 1))) (s.heap.objs.size + 1) (.ins C s.heap.objs.size []))
    { s with heap := (s.heap.push PySem.W.emptyDict).push (PySem.W.instObj C s.heap.objs.size) } := by
  have e1 : (s.heap.push PySem.W.emptyDict).get? s.heap.objs.size = some PySem.W.emptyDict := Heap.get?_push_size s.heap rfl
  have e2 : ((s.heap.push PySem.W.emptyDict).push (PySem.W.instObj C s.heap.objs.size)).get? (s.heap.objs.size + 1) = some (PySem.W.instObj C s.heap.objs.size) := by
    have := Heap.get?_push_size (s.heap.push PySem.W.emptyDict) (o := PySem.W.instObj C s.heap.objs.size) rfl
    rwa [Heap.size_push] at this
  have e3 : (s.heap.push PySem.W.emptyDict).Ns s.heap.objs.size (fun _ => none) := ⟨PySem.W.emptyDict, #[], _, e1, rfl, (fun e he => absurd he (by simp)), fun _ => rfl⟩
  have I1 := I.laid (a := s.heap.objs.size) (o := .own (s.heap.objs.size + 1)) (h' := s.heap.push PySem.W.emptyDict) (t' := s.toks) (fun b u q => Heap.get?_push_of_some _ q) (Nat.le_refl _) ⟨_, e1⟩
  refine I1.laid (a := s.heap.objs.size + 1) (o := .ins C s.heap.objs.size []) (t' := s.toks) (fun b u q => Heap.get?_push_of_some _ q) (Nat.le_of_eq (Heap.size_push _ _)) ?_
  have ne : s.heap.objs.size ≠ s.heap.objs.size + 1 := Nat.ne_of_lt (Nat.lt_succ_self _)
  refine ⟨by rw [upd_ne ne, upd_same], Nat.zero_le _, ne, e2, fun _ => none, (Heap.Ns1.of_empty e3).at fun o q => Heap.get?_push_of_some _ q, fun _ => True.intro, fun y hy => absurd rfl hy⟩

/-- e.f where nothing but the object is asked: through attributeBase (super) and the last hold -/
theorem attr_of {prog : Program} {w : World} {env : Env} {e : Expr} {f : Str} {pos : Pos} {s : Shared} {Q : Value → Shared → Prop} (hb : attributeBase e f env (eval e env) = eval e env)
    (h : wpAny (model prog w) A (eval e env) (fun o s₁ => wpAny (model prog w) A (getAttr o f true) Q E s₁) E s) : wpAny (model prog w) A (eval (.Attribute e f pos) env) Q E s :=
  Attribute_any_ h (by rw [arm_eval_Attribute, hb])
end

/-! ### readings and rules -/
/-- e.f, an attribute of the instance -/
def tFld (K : PySem.W.Frag) (ta : TE) (f : Str) : TE := fun σ H Q => ta σ H fun x H1 => ∃ a C dx fs v, x = .ref a ∧ H1 a = some (.ins C dx fs) ∧ Cls K C ∧ NoAttr K C f ∧ fs.lookup f = some v ∧ Q v H1
/-- e.f, a constant of the class -/
def tCon (K : PySem.W.Frag) (ta : TE) (f : Str) : TE := fun σ H Q => ta σ H fun x H1 => ∃ a C dx fs v u, x = .ref a ∧ H1 a = some (.ins C dx fs) ∧ Cls K C ∧ Con K C f v u ∧ fs.lookup f = none ∧ Q v H1
/-- e.f = value -/
def sFld (K : PySem.W.Frag) (ta tv : TE) (f : Str) : TS := fun D σ H => tv σ H fun y H1 => ta σ H1 fun x H2 => ∃ a C dx fs, x = .ref a ∧ H2 a = some (.ins C dx fs) ∧ Cls K C ∧ NoAttr K C f ∧ fs.length < 1000 ∧
  D.nx σ (upd H2 a (.ins C dx (putF f y fs)))
/-- an augmented operator on two values -/
def InOp (X : Cx) (op : Operator) (rd : V → V → Hp → VK → Prop) : Prop :=
  ∀ (pins : List (Addr × Obj)) (s : Shared) (σ : St) (H : Hp) (x y : V) (u v : Value) (Q : VK), Inv X pins σ H s → RelV x u → RelV y v → rd x y H Q → wpAny (model X.prog X.w) X.A (inplaceOp op u v) (EP X pins σ Q) X.xe s
/-- e.f op= value -/
def sFldAug (K : PySem.W.Frag) (ta tv : TE) (rd : V → V → Hp → VK → Prop) (f : Str) : TS := fun D σ H => ta σ H fun x H1 => ∃ a C dx fs v, x = .ref a ∧ H1 a = some (.ins C dx fs) ∧ Cls K C ∧ NoAttr K C f ∧ fs.lookup f = some v ∧
  tv σ H1 fun y H2 => rd v y H2 fun z H3 => ∃ dx' fs', H3 a = some (.ins C dx' fs') ∧ fs'.length < 1000 ∧ D.nx σ (upd H3 a (.ins C dx' (putF f z fs')))

section
variable {X : Cx} {o e value : Expr} {f : Str} {pos pos' tpos : Pos} {ta tv : TE}
theorem pe_fld (he : PE X e ta) (hb : attributeBase e f X.env (eval e X.env) = eval e X.env) : PE X (.Attribute e f pos) (tFld X.K ta f) := by
  intro pins s σ H Q I h
  refine attr_of hb (thn (he pins s σ H _ I h) fun u s1 ⟨x, H1, I1, rx, a, C, dx, fs, v, ex, ea, c, n, l, q⟩ => ?_)
  subst ex
  obtain rfl : u = Value.ref a := rx
  exact getattr_ok I1 ea c n l fun u' s2 I2 ru => ⟨v, H1, I2, ru, q⟩
theorem pe_con (he : PE X e ta) (hb : attributeBase e f X.env (eval e X.env) = eval e X.env) : PE X (.Attribute e f pos) (tCon X.K ta f) := by
  intro pins s σ H Q I h
  refine attr_of hb (thn (he pins s σ H _ I h) fun u s1 ⟨x, H1, I1, rx, a, C, dx, fs, v, u0, ex, ea, c, k, l, q⟩ => ?_)
  subst ex
  obtain rfl : u = Value.ref a := rx
  exact getcon_ok I1 ea c k l fun s2 I2 => ⟨v, H1, I2, k.rel, q⟩
theorem ps_fld (ha : PE X o ta) (hv : PE X value tv) (hs : swapsWith value (some (.Attribute o f pos')) pos.line X.env = pure false) : PS X (.Assign [.Attribute o f pos'] value pos) (sFld X.K ta tv f) := by
  intro pins s σ H D I h
  refine plainObj_wpAny_Assign_Attribute (thn (hv pins s σ H _ I h) fun u s1 ⟨y, H1, I1, ry, q⟩ => thn (ha pins s1 σ H1 _ I1 q) fun ov s2 ⟨x, H2, I2, rx, a, C, dx, fs, ex, ea, c, n, l, q2⟩ => ?_) hs
  subst ex
  obtain rfl : ov = Value.ref a := rx
  exact setattr_ok I2 ea c n l ry fun s3 I3 => ⟨σ, _, I3, q2⟩
theorem ps_fldaug {op : Operator} {rd : V → V → Hp → VK → Prop} (ha : PE X o ta) (hv : PE X value tv) (hop : InOp X op rd) : PS X (.AugAssign (.Attribute o f tpos) op value pos) (sFldAug X.K ta tv rd f) := by
  intro pins s σ H D I h
  refine wpAny_AugAssign_AttributeAny (thn (ha pins s σ H _ I h) fun ov s1 ⟨x, H1, I1, rx, a, C, dx, fs, v, ex, ea, c, n, l, q⟩ => ?_)
  subst ex
  obtain rfl : ov = Value.ref a := rx
  refine getattr_ok I1 ea c n l fun u s2 I2 ru => thn (hv pins s2 σ H1 _ I2 q) fun w3 s3 ⟨y, H2, I3, ry, q3⟩ => thn (hop pins s3 σ H2 v y u w3 _ I3 ru ry q3) fun w4 s4 ⟨z, H3, I4, rz, dx', fs', ea', l', q4⟩ => ?_
  exact setattr_ok I4 ea' c n l' rz fun s5 I5 => ⟨σ, _, I5, q4⟩
def rAdd : V → V → Hp → VK → Prop := fun x y H Q => ∃ i j, x = .int i ∧ y = .int j ∧ Q (.int (i + j)) H
def rSub : V → V → Hp → VK → Prop := fun x y H Q => ∃ i j, x = .int i ∧ y = .int j ∧ Q (.int (i - j)) H
theorem in_add : InOp X .Add rAdd := by
  rintro pins s σ H x y u v Q I rx ry ⟨i, j, rfl, rfl, q⟩
  obtain ⟨t, rfl⟩ := (show ∃ t, u = Value.int i t from rx)
  obtain ⟨t', rfl⟩ := (show ∃ t', v = Value.int j t' from ry)
  exact PyProof.Rows.iadd_int ⟨.int (i + j), H, I.tok _, ⟨_, rfl⟩, q⟩
theorem in_sub : InOp X .Sub rSub := by
  rintro pins s σ H x y u v Q I rx ry ⟨i, j, rfl, rfl, q⟩
  obtain ⟨t, rfl⟩ := (show ∃ t, u = Value.int i t from rx)
  obtain ⟨t', rfl⟩ := (show ∃ t', v = Value.int j t' from ry)
  exact PyProof.Rows.isub_int ⟨.int (i - j), H, I.tok _, ⟨_, rfl⟩, q⟩

/-- what is between an instance and its method: the tree of a method call -/
theorem methcall_of {pl : Sem Bool} {m : Str} {apos : Pos} {args : List Expr} {pins : List (Addr × Obj)} {s : Shared} {σ : St} {H : Hp} {Q : Value → Shared → Prop} {te : TE} (he : PE X e te) (I : Inv X pins σ H s)
    (h : te σ H fun x H1 => ∃ a C dx fs g, x = .ref a ∧ H1 a = some (.ins C dx fs) ∧ Cls X.K C ∧ Meth X.K C m g ∧ fs.lookup m = none ∧
      ∀ s1, Inv X pins σ H1 s1 → wpAny (model X.prog X.w) X.A (callWith pos (.ref g) [.ref a] (backTo pos (starEach args X.env)) (backToKw pos (keywordEach [] X.env))) Q X.xe s1)
    (ht : eval (.Call (.Attribute e m apos) args [] pos) X.env = (do
      let ov ← eval e X.env
      standAt apos.atName
      let (f, first) ← holding [ov] (getMethod ov m pl)
      callWith pos f first (backTo pos (starEach args X.env)) (backToKw pos (keywordEach [] X.env)))) :
    wpAny (model X.prog X.w) X.A (eval (.Call (.Attribute e m apos) args [] pos) X.env) Q X.xe s := by
  refine PySem.W.methodCall_KW (pl := pl) (thn (he pins s σ H _ I h) fun u s1 ⟨x, H1, I1, rx, a, C, dx, fs, g, ex, ea, c, k, l, q⟩ => ?_) ht
  subst ex
  obtain rfl : u = Value.ref a := rx
  exact getmeth_ok I1 ea c k l (q s1 I1)
end

/-! ### isinstance -/
section
variable {X : Cx} {pins : List (Addr × Obj)} {σ : St} {H : Hp} {s : Shared} {A : Around} {E : Value → Shared → Prop} {Q : Value → Shared → Prop} {c : Value} {b : Bool}
/-- the type of a value, as the fragment's deciders take it; for an instance its class -/
inductive TyOf (K : PySem.W.Frag) (H : Hp) : V → Value → Prop where
  | non : TyOf K H .non (.type "NoneType")
  | bl (x : Bool) : TyOf K H (.bl x) (.type "bool")
  | int (i : Int) : TyOf K H (.int i) (.type "int")
  | str (x : Str) : TyOf K H (.str x) (.type "str")
  | flt (x : UInt64) : TyOf K H (.flt x) (.type "float")
  | lst {a : Addr} {xs : List V} (e : H a = some (.lst xs)) : TyOf K H (.ref a) (.type "list")
  | frz {a : Addr} {o : Obj} {xs : List V} (e : H a = some (.frz o (.lst xs))) : TyOf K H (.ref a) (.type "list")
  | tup {a : Addr} {xs : List V} (e : H a = some (.tup xs)) : TyOf K H (.ref a) (.type "tuple")
  | dK {a : Addr} {kvs : List (Key × V)} (e : H a = some (.dK kvs)) : TyOf K H (.ref a) (.type "dict")
  | dT {a : Addr} {kvs : List (List Key × V)} (e : H a = some (.dT kvs)) : TyOf K H (.ref a) (.type "dict")
  | ins {a C dx : Addr} {fs : List (Str × V)} (e : H a = some (.ins C dx fs)) (cl : Cls K C) (ha : PySem.W.findIn K (.ref C) "__class__" = some (some (.builtin "object.__class__")))
      (hn : PySem.W.specialIn K (.builtin "object.__class__") "__get__" = some (some (.builtin "getset_descriptor.__get__"))) (htk : PySem.W.takesIn K (.builtin "object.__class__") = some true)
      (hm : PySem.W.mroIn K C (.type "object") = some true) : TyOf K H (.ref a) (.ref C)
/-- isinstance(x, c) for one class c, a built-in or an own one: kitOne's answer -/
theorem isinst_ok {x : V} {u t : Value} (I : Inv X pins σ H s) (rx : RelV x u) (ty : TyOf X.K H x t) (e : PySem.W.kitOne X.K t c = some b) (h : ∀ tk, Q (.bool b) { s with toks := tk }) :
    wpAny (model X.prog X.w) A (call (.builtin "isinstance") [u, c]) Q E s := by
  cases ty with
  | non => cases (show u = Value.none from rx); exact PySem.W.kia_one PySem.W.kitx_none I.kIn True.intro e (fun z => nomatch z) h
  | bl y => cases (show u = Value.bool y from rx); exact PySem.W.kia_one PySem.W.kitx_bool I.kIn True.intro e (fun z => nomatch z) h
  | int i => obtain ⟨t, q⟩ := (show ∃ t, u = Value.int i t from rx); cases q; exact PySem.W.kia_one PySem.W.kitx_int I.kIn True.intro e (fun z => nomatch z) h
  | str y => obtain ⟨t, q⟩ := (show ∃ t, u = Value.str y t from rx); cases q; exact PySem.W.kia_one PySem.W.kitx_str I.kIn True.intro e (fun z => nomatch z) h
  | flt y => obtain ⟨t, q⟩ := (show ∃ t, u = Value.float y t from rx); cases q; exact PySem.W.kia_one PySem.W.kitx_float I.kIn True.intro e (fun z => nomatch z) h
  | @lst a xs ea =>
    cases (show u = Value.ref a from rx)
    obtain ⟨_, _, n, _, h1⟩ := (show ObjOk X.prog X.w H s.heap a (.lst xs) from I.hok a _ ea)
    exact PySem.W.kia_one PySem.W.kitx_list I.kIn ⟨_, h1, rfl⟩ e (fun z => nomatch z) h
  | @frz a ob xs ea =>
    cases (show u = Value.ref a from rx)
    obtain ⟨_, _, _, n, _, h1⟩ := (show ObjOk X.prog X.w H s.heap a (.frz ob (.lst xs)) from I.hok a _ ea)
    exact PySem.W.kia_one PySem.W.kitx_list I.kIn ⟨_, h1, rfl⟩ e (fun z => nomatch z) h
  | @tup a xs ea =>
    cases (show u = Value.ref a from rx)
    obtain ⟨_, _, _, p⟩ := (show ObjOk X.prog X.w H s.heap a (.tup xs) from I.hok a _ ea)
    obtain ⟨o, h1, h2, _⟩ := p
    exact PySem.W.kia_one PySem.W.kitx_tuple I.kIn ⟨o, h1, h2⟩ e (fun z => nomatch z) h
  | @dK a kvs ea =>
    cases (show u = Value.ref a from rx)
    obtain ⟨_, _, vs, _, p⟩ := (show ObjOk X.prog X.w H s.heap a (.dK kvs) from I.hok a _ ea)
    obtain ⟨o, es, ep, h1, h2, _⟩ := p
    exact PySem.W.kia_one PySem.W.kitx_dict I.kIn ⟨o, h1, h2.1⟩ e (fun z => nomatch z) h
  | @dT a kvs ea =>
    cases (show u = Value.ref a from rx)
    obtain ⟨_, _, xs, _, o, es, ep, h1, h2, _⟩ := (show ObjOk X.prog X.w H s.heap a (.dT kvs) from I.hok a _ ea)
    exact PySem.W.kia_one PySem.W.kitx_dict I.kIn ⟨o, h1, h2.1⟩ e (fun z => nomatch z) h
  | @ins a C dx fs ea cl ha hn htk hm =>
    cases (show u = Value.ref a from rx)
    obtain ⟨mA, O, _⟩ := ins_get I.hok ea
    obtain ⟨od, J, _⟩ := O.look
    exact PySem.W.kia_one (PySem.W.kitx_own (cl.get _) cl.hd ha hn htk hm) I.kIn J e (fun z => nomatch z) h
end
end L2

namespace L2
open PySem PySem.Spec PyProof.Rows

/-! ### room -/
structure Room (k : Nat) (A : Around) : Prop where
  hd : A.handled = none
  dp : A.depth + 3 * k + 5 < recursionLimit
  un : A.units + 16 * k + 200 < cLine
theorem Room.mono {j k : Nat} {A : Around} (r : Room k A) (h : j ≤ k) : Room j A := ⟨r.hd, by have := r.dp; omega, by have := r.un; omega⟩
theorem Room.deeper {k : Nat} {A : Around} (r : Room (k + 1) A) (env : Env) : Room k (A.deeper env) :=
  ⟨r.hd, by have := r.dp; show A.depth + 1 + 3 * k + 5 < _; omega, by have := r.un; show A.units + 3 + 16 * k + 200 < _; omega⟩
theorem Room.in1 {k : Nat} {A : Around} (r : Room (k + 1) A) : Room k A.in1 :=
  ⟨r.hd, by have := r.dp; show A.depth + 3 * k + 5 < _; omega, by have := r.un; show A.units + 1 + 16 * k + 200 < _; omega⟩
theorem make_depth {A : Around} {C : Addr} {us : List Value} {kw : List (Str × Value)} : (A.under (.builtin "type.__call__" ⟨.ref C :: us, kw⟩)).depth = A.depth + 1 := by
  first | rfl | simp [Around.under, Code.weight, Code.isCreation, Code.isGuard, Code.isCaller, Code.frames, Code.isFrame, guardIds]
theorem make_units {A : Around} {C : Addr} {us : List Value} {kw : List (Str × Value)} : (A.under (.builtin "type.__call__" ⟨.ref C :: us, kw⟩)).units = A.units + 1 := by
  first | rfl | simp [Around.under, Code.cUnits, Code.frames, Code.isFrame]
theorem Room.make {k : Nat} {A : Around} (r : Room (k + 1) A) (C : Addr) (us : List Value) (kw : List (Str × Value)) : Room k (A.under (.builtin "type.__call__" ⟨.ref C :: us, kw⟩)) :=
  ⟨r.hd, by have := r.dp; rw [make_depth]; omega, by have := r.un; rw [make_units]; omega⟩
theorem Room.depth {k : Nat} {A : Around} (r : Room k A) : A.depth < recursionLimit := by have := r.dp; omega
theorem Room.units {k : Nat} {A : Around} (r : Room k A) : A.units + 64 < cLine := by have := r.un; omega
theorem Room.units0 {k : Nat} {A : Around} (r : Room k A) : A.units < cLine := by have := r.un; omega

/-! ### argument lists and displays -/
def tNil : TA := fun _ H Q => Q [] H
def tCons (ta : TE) (tr : TA) : TA := fun σ H Q => ta σ H fun x H1 => tr σ H1 fun xs H2 => Q (x :: xs) H2
section
variable {X : Cx} {e : Expr} {es : List Expr} {te : TE} {t : TA} {pos : Pos}
theorem pa_nil : PA X [] tNil := fun _ _ _ _ H Q I h => Calls.spliced_nil ⟨[], H, I, .nil, h⟩
theorem pa_cons (ha : PE X e te) (hr : PA X es t) (hs : starEach (e :: es) X.env = (false, eval e X.env) :: starEach es X.env := by rfl) : PA X (e :: es) (tCons te t) := by
  intro pos pins s σ H Q I h
  rw [hs]
  show wpAny _ _ (spliced ((false, eval e X.env) :: backTo pos (starEach es X.env))) _ _ s
  refine Calls.spliced_cons (thn (ha pins s σ H _ I h) fun u s1 ⟨x, H1, I1, r1, q1⟩ => ?_)
  exact thn (hr pos pins s1 σ H1 _ I1 q1) fun us s2 ⟨xs, H2, I2, r2, q2⟩ => ⟨x :: xs, H2, I2, .cons r1 r2, q2⟩

/-- a tuple, a list of written items -/
def tTup (t : TA) : TE := fun σ H Q => t σ H fun xs H1 => xs.length ≤ sizeLine ∧ ∀ p, H1 p = none → Q (.ref p) (upd H1 p (.tup xs))
def tLst (t : TA) : TE := fun σ H Q => t σ H fun xs H1 => xs.length ≤ sizeLine ∧ ∀ p, H1 p = none → Q (.ref p) (upd H1 p (.lst xs))
theorem pe_tup {x1} (h : PA X es t) : PE X (.Tuple es x1 pos) (tTup t) := by
  intro pins s σ H Q I hq
  refine wpAny_Tuple_spliced (thn (h pos pins s σ H _ I hq) fun us s1 ⟨xs, H1, I1, r, z, q⟩ => ⟨by rw [← r.length]; exact z, ?_⟩)
  have hf : H1 s1.heap.objs.size = none := I1.hok.fresh (Nat.le_refl _)
  refine ⟨.ref s1.heap.objs.size, upd H1 s1.heap.objs.size (.tup xs), I1.laid (t' := s1.toks) (fun b u e => Heap.get?_push_of_some _ e) (Nat.le_refl _) ?_, rfl, q _ hf⟩
  exact ⟨z, us, r, ⟨_, Heap.get?_push_size _ rfl, rfl, _, rfl⟩⟩
theorem pe_lst (h : PA X es t) : PE X (.List es pos) (tLst t) := by
  intro pins s σ H Q I hq
  refine wpAny_List_spliced (thn (h pos pins s σ H _ I hq) fun us s1 ⟨xs, H1, I1, r, z, q⟩ => ⟨by rw [← r.length]; exact z, ?_⟩)
  have hf : H1 s1.heap.objs.size = none := I1.hok.fresh (Nat.le_refl _)
  refine ⟨.ref s1.heap.objs.size, upd H1 s1.heap.objs.size (.lst xs), I1.laid (t' := s1.toks) (fun b u e => Heap.get?_push_of_some _ e) (Nat.le_refl _) ?_, rfl, q _ hf⟩
  exact ⟨z, us, 0, r, Heap.get?_push_size _ rfl⟩
end

/-! ### what a def promises -/
/-- a def's promise: the bound arguments in the parameters' order, the heap, the wanted end, the wanted exception -/
abbrev Sp := List V → Hp → VK → XK → Prop
/-- how an exception lies behind a call (file 08 gives it): the callers' frames, abstract heap and state ahead of the call, the wish, the exception, the state -/
abbrev CXT := List Env → Hp → Shared → XK → Value → Shared → Prop

/-- the state at a call -/
structure Env0 (P : Program) (w : World) (K : PySem.W.Frag) (mg : Str → Option Value) (base : Heap) (A : Around) (outer : List Env) (s : Shared) (H : Hp) : Prop where
  frames : A.frames = some outer
  mod : Mod K mg base
  bs : ∀ b o, base.get? b = some o → s.heap.get? b = some o ∧ H b = none
  bsz : base.objs.size ≤ s.heap.objs.size
  funs : s.heap.FunFrames base outer
  frf : ∀ b ∈ frs outer, H b = none
  hok : HOk P w H s.heap
  bare : AllBare s.gens
/-- a call's end -/
def CE (outer : List Env) (P : Program) (w : World) (H : Hp) (s : Shared) (Q : VK) (u : Value) (s' : Shared) : Prop :=
  ∃ v H', s'.os = s.os ∧ AllBare s'.gens ∧ Un (frs outer) [] H H' s.heap s'.heap ∧ HOk P w H' s'.heap ∧ RelV v u ∧ Q v H'
def CR (CX : CXT) (outer : List Env) (P : Program) (w : World) (H : Hp) (s : Shared) (Q : VK) (E : XK) (r : Result) (s' : Shared) : Prop :=
  match r with
  | .ok (.ret u) => CE outer P w H s Q u s'
  | .ok _ => False
  | .error e => CX outer H s E e s'
structure FnOk (P : Program) (w : World) (K : PySem.W.Frag) (mg : Str → Option Value) (base : Heap) (CX : CXT) (k : Nat) (f : Addr) (fd : FuncData) (ps : List Str) (sp : Sp) : Prop where
  len : ∀ vs H Q E, sp vs H Q E → vs.length = ps.length
  run : ∀ (A : Around) (outer : List Env) (s : Shared) (H : Hp) (args : Args) (us : List Value) (vs : List V) (Q : VK) (E : XK), Room k A → Env0 P w K mg base A outer s H → BindsTo s fd args (ps.zip us) → Vals vs us → sp vs H Q E →
    codeAny (model P w) A (.call (.ref f) args) (CR CX outer P w H s Q E) s
theorem FnOk.mono {P : Program} {w : World} {K : PySem.W.Frag} {mg : Str → Option Value} {base : Heap} {CX : CXT} {j k : Nat} {f : Addr} {fd : FuncData} {ps : List Str} {sp : Sp} (F : FnOk P w K mg base CX j f fd ps sp) (h : j ≤ k) :
    FnOk P w K mg base CX k f fd ps sp := ⟨F.len, fun A outer s H args us vs Q E hr => F.run A outer s H args us vs Q E (hr.mono h)⟩
/-- a weaker promise -/
theorem FnOk.imp {P : Program} {w : World} {K : PySem.W.Frag} {mg : Str → Option Value} {base : Heap} {CX : CXT} {k : Nat} {f : Addr} {fd : FuncData} {ps : List Str} {sp sp' : Sp} (F : FnOk P w K mg base CX k f fd ps sp)
    (h : ∀ vs H Q E, sp' vs H Q E → sp vs H Q E) : FnOk P w K mg base CX k f fd ps sp' :=
  ⟨fun vs H Q E q => F.len vs H Q E (h _ _ _ _ q), fun A outer s H args us vs Q E hr he hb hv hs => F.run A outer s H args us vs Q E hr he hb hv (h _ _ _ _ hs)⟩

theorem Env0.make {P : Program} {w : World} {K : PySem.W.Frag} {mg : Str → Option Value} {base : Heap} {A : Around} {outer : List Env} {s : Shared} {H : Hp} (e : Env0 P w K mg base A outer s H) (C : Addr) (us : List Value) (kw : List (Str × Value)) :
    Env0 P w K mg base (A.under (.builtin "type.__call__" ⟨.ref C :: us, kw⟩)) outer s H := ⟨by first | exact e.frames | (simpa [Around.under, Code.envs, Code.isFrame, pushEnvs] using e.frames), e.mod, e.bs, e.bsz, e.funs, e.frf, e.hok, e.bare⟩
theorem Env0.in1 {P : Program} {w : World} {K : PySem.W.Frag} {mg : Str → Option Value} {base : Heap} {A : Around} {outer : List Env} {s : Shared} {H : Hp} (e : Env0 P w K mg base A outer s H) :
    Env0 P w K mg base A.in1 outer s H := ⟨e.frames, e.mod, e.bs, e.bsz, e.funs, e.frf, e.hok, e.bare⟩

section
variable {X : Cx} {pins : List (Addr × Obj)} {σ : St} {H : Hp} {s s' : Shared}
/-- from a body: what a callee wants -/
theorem Inv.env0 (I : Inv X pins σ H s) : Env0 X.prog X.w X.K X.mg X.base X.A X.stack s H :=
  ⟨I.ok.frames, I.ok.mod, I.bs, Nat.le_trans I.ok.bsz I.sz, I.stack, I.stkFree, I.hok, I.bare⟩
/-- behind a call -/
theorem Inv.after {Q : VK} {u : Value} (I : Inv X pins σ H s) (h : CE X.stack X.prog X.w H s Q u s') : EP X pins σ Q u s' := by
  obtain ⟨v, H', os, bare, un, hok, r, q⟩ := h
  obtain ⟨hh, g, d, t, os'⟩ := s'
  obtain rfl : os' = s.os := os
  exact ⟨v, H', I.call (h' := hh) (g' := g) (d' := d) (t' := t) (ch := []) un hok bare (fun b z => absurd z (by simp)), r, q⟩
end

/-! ### calls -/
/-- f(..): the written arguments, then the defaults dvs; E: what is wanted of an exception -/
def tCall (sp : Sp) (dvs : List V) (E : XK) (t : TA) : TE := fun σ H Q => t σ H fun vs H1 => sp (vs ++ dvs) H1 Q E
/-- o.m(..) of an instance of the class at C -/
def tMeth (C : Addr) (m : Str) (sp : Sp) (dvs : List V) (E : XK) (ta : TE) (t : TA) : TE := fun σ H Q => ta σ H fun x H1 => ∃ a dx fs, x = .ref a ∧ H1 a = some (.ins C dx fs) ∧ fs.lookup m = none ∧
  t σ H1 fun vs H2 => sp (x :: (vs ++ dvs)) H2 Q E
/-- C(..): a new instance and its dict, then __init__ -/
def tMake (C : Addr) (sp : Sp) (dvs : List V) (E : XK) (t : TA) : TE := fun σ H Q => t σ H fun vs H1 => ∀ x dx, H1 x = none → H1 dx = none → dx ≠ x →
  sp (.ref x :: (vs ++ dvs)) (upd (upd H1 dx (.own x)) x (.ins C dx [])) (fun v H2 => v = .non ∧ Q (.ref x) H2) E

/-- how the parameters are bound: us the positional arguments, kw the keywords' values by name, ds the defaults that fill up -/
def Binds (K : PySem.W.Frag) (fd : FuncData) (ps : List Str) (ds : List Value) : Prop :=
  ∀ (s : Shared) (us : List Value), K.In s.heap → (us ++ ds).length = ps.length → BindsTo s fd ⟨us, []⟩ (ps.zip (us ++ ds))
/-- every parameter is given -/
theorem Binds.all {K : PySem.W.Frag} {fd : FuncData} {ps : List Str} (h : ∀ us : List Value, us.length = ps.length → bindArgs fd ⟨us, []⟩ = pure (ps.zip us)) : Binds K fd ps [] := fun s us _ hl => by
  rw [List.append_nil] at hl ⊢
  exact .of_eq (h us hl)

/-- an exception of a callee reaches what this body wants of exceptions -/
def Passes (CX : CXT) (X : Cx) (E : XK) : Prop := ∀ (pins : List (Addr × Obj)) (σ : St) (H : Hp) (s : Shared) (e : Value) (s' : Shared), Inv X pins σ H s → CX X.stack H s E e s' → X.xe e s'

section
variable {X : Cx} {CX : CXT} {k : Nat} {f C : Addr} {fd : FuncData} {ps : List Str} {sp : Sp} {dvs : List V} {ds : List Value} {E : XK} {x m : Str} {p pos apos : Pos} {e o : Expr} {es : List Expr} {ta : TE} {t : TA}

/-- the callee runs -/
theorem run_fn {pins : List (Addr × Obj)} {σ : St} {H : Hp} {s : Shared} {Q : VK} {us : List Value} {vs : List V} (F : FnOk X.prog X.w X.K X.mg X.base CX k f fd ps sp) (hr : Room k X.A) (hb : Binds X.K fd ps ds) (hd : Vals dvs ds) (hx : Passes CX X E)
    (I : Inv X pins σ H s) (r : Vals vs us) (h : sp (vs ++ dvs) H Q E) : wpAny (model X.prog X.w) X.A (call (.ref f) us) (EP X pins σ Q) X.xe s := by
  have r2 : Vals (vs ++ dvs) (us ++ ds) := r.append hd
  have hl : (us ++ ds).length = ps.length := by rw [← r2.length]; exact F.len _ _ _ _ h
  refine wpAny_call (codeAny_mono (F.run X.A X.stack s H ⟨us, []⟩ (us ++ ds) (vs ++ dvs) Q E hr I.env0 (hb s us I.kIn hl) r2 h) fun r s' hq => ?_)
  cases r with
  | error e => exact hx pins σ H s e s' I hq
  | ok fl =>
    cases fl with
    | ret u => exact I.after hq
    | next => exact False.elim hq
    | brk => exact False.elim hq
    | cont => exact False.elim hq

theorem pe_call (F : FnOk X.prog X.w X.K X.mg X.base CX k f fd ps sp) (hr : Room k X.A) (hg : Gl X x) (hm : X.mg x = some (.ref f)) (hk : PySem.W.keepIn X.K (.ref f) = true) (hb : Binds X.K fd ps ds) (hd : Vals dvs ds) (hx : Passes CX X E)
    (ha : PA X (e :: es) t) (hdb : (x == ("__debug__" : Str)) = false := by decide) (he : starEach (e :: es) X.env = (false, eval e X.env) :: starEach es X.env := by rfl) (hpl : (backTo pos (starEach es X.env)).any (·.1) = false := by rfl) :
    PE X (.Call (.Name x p) (e :: es) [] pos) (tCall sp dvs E t) := by
  intro pins s σ H Q I h
  refine wpAny_Call_Name_kw (ld_glob I hg hm ?_ hdb)
  refine PySem.W.callWith_K (h₀ := X.base) I.ok.mod.kin hk (thn (ha pos pins s σ H _ I h) fun us s1 ⟨vs, H1, I1, r, q⟩ => ⟨I1.kIn, ?_⟩) he hpl
  exact run_fn F hr hb hd hx I1 r q
theorem pe_call0 (F : FnOk X.prog X.w X.K X.mg X.base CX k f fd ps sp) (hr : Room k X.A) (hg : Gl X x) (hm : X.mg x = some (.ref f)) (hk : PySem.W.keepIn X.K (.ref f) = true) (hb : Binds X.K fd ps ds) (hd : Vals dvs ds) (hx : Passes CX X E)
    (hdb : (x == ("__debug__" : Str)) = false := by decide) : PE X (.Call (.Name x p) [] [] pos) (tCall sp dvs E tNil) := by
  intro pins s σ H Q I h
  refine wpAny_Call_Name_kw (ld_glob I hg hm ?_ hdb)
  exact PySem.W.callWith_K0 I.kIn hk (run_fn (us := []) F hr hb hd hx I .nil h)

/-- o.m(e, ..) -/
theorem pe_meth {pl : Sem Bool} (he : PE X o ta) (c : Cls X.K C) (hm : Meth X.K C m f) (F : FnOk X.prog X.w X.K X.mg X.base CX k f fd ps sp) (hr : Room k X.A) (hb : Binds X.K fd ps ds) (hd : Vals dvs ds) (hx : Passes CX X E) (ha : PA X (e :: es) t)
    (hst : starEach (e :: es) X.env = (false, eval e X.env) :: starEach es X.env := by rfl) (hpl : (backTo pos (starEach es X.env)).any (·.1) = false := by rfl)
    (ht : eval (.Call (.Attribute o m apos) (e :: es) [] pos) X.env = (do
      let ov ← eval o X.env
      standAt apos.atName
      let (f, first) ← holding [ov] (getMethod ov m pl)
      callWith pos f first (backTo pos (starEach (e :: es) X.env)) (backToKw pos (keywordEach [] X.env))) := by rfl) :
    PE X (.Call (.Attribute o m apos) (e :: es) [] pos) (tMeth C m sp dvs E ta t) := by
  intro pins s σ H Q I h
  refine PySem.W.methodCall_KW (pl := pl) (thn (he pins s σ H _ I h) fun u s1 ⟨x, H1, I1, rx, a, dx, fs, ex, ea, l, q⟩ => ?_) ht
  subst ex
  obtain rfl : u = Value.ref a := rx
  refine getmeth_ok I1 ea c hm l ?_
  refine PySem.W.callWith_K (first := [.ref a]) (h₀ := X.base) I.ok.mod.kin hm.kp (thn (ha pos pins s1 σ H1 _ I1 q) fun us s2 ⟨vs, H2, I2, r, q2⟩ => ⟨I2.kIn, ?_⟩) hst hpl
  exact run_fn (us := .ref a :: us) (vs := .ref a :: vs) F hr hb hd hx I2 (.cons rfl r) q2
/-- o.m() -/
theorem pe_meth0 {pl : Sem Bool} (he : PE X o ta) (c : Cls X.K C) (hm : Meth X.K C m f) (F : FnOk X.prog X.w X.K X.mg X.base CX k f fd ps sp) (hr : Room k X.A) (hb : Binds X.K fd ps ds) (hd : Vals dvs ds) (hx : Passes CX X E)
    (ht : eval (.Call (.Attribute o m apos) [] [] pos) X.env = (do
      let ov ← eval o X.env
      standAt apos.atName
      let (f, first) ← holding [ov] (getMethod ov m pl)
      callWith pos f first (backTo pos (starEach [] X.env)) (backToKw pos (keywordEach [] X.env))) := by rfl) :
    PE X (.Call (.Attribute o m apos) [] [] pos) (tMeth C m sp dvs E ta tNil) := by
  intro pins s σ H Q I h
  refine PySem.W.methodCall_KW (pl := pl) (thn (he pins s σ H _ I h) fun u s1 ⟨x, H1, I1, rx, a, dx, fs, ex, ea, l, q⟩ => ?_) ht
  subst ex
  obtain rfl : u = Value.ref a := rx
  refine getmeth_ok I1 ea c hm l ?_
  exact PySem.W.callWith_K0 (first := [.ref a]) I1.kIn hm.kp (run_fn (us := [.ref a]) (vs := [.ref a]) F hr hb hd hx I1 (.cons rfl .nil) q)

/-- what a class must have to be made -/
structure Mk (K : PySem.W.Frag) (C f : Addr) : Prop where
  makes : PySem.W.makesIn K C = true
  init : PySem.W.findIn K (.ref C) "__init__" = some (some (.ref f))
  fn : PySem.W.isFn K (.ref f) = true
  kp : PySem.W.keepIn K (.ref C) = true

theorem run_make {pins : List (Addr × Obj)} {σ : St} {H : Hp} {s : Shared} {Q : VK} {us : List Value} {vs : List V} (M : Mk X.K C f) (F : FnOk X.prog X.w X.K X.mg X.base CX k f fd ps sp) (hr : Room (k + 1) X.A) (hb : Binds X.K fd ps ds) (hd : Vals dvs ds)
    (hx : Passes CX X E) (I : Inv X pins σ H s) (r : Vals vs us)
    (h : ∀ x dx, H x = none → H dx = none → dx ≠ x → sp (.ref x :: (vs ++ dvs)) (upd (upd H dx (.own x)) x (.ins C dx [])) (fun v H2 => v = .non ∧ Q (.ref x) H2) E) :
    wpAny (model X.prog X.w) X.A (call (.ref C) us) (EP X pins σ Q) X.xe s := by
  have hq := h (s.heap.objs.size + 1) s.heap.objs.size (I.hok.fresh (Nat.le_succ _)) (I.hok.fresh (Nat.le_refl _)) (Nat.ne_of_lt (Nat.lt_succ_self _))
  have I2 := Inv.made (C := C) I
  have r2 : Vals (V.ref (s.heap.objs.size + 1) :: (vs ++ dvs)) (Value.ref (s.heap.objs.size + 1) :: (us ++ ds)) := .cons rfl (r.append hd)
  have hl : (Value.ref (s.heap.objs.size + 1) :: us ++ ds).length = ps.length := by
    have e := r2.length
    rw [F.len _ _ _ _ hq] at e
    exact e.symm
  refine wpAny_call (make_map (f := f) I.kIn M.makes M.init (beq_iff_eq.mp M.fn) (codeAny_mono (F.run _ X.stack _ _ ⟨Value.ref (s.heap.objs.size + 1) :: us, []⟩ (Value.ref (s.heap.objs.size + 1) :: (us ++ ds)) _ _ E (hr.make C us [])
    (I2.env0.make C us []) (hb _ (Value.ref (s.heap.objs.size + 1) :: us) I2.kIn hl) r2 hq) fun r s' hq' => ?_))
  cases r with
  | error e => exact hx pins σ _ _ e s' I2 hq'
  | ok fl =>
    cases fl with
    | ret u =>
      obtain ⟨v, H', I3, rv, ev, q3⟩ := I2.after hq'
      subst ev
      exact ⟨rv, ⟨V.ref (s.heap.objs.size + 1), H', I3, rfl, q3⟩⟩
    | next => exact False.elim hq'
    | brk => exact False.elim hq'
    | cont => exact False.elim hq'
theorem pe_make (M : Mk X.K C f) (F : FnOk X.prog X.w X.K X.mg X.base CX k f fd ps sp) (hr : Room (k + 1) X.A) (hg : Gl X x) (hm : X.mg x = some (.ref C)) (hb : Binds X.K fd ps ds) (hd : Vals dvs ds) (hx : Passes CX X E)
    (ha : PA X (e :: es) t) (hdb : (x == ("__debug__" : Str)) = false := by decide) (he : starEach (e :: es) X.env = (false, eval e X.env) :: starEach es X.env := by rfl) (hpl : (backTo pos (starEach es X.env)).any (·.1) = false := by rfl) :
    PE X (.Call (.Name x p) (e :: es) [] pos) (tMake C sp dvs E t) := by
  intro pins s σ H Q I h
  refine wpAny_Call_Name_kw (ld_glob I hg hm ?_ hdb)
  refine PySem.W.callWith_K (h₀ := X.base) I.ok.mod.kin M.kp (thn (ha pos pins s σ H _ I h) fun us s1 ⟨vs, H1, I1, r, q⟩ => ⟨I1.kIn, ?_⟩) he hpl
  exact run_make M F hr hb hd hx I1 r q
theorem pe_make0 (M : Mk X.K C f) (F : FnOk X.prog X.w X.K X.mg X.base CX k f fd ps sp) (hr : Room (k + 1) X.A) (hg : Gl X x) (hm : X.mg x = some (.ref C)) (hb : Binds X.K fd ps ds) (hd : Vals dvs ds) (hx : Passes CX X E)
    (hdb : (x == ("__debug__" : Str)) = false := by decide) : PE X (.Call (.Name x p) [] [] pos) (tMake C sp dvs E tNil) := by
  intro pins s σ H Q I h
  refine wpAny_Call_Name_kw (ld_glob I hg hm ?_ hdb)
  exact PySem.W.callWith_K0 I.kIn M.kp (run_make (us := []) M F hr hb hd hx I .nil h)
end

/-! ### keywords -/
/-- the values of the keywords, from the left -/
def PK (X : Cx) (kws : List Keyword) (t : TA) : Prop :=
  ∀ (pos : Pos) (pins : List (Addr × Obj)) (s : Shared) (σ : St) (H : Hp) (Q : List V → Hp → Prop), Inv X pins σ H s → t σ H Q → wpAny (model X.prog X.w) X.A (evalAll ((backToKw pos (keywordEach kws X.env)).map (·.2))) (AP X pins σ Q) X.xe s
section
variable {X : Cx} {CX : CXT} {k : Nat} {f C : Addr} {fd : FuncData} {ps ks : List Str} {sp : Sp} {E : XK} {x m : Str} {p pos apos kpos : Pos} {e o : Expr} {es : List Expr} {kws : List Keyword} {te ta : TE} {t tk : TA} {nm : Option Str}
theorem pk_nil : PK X [] tNil := fun _ _ _ _ H Q I h => wpAny_evalAll_nil ⟨[], H, I, .nil, h⟩
theorem pk_cons (ha : PE X e te) (hr : PK X kws t) : PK X (⟨nm, e, kpos⟩ :: kws) (tCons te t) := by
  intro pos pins s σ H Q I h
  show wpAny _ _ (evalAll ((do let v ← eval e X.env; standAt pos; pure v) :: (backToKw pos (keywordEach kws X.env)).map (·.2))) _ _ s
  refine wpAny_evalAll_cons (wpAny_bind (thn (ha pins s σ H _ I h) fun u s1 ⟨x, H1, I1, r1, q1⟩ => wpAny_bind (wpAny_standAt (wpAny_pure ?_))))
  exact thn (hr pos pins s1 σ H1 _ I1 q1) fun us s2 ⟨xs, H2, I2, r2, q2⟩ => ⟨x :: xs, H2, I2, .cons r1 r2, q2⟩

/-- how a call with keywords binds: g puts the positional values us and the keywords' values ws (names ks) in the parameters' order, defaults among them -/
structure KBinds (K : PySem.W.Frag) (fd : FuncData) (ps ks : List Str) (g : List Value → List Value → List Value) (gV : List V → List V → List V) : Prop where
  to : ∀ (s : Shared) (us ws : List Value), K.In s.heap → (g us ws).length = ps.length → BindsTo s fd ⟨us, ks.zip ws⟩ (ps.zip (g us ws))
  rel : ∀ {vs : List V} {us : List Value} {zs : List V} {ws : List Value}, Vals vs us → Vals zs ws → Vals (gV vs zs) (g us ws)
def tCallK (sp : Sp) (gV : List V → List V → List V) (E : XK) (t tk : TA) : TE := fun σ H Q => t σ H fun vs H1 => tk σ H1 fun zs H2 => sp (gV vs zs) H2 Q E
variable {g : List Value → List Value → List Value} {gV : List V → List V → List V}
theorem run_fnk {pins : List (Addr × Obj)} {σ : St} {H : Hp} {s : Shared} {Q : VK} {us ws : List Value} {vs zs : List V} (F : FnOk X.prog X.w X.K X.mg X.base CX k f fd ps sp) (hr : Room k X.A) (hb : KBinds X.K fd ps ks g gV) (hx : Passes CX X E)
    (I : Inv X pins σ H s) (r : Vals vs us) (rz : Vals zs ws) (h : sp (gV vs zs) H Q E) : wpAny (model X.prog X.w) X.A (call (.ref f) us (ks.zip ws)) (EP X pins σ Q) X.xe s := by
  have r2 := hb.rel r rz
  have hl : (g us ws).length = ps.length := by rw [← r2.length]; exact F.len _ _ _ _ h
  refine wpAny_call (codeAny_mono (F.run X.A X.stack s H ⟨us, ks.zip ws⟩ (g us ws) (gV vs zs) Q E hr I.env0 (hb.to s us ws I.kIn hl) r2 h) fun r s' hq => ?_)
  cases r with
  | error e => exact hx pins σ H s e s' I hq
  | ok fl =>
    cases fl with
    | ret u => exact I.after hq
    | next => exact False.elim hq
    | brk => exact False.elim hq
    | cont => exact False.elim hq
/-- f(e, .., k = v, ..) -/
theorem pe_callK (F : FnOk X.prog X.w X.K X.mg X.base CX k f fd ps sp) (hr : Room k X.A) (hg : Gl X x) (hm : X.mg x = some (.ref f)) (hk : PySem.W.keepIn X.K (.ref f) = true) (hb : KBinds X.K fd ps ks g gV) (hx : Passes CX X E)
    (ha : PA X (e :: es) t) (hkw : PK X kws tk) (hall : (backToKw pos (keywordEach kws X.env)).all (·.1.isSome) = true := by rfl) (hks : (backToKw pos (keywordEach kws X.env)).filterMap (·.1) = ks := by rfl)
    (hdb : (x == ("__debug__" : Str)) = false := by decide) (he : starEach (e :: es) X.env = (false, eval e X.env) :: starEach es X.env := by rfl)
    (hpl : ((backTo pos (starEach (e :: es) X.env)).any (·.1) || (backToKw pos (keywordEach kws X.env)).any (·.1.isNone)) = false := by rfl) :
    PE X (.Call (.Name x p) (e :: es) kws pos) (tCallK sp gV E t tk) := by
  intro pins s σ H Q I h
  refine wpAny_Call_Name_kw (ld_glob I hg hm ?_ hdb)
  refine PySem.W.callWith_KW (h₀ := X.base) I.ok.mod.kin hk hall (thn (ha pos pins s σ H _ I h) fun us s1 ⟨vs, H1, I1, r, q⟩ => ?_) hpl he
  refine thn (hkw pos pins s1 σ H1 _ I1 q) fun ws s2 ⟨zs, H2, I2, rz, q2⟩ => ⟨I2.kIn, ?_⟩
  rw [hks]
  exact run_fnk F hr hb hx I2 r rz q2
end

/-! ### a def's body keeps its promise -/
/-- names: the parameters first -/
structure FnScope (N P : List Str) (sc : Scope) : Prop where
  kind : sc.kind = .function
  co : sc.isCoroutine = false
  gen : sc.isGenerator = false
  nd : N.Nodup
  pre : N.take P.length = P
  par : ∀ x ∈ P, sc.names.lookup x = some .local ∨ sc.names.lookup x = some .cell
  nofree : ∀ y ∈ sc.names, y.2 ≠ .free

theorem bindL_out {kindOf : Str → Option NameKind} {x : Str} : ∀ {binds : List (Str × Value)} {m : Str → Option Value}, (∀ v, (x, v) ∉ binds) → bindL kindOf binds m x = m x
  | [], _, _ => rfl
  | (n, v) :: r, m, h => by
    unfold bindL
    rw [bindL_out fun w hw => h w (List.mem_cons_of_mem _ hw)]
    split
    · have : x ≠ n := by rintro rfl; exact h v List.mem_cons_self
      simp [this]
    · rfl
theorem bindC_out {kindOf : Str → Option NameKind} {x : Str} : ∀ {binds : List (Str × Value)} {m : Str → Option Value}, (∀ v, (x, v) ∉ binds) → bindC kindOf binds m x = m x
  | [], _, _ => rfl
  | (n, v) :: r, m, h => by
    unfold bindC
    rw [bindC_out fun w hw => h w (List.mem_cons_of_mem _ hw)]
    split
    · rfl
    · have : x ≠ n := by rintro rfl; exact h v List.mem_cons_self
      simp [this]
theorem bindL_get {kindOf : Str → Option NameKind} {x : Str} {v : Value} : ∀ {P : List Str} {vs : List Value} {i : Nat} {m : Str → Option Value}, P.Nodup → P[i]? = some x → vs[i]? = some v → kindOf x = some .local →
    bindL kindOf (P.zip vs) m x = some v
  | [], _, _, _, _, h, _, _ => by simp at h
  | _ :: _, [], _, _, _, _, h, _ => by simp at h
  | p :: P, w :: vs, 0, m, nd, h1, h2, hk => by
    simp at h1 h2; subst h1; subst h2
    show bindL kindOf ((p, w) :: P.zip vs) m p = _
    unfold bindL
    rw [bindL_out fun v hv => (List.nodup_cons.mp nd).1 (List.of_mem_zip hv).1, if_pos hk]
    simp
  | p :: P, w :: vs, i + 1, m, nd, h1, h2, hk => by
    show bindL kindOf ((p, w) :: P.zip vs) m x = _
    unfold bindL
    exact bindL_get (i := i) (List.nodup_cons.mp nd).2 (by simpa using h1) (by simpa using h2) hk
theorem bindC_get {kindOf : Str → Option NameKind} {x : Str} {v : Value} : ∀ {P : List Str} {vs : List Value} {i : Nat} {m : Str → Option Value}, P.Nodup → P[i]? = some x → vs[i]? = some v → kindOf x ≠ some .local →
    bindC kindOf (P.zip vs) m x = some v
  | [], _, _, _, _, h, _, _ => by simp at h
  | _ :: _, [], _, _, _, _, h, _ => by simp at h
  | p :: P, w :: vs, 0, m, nd, h1, h2, hk => by
    simp at h1 h2; subst h1; subst h2
    show bindC kindOf ((p, w) :: P.zip vs) m p = _
    unfold bindC
    rw [bindC_out fun v hv => (List.nodup_cons.mp nd).1 (List.of_mem_zip hv).1, if_neg hk]
    simp
  | p :: P, w :: vs, i + 1, m, nd, h1, h2, hk => by
    show bindC kindOf ((p, w) :: P.zip vs) m x = _
    unfold bindC
    exact bindC_get (i := i) (List.nodup_cons.mp nd).2 (by simpa using h1) (by simpa using h2) hk

/-- the names' values at the entry -/
def start (N : List Str) (vs : List V) : St := vs.map some ++ List.replicate (N.length - vs.length) none

/-- the context of a def's body, at its entry; an exception leaves the frame, then lies as CX says -/
def cxOf (CX : CXT) (P : Program) (w : World) (K : PySem.W.Frag) (mg : Str → Option Value) (base : Heap) (N : List Str) (qual : Str) (scope : Scope) (f : Addr) (cd : Value) (A : Around) (outer : List Env) (s : Shared) (H : Hp) (E : XK) : Cx where
  prog := P
  w := w
  K := K
  mg := mg
  base := base
  A := A.deeper (envOfC qual scope s.heap.objs.size f cd)
  N := N
  s₀ := s
  H₀ := H
  env := envOfC qual scope s.heap.objs.size f cd
  outer := outer
  stack := envOfC qual scope s.heap.objs.size f cd :: outer
  ex := []
  calm := true
  fn := fun _ => true
  pn := []
  xe := fun e s' => wpAny (model P w) (A.deeper (envOfC qual scope s.heap.objs.size f cd)) (leaving (envOfC qual scope s.heap.objs.size f cd) e) (fun _ s'' => CX outer H s E e s'') (fun e' s'' => CX outer H s E e' s'') s'

theorem cell_has {sc : Scope} {n : Nat} {x : Str} (h : sc.names.lookup x = some .cell) : ∃ c, (cellsFrom n sc.names []).lookup x = some c := by
  have q := PySem.W.cellsFrom_some sc.names n [] (.inl h)
  exact Option.isSome_iff_exists.mp q

theorem inv_start {CX : CXT} {P : Program} {w : World} {K : PySem.W.Frag} {mg : Str → Option Value} {base : Heap} {N ps : List Str} {qual : Str} {scope : Scope} {f : Addr} {cd : Value} {A : Around} {outer : List Env} {s s1 : Shared} {H : Hp} {E : XK} {us : List Value} {vs : List V}
    (S : FnScope N ps scope) (hd : A.handled = none) (e0 : Env0 P w K mg base A outer s H) (hl : vs.length = ps.length) (r : Vals vs us)
    (x : InCallC s s.heap.objs.size (bindL (envOfC qual scope s.heap.objs.size f cd).kindOf (ps.zip us) fun _ => none) (cellsFrom (s.heap.objs.size + 1) scope.names []) (bindC (envOfC qual scope s.heap.objs.size f cd).kindOf (ps.zip us) fun _ => none) s1) :
    Inv (cxOf CX P w K mg base N qual scope f cd A outer s H E) [] (start N vs) H s1 := by
  have hpl : ps.length ≤ N.length := by have := congrArg List.length S.pre; rw [List.length_take] at this; omega
  obtain ⟨h1, tk, rfl, hk⟩ := x.done
  have noA : ∀ b : Addr, b ∉ (cxOf CX P w K mg base N qual scope f cd A outer s H E).ex := fun b z => absurd (show b ∈ ([] : List Addr) from z) (by simp)
  refine ⟨⟨e0.mod, S.kind, rfl, rfl, Nat.le_refl _, fun y z c h1 h2 => ?_, fun y hy => ?_, fun y c _ h => ?_, fun _ => hd, Around.frames_deeper e0.frames, .inr ⟨rfl, rfl⟩, fun b z => absurd z (noA b), e0.bs, e0.bsz, fun b _ _ => noA b, fun b z => absurd z (noA b), e0.funs, e0.frf⟩,
    rfl, e0.bare, Un.kept hk, ⟨_, x.toInCall.ns, fun i y v h1 h2 h3 => ?_⟩, fun y c h => ⟨_, x.cell y c h⟩, e0.hok.fresh (Nat.le_refl _), fun y c h => ?_, fun p hp => absurd (show p ∈ ([] : List (Addr × Obj)) from hp) (by simp), e0.hok.kept hk, ?_⟩
  · exact name_of_addr x.apart (PySem.mem_of_lookup h1) (PySem.mem_of_lookup h2)
  · have hy : scope.names.lookup y = some .cell ∨ scope.names.lookup y = some .free := hy
    rcases hy with hy | hy
    · exact cell_has hy
    · exact absurd rfl (S.nofree _ (PySem.mem_of_lookup hy))
  · exact Nat.le_of_lt (x.above y c (PySem.mem_of_lookup h))
  · have hi : i < vs.length := by
      unfold start at h2
      by_cases hi : i < vs.length
      · exact hi
      · rw [List.getElem?_append_right (by simpa using hi)] at h2
        rw [List.getElem?_replicate] at h2
        split at h2 <;> cases h2
    have ha : vs[i]? = some v := by
      unfold start at h2
      rw [List.getElem?_append_left (by simpa using hi), List.getElem?_map] at h2
      cases e : vs[i]? with
      | none => rw [e] at h2; cases h2
      | some a => rw [e] at h2; cases h2; rfl
    obtain ⟨u, hu, rv⟩ := r.get ha
    have hp : ps[i]? = some y := by
      rw [← S.pre, List.getElem?_take_of_lt (by omega)]; exact h1
    have ndP : ps.Nodup := by rw [← S.pre]; exact S.nd.sublist (List.take_sublist _ _)
    refine ⟨u, rv, ?_⟩
    rcases S.par y (List.mem_of_getElem? hp) with k | k
    · exact .inl ⟨k, bindL_get ndP hp hu k⟩
    · obtain ⟨c, e⟩ := cell_has (n := s.heap.objs.size + 1) k
      refine .inr ⟨.inl k, c, e, ?_⟩
      have q := x.cell y c e
      rw [bindC_get ndP hp hu (by show scope.names.lookup y ≠ _; rw [k]; decide)] at q
      exact q
  · exact e0.hok.fresh (Nat.le_of_lt (x.above y c (PySem.mem_of_lookup h)))
  · unfold start
    show _ = N.length
    rw [List.length_append, List.length_map, List.length_replicate]
    omega

/-- THE RULE: a def (or a method) of the text, by its body. The body's reading t is chosen for each entry; it is run at the parameters' values -/
theorem fn_of {CX : CXT} {P : Program} {w : World} {K : PySem.W.Frag} {mg : Str → Option Value} {base : Heap} {k : Nat} {f : Addr} {name qual : Str} {params : Arguments} {body : List Stmt} {scope : Scope} {dV kV doc pm cdv ct oc : Value} {an od : Option Addr}
    {osl : Array (Option Value)} {N ps : List Str} {sp : Sp} (lk : K.lookup f = some ⟨oc, od, .func (PySem.W.fnOf name qual params body scope dV kV doc pm an cdv ct), osl⟩) (hcd : PySem.W.codeIn K cdv qual = true) (S : FnScope N ps scope)
    (len : ∀ vs H Q E, sp vs H Q E → vs.length = ps.length)
    (hbody : ∀ (A : Around) (outer : List Env) (s : Shared) (H : Hp) (vs : List V) (Q : VK) (E : XK), Room k (A.deeper (envOfC qual scope s.heap.objs.size f cdv)) → sp vs H Q E →
      ∃ t, PSs (cxOf CX P w K mg base N qual scope f cdv A outer s H E) body t ∧ t { nx := fun _ H' => Q .non H', rt := Q } (start N vs) H) :
    FnOk P w K mg base CX (k + 1) f (PySem.W.fnOf name qual params body scope dV kV doc pm an cdv ct) ps sp := by
  refine ⟨len, fun A outer s H args us vs Q E hr e0 hb r hsp => ?_⟩
  have hl := len _ _ _ _ hsp
  have KX : K.In s.heap := e0.mod.kin.keeps fun b o e => (e0.bs b o e).1
  have lim : s.heap.NoLimit := e0.mod.nolimit.keeps fun b o e => (e0.bs b o e).1
  have hkind : ∀ y ∈ ps.zip us, scope.names.lookup y.1 = some .local ∨ (scope.names.lookup y.1 = some .cell ∧ ((cellsFrom (s.heap.objs.size + 1) scope.names []).lookup y.1).isSome = true) := fun ⟨n, v⟩ hy => by
    rcases S.par n (List.of_mem_zip hy).1 with q | q
    · exact .inl q
    · exact .inr ⟨q, PySem.W.cellsFrom_some _ _ _ (.inl q)⟩
  refine codeAny_call_function hr.depth (KX _ _ lk) rfl S.co S.gen rfl (PySem.W.codeRec_of KX hcd) (hb _ _ _ _ ?_)
  refine wpAny_newFunctionEnv_cells S.kind hkind fun env he s1 x => ?_
  subst he
  refine ⟨lim.keeps x.toInCall.keep, codeAny_func ?_⟩
  obtain ⟨t, ht, hq⟩ := hbody A outer s H vs Q E (hr.deeper _) hsp
  have I : Inv (cxOf CX P w K mg base N qual scope f cdv A outer s H E) [] (start N vs) H s1 := inv_start S hr.hd e0 hl r x
  refine wpAny_mono (ht [] s1 (start N vs) H _ I hq) (fun fl s' hs => ?_) fun e s' hs => hs
  have fin : ∀ {σ' : St} {H' : Hp} {v : V} {u : Value}, Inv (cxOf CX P w K mg base N qual scope f cdv A outer s H E) [] σ' H' s' → RelV v u → Q v H' → CE outer P w H s Q u s' :=
    fun {σ' H' v u} J rv q => ⟨v, H', J.os, J.bare, J.base, J.hok, rv, q⟩
  cases fl with
  | ret u =>
    obtain ⟨v, σ', H', J, rv, q⟩ := hs
    exact fin J rv q
  | next =>
    obtain ⟨σ', H', J, q⟩ := hs
    exact fin (v := V.non) (u := Value.none) J rfl q
  | brk =>
    obtain ⟨_, _, _, q⟩ := hs
    exact False.elim q
  | cont =>
    obtain ⟨_, _, _, q⟩ := hs
    exact False.elim q
end L2

namespace L2
open PySem PySem.Spec PyProof.Rows
section
variable {X : Cx} {x : Str} {p pos : Pos} {e : Expr} {es : List Expr} {t : TA} {id T : String} {r : List V → Hp → VK → Prop}

def tCB (r : List V → Hp → VK → Prop) (t : TA) : TE := fun σ H Q => t σ H fun vs H1 => r vs H1 Q
/-- f(e, ..), f a built-in function -/
theorem pe_callB (hc : CallR X (.builtin id) r) (hg : Gl X x) (hm : X.mg x = none) (hv : bootBuiltins x = some (.builtin id)) (ha : PA X (e :: es) t) (hn : x ≠ "__name__" := by decide) (hdb : (x == ("__debug__" : Str)) = false := by decide)
    (he : starEach (e :: es) X.env = (false, eval e X.env) :: starEach es X.env := by rfl) (hpl : (backTo pos (starEach es X.env)).any (·.1) = false := by rfl) : PE X (.Call (.Name x p) (e :: es) [] pos) (tCB r t) := by
  intro pins s σ H Q I h
  refine wpAny_Call_Name_kw (ld_blt I hg hm hv ?_ hn hdb)
  exact PyProof.Rows.callWith_builtin1 (thn (ha pos pins s σ H _ I h) fun us s1 ⟨vs, H1, I1, r1, q1⟩ => hc pins s1 σ H1 vs us Q I1 r1 q1) he hpl
/-- T(e, ..), T a built-in type -/
theorem pe_callTy (hc : CallR X (.type T) r) (hg : Gl X x) (hm : X.mg x = none) (hv : bootBuiltins x = some (.type T)) (ha : PA X (e :: es) t) (hn : x ≠ "__name__" := by decide) (hdb : (x == ("__debug__" : Str)) = false := by decide)
    (he : starEach (e :: es) X.env = (false, eval e X.env) :: starEach es X.env := by rfl) (hpl : (backTo pos (starEach es X.env)).any (·.1) = false := by rfl) : PE X (.Call (.Name x p) (e :: es) [] pos) (tCB r t) := by
  intro pins s σ H Q I h
  refine wpAny_Call_Name_kw (ld_blt I hg hm hv ?_ hn hdb)
  exact PyProof.Rows.callWith_type1 (thn (ha pos pins s σ H _ I h) fun us s1 ⟨vs, H1, I1, r1, q1⟩ => hc pins s1 σ H1 vs us Q I1 r1 q1) he hpl
/-- T() -/
theorem pe_callTy0 (hc : CallR X (.type T) r) (hg : Gl X x) (hm : X.mg x = none) (hv : bootBuiltins x = some (.type T)) (hn : x ≠ "__name__" := by decide) (hdb : (x == ("__debug__" : Str)) = false := by decide) :
    PE X (.Call (.Name x p) [] [] pos) (tCB r tNil) := by
  intro pins s σ H Q I h
  refine wpAny_Call_Name_kw (ld_blt I hg hm hv ?_ hn hdb)
  exact PyProof.Rows.callWith_type0 (hc pins s σ H [] [] Q I .nil h)
end
end L2

namespace HT
open PySem PyProof.Rows

/-- t < u of tuples of ints -/
def lexLt : List Int → List Int → Bool
  | [], [] => false
  | [], _ :: _ => true
  | _ :: _, [] => false
  | x :: xs, y :: ys => if x = y then lexLt xs ys else decide (x < y)
theorem lexLt_cons (x y : Int) (xs ys : List Int) : lexLt (x :: xs) (y :: ys) = if x = y then lexLt xs ys else decide (x < y) := rfl
theorem lexLt_nil_nil : lexLt [] [] = false := rfl
theorem lexLt_nil_cons (y : Int) (ys : List Int) : lexLt [] (y :: ys) = true := rfl
theorem lexLt_cons_nil (x : Int) (xs : List Int) : lexLt (x :: xs) [] = false := rfl

theorem eqAt_int (A : Around) (s : Shared) (a : Int) (t : Tok) (c : Int) (u : Tok) : ∃ e, SeqAt.EqAt A s (.int a t) (.int c u) e ∧ (e = true ↔ a = c) :=
  ⟨(a == c), SeqAt.EqAt.int_int a t c u, by simp⟩
theorem rcLt_int (A : Around) (s : Shared) (a : Int) (t : Tok) (c : Int) (u : Tok) (prog : Program) (w : World) (E : Value → Shared → Prop) (Q : Value → Shared → Prop) (h : Q (.bool (decide (a < c))) s) :
    wpAny (model prog w) A (richCompare .Lt (.int a t) (.int c u)) Q E s :=
  (PyProof.Rows.lt_int h : wpAny (model prog w) A (compareOp .Lt (.int a t) (.int c u)) Q E s)

section
open PySem.SeqAt
open PySem.AutoSeq1 (wpAny_loadPart')
open PySem.MeetsSeq PySem.MeetsSeq2 PySem.MeetsSeq3

theorem tuple_lt_ints (l b : Addr) (items items2 : Array Value) (n n2 : Nat) (dd dd2 : Option Addr) (sl sl2 : Array (Option Value)) (ns ms : List Int) (hi : IntsAre items.toList ns) (hj : IntsAre items2.toList ms) :
    Meets (Builtin.«tuple.__lt__» ⟨[.ref l, .ref b], []⟩)
      (fun _ R s => s.heap.get? l = some { cls := .type "tuple", dict := dd, data := .seq items n, slots := sl } ∧ s.heap.get? b = some { cls := .type "tuple", dict := dd2, data := .seq items2 n2, slots := sl2 } ∧
        R (.ok (.ret (.bool (lexLt ns ms)))) s) :=
  .of_wp fun prog w A R s h => by
    obtain ⟨hp, g, d, tk, os⟩ := s; obtain ⟨hl, hb, h⟩ := h
    have f2 := AutoSeq1.sub_tuple_tuple
    have z1 : items.size = ns.length := by rw [← hi.length]; simp
    have z2 : items2.size = ms.length := by rw [← hj.length]; simp
    wp_walk using wpAny_loadPart' hl, wpAny_loadPart' hb, wpAny_forIn_list _ (fun rest b s' => b.1 = none ∧ s' = ⟨hp, g, d, tk, os⟩ ∧ ∃ (vs ws : List Value) (ns' ms' : List Int), rest = vs.zip ws ∧
      IntsAre vs ns' ∧ IntsAre ws ms' ∧ ns'.length + items2.size = ms'.length + items.size ∧ R (.ok (.ret (.bool (lexLt ns' ms')))) ⟨hp, g, d, tk, os⟩) _
    case turn =>
      rintro ⟨y, x⟩ rest b s' ⟨hb', rfl, vs, ws, ns', ms', hz, hvi, hwi, hlen, hR⟩
      cases hvi with
      | nil => rw [List.zip_nil_left] at hz; cases hz
      | cons a t hvi' =>
        cases hwi with
        | nil => rw [List.zip_nil_right] at hz; cases hz
        | cons c u hwi' =>
          rw [List.zip_cons_cons] at hz
          injection hz with hyx hrest
          injection hyx with hy hx
          subst hy hx
          rw [lexLt_cons] at hR
          simp only [List.length_cons] at hlen
          obtain ⟨e, he, hiff⟩ := eqAt_int A.in1 ⟨hp, g, d, tk, os⟩ a t c u
          refine wpAny_bind (he prog w _ _ ?_)
          cases e with
          | true =>
            rw [if_pos (hiff.mp rfl)] at hR
            wp_walk
            exact ⟨rfl, rfl, _, _, _, _, hrest, hvi', hwi', by omega, hR⟩
          | false =>
            rw [if_neg (fun q => absurd (hiff.mpr q) Bool.false_ne_true)] at hR
            have hri := rcLt_int A.in1 ⟨hp, g, d, tk, os⟩ a t c u prog w
            wp_walk using hri
            exact ⟨_, rfl, by simpa using hR⟩
    case fin =>
      rintro ⟨b1, b2⟩ s' ⟨hb', rfl, vs, ws, ns', ms', hz, hvi, hwi, hlen, hR⟩
      simp only at hb'
      subst hb'
      have hv : lexLt ns' ms' = decide (items.size < items2.size) := by
        cases hvi with
        | nil =>
          cases hwi with
          | nil =>
            simp only [List.length_nil] at hlen
            rw [lexLt_nil_nil]
            exact (decide_eq_false (by omega)).symm
          | cons c u hw =>
            simp only [List.length_nil, List.length_cons] at hlen
            rw [lexLt_nil_cons]
            exact (decide_eq_true (by omega)).symm
        | cons a t hv =>
          cases hwi with
          | nil =>
            simp only [List.length_nil, List.length_cons] at hlen
            rw [lexLt_cons_nil]
            exact (decide_eq_false (by omega)).symm
          | cons c u hw =>
            rw [List.zip_cons_cons] at hz
            cases hz
      rw [hv] at hR
      wp_walk
      exact ⟨_, rfl, by simpa [Builtin.Tuple.tupleCompareSizes] using hR⟩
    case h =>
      exact ⟨rfl, rfl, items.toList, items2.toList, ns, ms, rfl, hi, hj, by omega, h⟩
end

section
variable {prog : Program} {w : World} {A : Around} {E : Value → Shared → Prop} {s : Shared}

theorem lt_tupInts {l b : Addr} {items items2 : Array Value} {ns ms : List Int} {Q : Value → Shared → Prop} (hl : IsTup s.heap l items) (hb : IsTup s.heap b items2) (hi : IntsAre items.toList ns) (hj : IntsAre items2.toList ms)
    (hu : A.units < cLine) (h : Q (.bool (lexLt ns ms)) s) : wpAny (model prog w) A (compareOp .Lt (.ref l) (.ref b)) Q E s := by
  obtain ⟨⟨cls, dd, data, sl⟩, ho, hc, n, hd⟩ := id hl
  obtain ⟨⟨cls2, dd2, data2, sl2⟩, ho2, hc2, n2, hd2⟩ := id hb
  simp only at hc hd hc2 hd2
  subst hc hd hc2 hd2
  exact richCompare_meets_room (op := .Lt) ⟨_, ho, rfl⟩ ⟨_, ho2, rfl⟩ PySem.F.slot_tuple_lt PySem.F.entry_tuple_lt (PySem.F.args_tuple_lt_2 _ _) (tuple_lt_ints l b items items2 n n2 dd dd2 sl sl2 ns ms hi hj)
    ⟨ho, ho2, show Value.bool (lexLt ns ms) ≠ Value.notImplemented ∧ Q (.bool (lexLt ns ms)) s from ⟨(fun x => nomatch x), h⟩⟩ hu

/-- t + u, t not empty -/
theorem cat_tup {t b : Addr} {vs ws : List Value} {Q : Value → Shared → Prop} (ht : IsTup s.heap t vs.toArray) (hb : IsTup s.heap b ws.toArray) (hv : vs ≠ [])
    (h1 : ws = [] → Q (.ref t) s) (h2 : ws ≠ [] → Q (.ref s.heap.objs.size) { s with heap := s.heap.push { cls := .type "tuple", data := .seq (vs ++ ws).toArray } })
    (hsz : vs.length + ws.length ≤ sizeLine) : wpAny (model prog w) A (binaryOp .Add (.ref t) (.ref b)) Q E s := by
  obtain ⟨⟨cls, dd, data, sl⟩, ho, hc, n, hd⟩ := id ht
  obtain ⟨⟨cls2, dd2, data2, sl2⟩, ho2, hc2, n2, hd2⟩ := id hb
  simp only at hc hd hc2 hd2
  subst hc hd hc2 hd2
  have e : vs.toArray ++ ws.toArray = (vs ++ ws).toArray := by simp
  by_cases hw : ws = []
  · exact concat_meets ⟨_, ho, rfl⟩ ⟨_, ho2, rfl⟩ noFill_tuple_add seq_tuple_add PySem.F.slot_tuple_add PySem.F.entry_tuple_add (PySem.F.args_tuple_add_2 _ _)
      (tuple_addW1 t b vs.toArray ws.toArray n n2 dd dd2 sl sl2 (by simpa using hv) (by simp [hw])) ⟨ho, ho2, h1 hw⟩
  · refine concat_meets ⟨_, ho, rfl⟩ ⟨_, ho2, rfl⟩ noFill_tuple_add seq_tuple_add PySem.F.slot_tuple_add PySem.F.entry_tuple_add (PySem.F.args_tuple_add_2 _ _)
      (tuple_addW2 t b vs.toArray ws.toArray n n2 dd dd2 sl sl2 (by simpa using hv) (by simpa using hw) (by rw [List.size_toArray, List.size_toArray]; exact hsz)) ⟨ho, ho2, ?_⟩
    rw [e]
    exact h2 hw

/-! ### t[a:b], not the whole -/
/-- a slice's bound as a place among n (d where it is left out) -/
def sIx (n d : Nat) : Option Int → Nat
  | none => d
  | some v => if v < 0 then (v + (n : Int)).toNat else min v.toNat n
theorem sIx_none (n d : Nat) : sIx n d none = d := rfl
theorem sIx_nat (n d k : Nat) : sIx n d (some (k : Int)) = min k n := by
  show (if (k : Int) < 0 then ((k : Int) + (n : Int)).toNat else min (k : Int).toNat n) = min k n
  rw [if_neg (by omega), Int.toNat_natCast]
theorem sIx_le (n d : Nat) (hd : d ≤ n) (o : Option Int) : sIx n d o ≤ n := by
  cases o with
  | none => exact hd
  | some v =>
    show (if v < 0 then (v + (n : Int)).toNat else min v.toNat n) ≤ n
    by_cases hv : v < 0
    · rw [if_pos hv]; omega
    · rw [if_neg hv]; exact Nat.min_le_right _ _
theorem clip_eq (v : Int) (n d : Nat) : (if v < 0 then max (v + (n : Int)) 0 else min v (n : Int)) = ((sIx n d (some v) : Nat) : Int) := by
  show (if v < 0 then max (v + (n : Int)) 0 else min v (n : Int)) = (((if v < 0 then (v + (n : Int)).toNat else min v.toNat n) : Nat) : Int)
  by_cases hv : v < 0
  · simp only [if_pos hv]; omega
  · simp only [if_neg hv]; omega
theorem adjust_gen (lo hi : Option Int) (n : Nat) : Builtin.Slice.sliceAdjust lo hi 1 (n : Int) = (((sIx n 0 lo : Nat) : Int), ((sIx n n hi : Nat) : Int)) := by
  have h1 : ¬ ((1 : Int) < 0) := by omega
  unfold Builtin.Slice.sliceAdjust
  simp only [h1, if_false]
  refine Prod.ext ?_ ?_
  · cases lo with
    | none => rfl
    | some v => exact clip_eq v n 0
  · cases hi with
    | none => rfl
    | some v => exact clip_eq v n n
theorem places_gen (i j : Nat) : Builtin.Slice.slicePlaces (i : Int) (j : Int) 1 = j - i := by
  unfold Builtin.Slice.slicePlaces
  have h1 : (1 : Int) > 0 := by omega
  simp only [h1, if_true, Int.ediv_one]
  split <;> omega
theorem slicePart_ {v : Value} {o : Option Int} {Q : Option Int → Shared → Prop} (p : IsPart v o) (h : Q o s) : wpAny (model prog w) A (Builtin.Slice.slicePartIndex v) Q E s := by
  cases p with
  | none => exact slicePart_none h
  | int i t => exact slicePart_int h
theorem sliceApplied_gen {sl : Addr} {vl vu : Value} {lo hi : Option Int} {n : Nat} {Q : Int × Int × Nat → Shared → Prop} (hs : s.heap.IsSliceOf sl vl vu .none) (pl : IsPart vl lo) (pu : IsPart vu hi)
    (h : Q (((sIx n 0 lo : Nat) : Int), 1, sIx n n hi - sIx n 0 lo) s) : wpAny (model prog w) A (Builtin.Slice.sliceApplied (.ref sl) (pure (n : Int))) Q E s := by
  obtain ⟨os, hos, hcs, hds⟩ := id hs
  unfold Builtin.Slice.sliceApplied Builtin.Slice.sliceFields
  refine wpAny_bind (wpAny_bind (wpAny_field hos hds (x := vl) rfl (wpAny_bind (wpAny_field hos hds (x := vu) rfl (wpAny_bind (wpAny_field hos hds (x := .none) rfl (wpAny_pure ?_)))))))
  refine wpAny_bind (slicePart_none ?_)
  show wpAny _ _ (if ((1 : Int) == 0) = true then _ else _) _ _ s
  rw [if_neg (by decide)]
  refine wpAny_bind (slicePart_ pl (wpAny_bind (slicePart_ pu (wpAny_bind (wpAny_pure ?_)))))
  show wpAny _ _ (match Builtin.Slice.sliceAdjust lo hi 1 (n : Int) with | (lo, hi) => pure (lo, (1 : Int), Builtin.Slice.slicePlaces lo hi 1)) _ _ s
  rw [adjust_gen lo hi n]
  show wpAny _ _ (pure (((sIx n 0 lo : Nat) : Int), (1 : Int), Builtin.Slice.slicePlaces ((sIx n 0 lo : Nat) : Int) ((sIx n n hi : Nat) : Int) 1)) _ _ s
  rw [places_gen]
  exact wpAny_pure h
theorem pick_gen (xs : Array Value) (i k : Nat) : ((List.range k).filterMap fun (m : Nat) => xs[((i : Int) + (m : Int) * 1).toNat]?).toArray = ((xs.toList.drop i).take k).toArray := by
  have e : (fun (m : Nat) => xs[((i : Int) + (m : Int) * 1).toNat]?) = fun m => xs[i + m]? := by
    funext m
    have : ((i : Int) + (m : Int) * 1).toNat = i + m := by omega
    rw [this]
  rw [e]
  have := pick_run xs i k
  rw [List.filterMap_map] at this
  have e2 : ((fun x => xs[x]?) ∘ fun x => i + x) = fun m => xs[i + m]? := rfl
  rw [e2] at this
  rw [this]

theorem getItem_tuple_cut {t sl : Addr} {items : Array Value} {vl vu : Value} {lo hi : Option Int} {Q : Value → Shared → Prop} (ht : IsTup s.heap t items) (hs : s.heap.IsSliceOf sl vl vu .none) (pl : IsPart vl lo) (pu : IsPart vu hi)
    (hw : ¬ (sIx items.size 0 lo = 0 ∧ sIx items.size items.size hi = items.size))
    (h : Q (.ref s.heap.objs.size) { s with heap := s.heap.push { cls := .type "tuple", data := .seq ((items.toList.drop (sIx items.size 0 lo)).take (sIx items.size items.size hi - sIx items.size 0 lo)).toArray } })
    (hsz : items.size ≤ sizeLine) : wpAny (model prog w) A (getItem (.ref t) (.ref sl)) Q E s := by
  have htake : sizeOk (.seq ((items.toList.drop (sIx items.size 0 lo)).take (sIx items.size items.size hi - sIx items.size 0 lo)).toArray) := by
    show ((items.toList.drop (sIx items.size 0 lo)).take (sIx items.size items.size hi - sIx items.size 0 lo)).toArray.size ≤ sizeLine
    rw [List.size_toArray, List.length_take, List.length_drop, Array.length_toList]
    omega
  have hj : sIx items.size items.size hi ≤ items.size := sIx_le _ _ (Nat.le_refl _) hi
  obtain ⟨os, hos, hcs, hds⟩ := id hs
  have hTs : s.TypeIs (.ref sl) "slice" := ⟨os, hos, hcs⟩
  unfold getItem
  try with_reducible refine wpAny_holding ?_
  first | refine wpAny_bind (wpAny_pure ?_) | skip
  refine wpAny_bind (wpAny_sequenceKey ht.typeIs (by decide) ?_)
  refine wpAny_bind (wpAny_callSpecial?_slot (name := Str.ofString "__getitem__") ht.typeIs PyProof.Rows.slot_tuple_getitem
    (wpAny_call_entry PyProof.Rows.slot_tuple_getitem ht.typeIs entry_tuple_getitem ?_ (args_tuple_getitem _ _)))
  show wpAny _ _ (Builtin.Tuple.tupleItemsOf (.ref t) >>= _) _ _ s
  refine wpAny_bind (tupleItemsOf_ ht ?_)
  refine wpAny_bind (wpAny_typeOf hTs ?_)
  rw [if_pos (by decide)]
  refine wpAny_bind (sliceApplied_gen hs pl pu ?_)
  have hno : ¬ ((((sIx items.size 0 lo : Nat) : Int) == 0 && (1 : Int) == 1 && (sIx items.size items.size hi - sIx items.size 0 lo) == items.size) = true) := by
    intro q
    rw [Bool.and_eq_true, Bool.and_eq_true] at q
    have q1 : ((sIx items.size 0 lo : Nat) : Int) = 0 := eq_of_beq q.1.1
    have q2 : sIx items.size items.size hi - sIx items.size 0 lo = items.size := eq_of_beq q.2
    exact hw ⟨by omega, by omega⟩
  show wpAny _ _ (if (((sIx items.size 0 lo : Nat) : Int) == 0 && (1 : Int) == 1 && (sIx items.size items.size hi - sIx items.size 0 lo) == items.size) = true then _ else _) _ _ s
  rw [if_neg hno, pick_gen]
  first
    | exact wpAny_bind (m := Builtin.Tuple.tupleExact _) (wpAny_newObj_type (wpAny_pure ⟨_, rfl, wpAny_pure h⟩) htake)
    | exact wpAny_bind (m := Builtin.Tuple.tupleExact _) (wpAny_newObj_type (wpAny_bind (wpAny_pure (wpAny_pure ⟨_, rfl, wpAny_pure h⟩))) htake)
    | exact wpAny_bind (wpAny_bind (m := Builtin.Tuple.tupleExact _) (wpAny_newObj_type (wpAny_pure (wpAny_pure ⟨_, rfl, wpAny_pure h⟩)) htake))
    | exact wpAny_bind (wpAny_bind (m := Builtin.Tuple.tupleExact _) (wpAny_newObj_type (wpAny_pure ⟨_, rfl, wpAny_pure h⟩) htake))
end
end HT

namespace L2
open PySem PySem.Spec PyProof.Rows

/-! ### the parts of a slice -/
abbrev TO := St → Hp → (Option Int → Hp → Prop) → Prop
/-- a slice's part (left out, or an int) -/
def PO (X : Cx) (e : Option Expr) (t : TO) : Prop :=
  ∀ (pins : List (Addr × Obj)) (s : Shared) (σ : St) (H : Hp) (Q : Option Int → Hp → Prop), Inv X pins σ H s → t σ H Q →
    wpAny (model X.prog X.w) X.A (evalPart e X.env) (fun u s' => ∃ o H', Inv X pins σ H' s' ∧ IsPart u o ∧ Q o H') X.xe s
def tNoPart : TO := fun _ H Q => Q none H
def tPart (t : TE) : TO := fun σ H Q => t σ H fun x H1 => ∃ i, x = .int i ∧ Q (some i) H1

theorem intsAre_of {ns : List Int} : ∀ {us : List Value}, Vals (ns.map V.int) us → IntsAre us ns := by
  induction ns with
  | nil => intro us r; rw [List.map_nil] at r; cases r; exact .nil
  | cons n ns ih =>
    intro us r
    rw [List.map_cons] at r
    cases r with
    | cons r1 r2 =>
      obtain ⟨t, e⟩ := r1
      subst e
      exact .cons n t (ih r2)

section
variable {X : Cx} {e : Expr} {te : TE} {lo hi : Option Expr} {tl th : TO} {pos p2 : Pos}

theorem po_none : PO X none tNoPart := by
  intro pins s σ H Q I h
  rw [evalPart_none]
  exact wpAny_pure ⟨none, H, I, .none, h⟩
theorem po_some (h : PE X e te) : PO X (some e) (tPart te) := by
  intro pins s σ H Q I hw
  rw [evalPart_some]
  refine thn (h pins s σ H _ I hw) fun u s1 ⟨x, H1, I1, r1, q1⟩ => ?_
  obtain ⟨i, rfl, q⟩ := q1
  obtain ⟨t, rfl⟩ := r1
  exact ⟨some i, H1, I1, .int i t, q⟩

/-- what a slice of a value is, by values: the slice object stands at sl -/
def SlR (X : Cx) (r : V → Option Int → Option Int → Hp → VK → Prop) : Prop :=
  ∀ (pins : List (Addr × Obj)) (s : Shared) (σ : St) (H : Hp) (x : V) (v vl vu : Value) (lo hi : Option Int) (sl : Addr) (Q : VK), Inv X pins σ H s → RelV x v → s.heap.IsSliceOf sl vl vu .none → IsPart vl lo → IsPart vu hi → r x lo hi H Q →
    ∃ T id, typeLookup (.type T) "__getitem__" = pure (some (.builtin id)) ∧ s.TypeIs v T ∧ wpAny (model X.prog X.w) X.A (getItem v (.ref sl)) (EP X pins σ Q) X.xe s
theorem SlR.or {r r' : V → Option Int → Option Int → Hp → VK → Prop} (h : SlR X r) (h' : SlR X r') : SlR X (fun x lo hi H Q => r x lo hi H Q ∨ r' x lo hi H Q) := by
  intro pins s σ H x v vl vu lo hi sl Q I rx hs pl pu q
  rcases q with q | q
  · exact h pins s σ H x v vl vu lo hi sl Q I rx hs pl pu q
  · exact h' pins s σ H x v vl vu lo hi sl Q I rx hs pl pu q
def tSl (r : V → Option Int → Option Int → Hp → VK → Prop) (te : TE) (tl th : TO) : TE := fun σ H Q => te σ H fun x H1 => tl σ H1 fun l H2 => th σ H2 fun u H3 => r x l u H3 Q
/-- a[lo:hi], any a -/
theorem pe_slice {r : V → Option Int → Option Int → Hp → VK → Prop} (hr : SlR X r) (he : PE X e te) (hl : PO X lo tl) (hu : PO X hi th) : PE X (.Subscript e (.Slice lo hi none p2) pos) (tSl r te tl th) := by
  intro pins s σ H Q I h
  refine Subscript_ (thn (he pins s σ H _ I h) fun v s1 ⟨x, H1, I1, r1, q1⟩ => ?_)
  refine wpAny_Slice (thn (hl pins s1 σ H1 _ I1 q1) fun vl s2 ⟨l, H2, I2, pl, q2⟩ => thn (hu pins s2 σ H2 _ I2 q2) fun vu s3 ⟨u, H3, I3, pu, q3⟩ => ?_)
  rw [evalPart_none]
  refine wpAny_pure ?_
  have I4 : Inv X pins σ H3 { s3 with heap := s3.heap.push { cls := .type "slice", data := .fields #[vl, vu, .none] } } := I3.kept (t' := s3.toks) fun b ob q => Heap.get?_push_of_some _ q
  obtain ⟨T, id, hT, ht, hg⟩ := hr pins { s3 with heap := s3.heap.push { cls := .type "slice", data := .fields #[vl, vu, .none] } } σ H3 x v vl vu l u s3.heap.objs.size Q I4 r1 (Heap.IsSliceOf.new ..) pl pu q3
  show wpAny (model X.prog X.w) X.A (subscriptTail e (.Slice lo hi none p2) v (.ref s3.heap.objs.size)) (EP X pins σ Q) X.xe { s3 with heap := s3.heap.push { cls := .type "slice", data := .fields #[vl, vu, .none] } }
  exact tail_any (ops := [.ref s3.heap.objs.size, v]) ht hT hg (by with_unfolding_all rfl)

/-- the items of xs[lo:hi] -/
def cutV (xs : List V) (lo hi : Option Int) : List V := (xs.drop (HT.sIx xs.length 0 lo)).take (HT.sIx xs.length xs.length hi - HT.sIx xs.length 0 lo)
theorem cutV_length (xs : List V) (lo hi : Option Int) : (cutV xs lo hi).length ≤ xs.length := by
  unfold cutV
  rw [List.length_take, List.length_drop]
  omega
/-- t[lo:hi], not the whole of it (the whole would be t itself) -/
def rSlT (K : PySem.W.Frag) : V → Option Int → Option Int → Hp → VK → Prop := fun x lo hi H Q => ∃ a xs, x = .ref a ∧ SqT K H a xs ∧
  ¬ (HT.sIx xs.length 0 lo = 0 ∧ HT.sIx xs.length xs.length hi = xs.length) ∧ ∀ p, H p = none → Q (.ref p) (upd H p (.tup (cutV xs lo hi)))
theorem sl_tup : SlR X (rSlT X.K) := by
  intro pins s σ H x v vl vu lo hi sl Q I rx hs pl pu h
  obtain ⟨a, xs, rfl, hx, hw, q⟩ := h
  cases rx
  obtain ⟨its, r, ht, hz⟩ := I.tuple hx
  have hlen : its.toArray.size = xs.length := by rw [List.size_toArray]; exact r.length.symm
  refine ⟨"tuple", _, PyProof.Rows.slot_tuple_getitem.lookup, ht.typeIs, ?_⟩
  refine HT.getItem_tuple_cut ht hs pl pu (by rw [hlen]; exact hw) ?_ (by rw [hlen]; exact hz)
  rw [hlen]
  refine ⟨.ref s.heap.objs.size, _, I.laid (t' := s.toks) (o := .tup (cutV xs lo hi)) (fun b ob q => Heap.get?_push_of_some _ q) (Nat.le_refl _) ?_, rfl, q _ (I.hok.fresh (Nat.le_refl _))⟩
  exact ⟨Nat.le_trans (cutV_length xs lo hi) hz, _, (r.drop (HT.sIx xs.length 0 lo)).take (HT.sIx xs.length xs.length hi - HT.sIx xs.length 0 lo), IsTup.new _ _⟩

/-! ### t < u, t + u -/
def rLtT (K : PySem.W.Frag) : R2 := fun x y H Q => ∃ a b ns ms, x = .ref a ∧ y = .ref b ∧ SqT K H a (ns.map V.int) ∧ SqT K H b (ms.map V.int) ∧ Q (.bl (HT.lexLt ns ms)) H
theorem op_ltT (hu : X.A.units < cLine) : OpR X (compareOp .Lt) (rLtT X.K) := by
  intro pins s σ H x y v u Q I rx ry h
  obtain ⟨a, b, ns, ms, rfl, rfl, ha, hb, q⟩ := h
  cases rx
  cases ry
  obtain ⟨its, r1, p1, _⟩ := I.tuple ha
  obtain ⟨its2, r2, p2, _⟩ := I.tuple hb
  have i1 : IntsAre its.toArray.toList ns := intsAre_of r1
  have i2 : IntsAre its2.toArray.toList ms := intsAre_of r2
  exact HT.lt_tupInts p1 p2 i1 i2 hu ⟨.bl (HT.lexLt ns ms), H, I, rfl, q⟩
/-- t + u, t not empty: u empty gives t itself -/
def rCatT (K : PySem.W.Frag) : R2 := fun x y H Q => ∃ a b xs ys, x = .ref a ∧ y = .ref b ∧ SqT K H a xs ∧ SqT K H b ys ∧ xs ≠ [] ∧ xs.length + ys.length ≤ sizeLine ∧
  (ys = [] → Q (.ref a) H) ∧ (ys ≠ [] → ∀ p, H p = none → Q (.ref p) (upd H p (.tup (xs ++ ys))))
theorem Vals.nil_iff {xs : List V} {us : List Value} (r : Vals xs us) : us = [] ↔ xs = [] := by
  cases r with
  | nil => simp
  | cons _ _ => simp
theorem op_catT : OpR X (binaryOp .Add) (rCatT X.K) := by
  intro pins s σ H x y v u Q I rx ry h
  obtain ⟨a, b, xs, ys, rfl, rfl, ha, hb, hx, hz, q1, q2⟩ := h
  cases rx
  cases ry
  obtain ⟨its, r1, p1, _⟩ := I.tuple ha
  obtain ⟨its2, r2, p2, _⟩ := I.tuple hb
  refine HT.cat_tup p1 p2 (fun z => hx (r1.nil_iff.mp z)) (fun z => ⟨.ref a, H, I, rfl, q1 (r2.nil_iff.mp z)⟩) (fun z => ?_) (by rw [← r1.length, ← r2.length]; exact hz)
  refine ⟨.ref s.heap.objs.size, _, I.laid (t' := s.toks) (o := .tup (xs ++ ys)) (fun b ob q => Heap.get?_push_of_some _ q) (Nat.le_refl _) ?_, rfl, q2 (fun w => z (r2.nil_iff.mpr w)) _ (I.hok.fresh (Nat.le_refl _))⟩
  exact ⟨by rw [List.length_append]; exact hz, _, r1.append r2, IsTup.new _ _⟩
/-- tuple(t) -/
theorem call_tupleT : CallR X (.type "tuple") (fun xs H Q => ∃ a ys, xs = [.ref a] ∧ SqT X.K H a ys ∧ Q (.ref a) H) := by
  intro pins s σ H xs us Q I r h
  obtain ⟨a, ys, rfl, ha, q⟩ := h
  obtain ⟨u, rfl, ru⟩ := vals1 r
  cases ru
  obtain ⟨its, _, p1, _⟩ := I.tuple ha
  exact call_tuple_same (items := its.toArray) p1 ⟨.ref a, H, I, rfl, q⟩
end
end L2

namespace L2
open PySem PySem.Spec PyProof.Rows

/-! ### places -/
/-- the place that an index of any sign means -/
def ixN (n : Nat) (i : Int) : Option Nat := if 0 ≤ i then (if i < n then some i.toNat else none) else if -(n : Int) ≤ i then some (i + n).toNat else none
def atI {α : Type} (xs : List α) (i : Int) : Option α := (ixN xs.length i).bind fun j => xs[j]?
theorem ixN_seq {n : Nat} {i : Int} {j : Nat} (h : ixN n i = some j) : seqIndex? i n = some j ∧ j < n ∧ -(n : Int) ≤ i ∧ i < n := by
  unfold ixN at h
  by_cases h0 : 0 ≤ i
  · rw [if_pos h0] at h
    by_cases h1 : i < n
    · rw [if_pos h1] at h
      have e : i.toNat = j := Option.some.inj h
      exact ⟨by rw [seqIndex_of h0 h1, e], by omega, by omega, h1⟩
    · rw [if_neg h1] at h; cases h
  · rw [if_neg h0] at h
    by_cases h1 : -(n : Int) ≤ i
    · rw [if_pos h1] at h
      have e : (i + n).toNat = j := Option.some.inj h
      exact ⟨by rw [seqIndex_neg (by omega) h1, e], by omega, h1, by omega⟩
    · rw [if_neg h1] at h; cases h
theorem atI_get {α : Type} {xs : List α} {i : Int} {v : α} (h : atI xs i = some v) : ∃ j, seqIndex? i xs.length = some j ∧ xs[j]? = some v ∧ j < xs.length ∧ -(xs.length : Int) ≤ i ∧ i < xs.length := by
  unfold atI at h
  cases e : ixN xs.length i with
  | none => rw [e] at h; cases h
  | some j =>
    rw [e] at h
    obtain ⟨h1, h2, h3, h4⟩ := ixN_seq e
    exact ⟨j, h1, h, h2, h3, h4⟩
theorem atI_nat {α : Type} {xs : List α} {j : Nat} {v : α} (h : xs[j]? = some v) : atI xs (j : Int) = some v := by
  have hj : j < xs.length := (List.getElem?_eq_some_iff.mp h).1
  have e : ixN xs.length (j : Int) = some j := by
    unfold ixN
    rw [if_pos (by omega), if_pos (by omega)]; simp
  unfold atI; rw [e]; exact h
theorem atI_last {α : Type} (xs : List α) (v : α) : atI (xs ++ [v]) (-1) = some v := by
  have hl : (xs ++ [v]).length = xs.length + 1 := by simp
  have e : ixN (xs ++ [v]).length (-1) = some xs.length := by
    unfold ixN
    rw [hl, if_neg (by decide), if_pos (by omega)]
    congr 1
    omega
  unfold atI
  rw [e]
  show (xs ++ [v])[xs.length]? = some v
  simp

/-! ### what may be subscripted -/
/-- what stands as an index of a plain subscript -/
def PlainIx (b : Expr) : Prop := ∀ o i, subscripted b false o i = operate [o, i] (getItem o i)
/-- a subscript by values -/
def IxR (X : Cx) (r : R2) : Prop :=
  ∀ (value slice : Expr) (pins : List (Addr × Obj)) (s : Shared) (σ : St) (H : Hp) (x y : V) (v u : Value) (Q : VK), Inv X pins σ H s → RelV x v → RelV y u → r x y H Q →
    subscripted slice false v u = operate [v, u] (getItem v u) → wpAny (model X.prog X.w) X.A (subscriptTail value slice v u) (EP X pins σ Q) X.xe s
/-- a call of a builtin's method by values: the receiver, the arguments -/
def MtR (X : Cx) (id : String) (r : V → List V → Hp → VK → Prop) : Prop :=
  ∀ (pins : List (Addr × Obj)) (s : Shared) (σ : St) (H : Hp) (x : V) (xs : List V) (v : Value) (us : List Value) (Q : VK), Inv X pins σ H s → RelV x v → Vals xs us → r x xs H Q →
    wpAny (model X.prog X.w) X.A (call (.builtin id) (v :: us)) (EP X pins σ Q) X.xe s
section
variable {X : Cx} {a b : Expr} {ta tb : TE} {pos : Pos}
theorem IxR.or {r r' : R2} (h : IxR X r) (h' : IxR X r') : IxR X (fun x y H Q => r x y H Q ∨ r' x y H Q) := by
  intro value slice pins s σ H x y v u Q I rx ry q hs
  rcases q with q | q
  · exact h value slice pins s σ H x y v u Q I rx ry q hs
  · exact h' value slice pins s σ H x y v u Q I rx ry q hs
theorem MtR.or {id : String} {r r' : V → List V → Hp → VK → Prop} (h : MtR X id r) (h' : MtR X id r') : MtR X id (fun x xs H Q => r x xs H Q ∨ r' x xs H Q) := by
  intro pins s σ H x xs v us Q I rx rs q
  rcases q with q | q
  · exact h pins s σ H x xs v us Q I rx rs q
  · exact h' pins s σ H x xs v us Q I rx rs q
/-- a[b] -/
theorem pe_ix {r : R2} (hr : IxR X r) (ha : PE X a ta) (hb : PE X b tb) (hs : PlainIx b) : PE X (.Subscript a b pos) (tOp r ta tb) := by
  intro pins s σ H Q I h
  exact Subscript_ (binT ha hb I h fun v u s2 x y H2 I2 rx ry q => hr a b pins s2 σ H2 x y v u Q I2 rx ry q (hs _ _))

def rIxL (K : PySem.W.Frag) : R2 := fun x y H Q => ∃ p xs i v, x = .ref p ∧ y = .int i ∧ SqL K H p xs ∧ atI xs i = some v ∧ Q v H
def rIxT (K : PySem.W.Frag) : R2 := fun x y H Q => ∃ p xs i v, x = .ref p ∧ y = .int i ∧ SqT K H p xs ∧ atI xs i = some v ∧ Q v H
def rIxS : R2 := fun x y H Q => ∃ z i c, x = .str z ∧ y = .int i ∧ z.length ≤ sizeLine ∧ atI z.cps.toList i = some c ∧ Q (.str ⟨#[c]⟩) H
theorem ix_list : IxR X (rIxL X.K) := by
  intro value slice pins s σ H x y v u Q I rx ry h hs
  obtain ⟨p, xs, i, z, rfl, rfl, hq, he, q⟩ := h
  cases rx
  obtain ⟨t, rfl⟩ := ry
  obtain ⟨its, r, pl, hz⟩ := I.list hq
  obtain ⟨j, h1, h2, h3, h4, h5⟩ := atI_get he
  obtain ⟨w, ew, rw'⟩ := r.get h2
  have hl := r.length
  have hn := line63
  have fin : EP X pins σ Q w s := ⟨z, H, I, rw', q⟩
  by_cases h0 : 0 ≤ i
  · have hj : i.toNat = j := by
      rw [seqIndex_of h0 h5] at h1
      exact Option.some.inj h1
    exact item_listR pl.isList h0 (by omega) (by rw [hj]; simpa using ew) fin hs
  · have hj : (i + (its.toArray.size : Int)).toNat = j := by
      rw [seqIndex_neg (by omega) h4] at h1
      rw [List.size_toArray, ← hl]
      exact Option.some.inj h1
    exact subscriptTail_builtinR (x := w) pl.isList.typeIs slot_list_getitem.lookup
      (wpAny_getItem_list_neg (Q := fun r s' => r = w ∧ EP X pins σ Q r s') pl.isList (by omega) (by rw [List.size_toArray] <;> omega) (by omega) (by rw [hj]; simpa using ew) ⟨rfl, fin⟩) hs
theorem ix_tup : IxR X (rIxT X.K) := by
  intro value slice pins s σ H x y v u Q I rx ry h hs
  obtain ⟨p, xs, i, z, rfl, rfl, hq, he, q⟩ := h
  cases rx
  obtain ⟨t, rfl⟩ := ry
  obtain ⟨its, r, pl, hz⟩ := I.tuple hq
  obtain ⟨j, h1, h2, h3, h4, h5⟩ := atI_get he
  obtain ⟨w, ew, rw'⟩ := r.get h2
  have hl := r.length
  have hn := line63
  have fin : EP X pins σ Q w s := ⟨z, H, I, rw', q⟩
  exact subscriptTail_builtinR (x := w) pl.typeIs slot_tuple_getitem.lookup
    (getItem_tuple (j := j) (Q := fun r s' => r = w ∧ EP X pins σ Q r s') pl (by omega) (by omega) (by rw [List.size_toArray, ← hl]; exact h1) (by simpa using ew) ⟨rfl, fin⟩) hs
theorem ix_str : IxR X rIxS := by
  intro value slice pins s σ H x y v u Q I rx ry h hs
  obtain ⟨z, i, c, rfl, rfl, hz, he, q⟩ := h
  obtain ⟨t, rfl⟩ := rx
  obtain ⟨t', rfl⟩ := ry
  obtain ⟨j, h1, h2, h3, h4, h5⟩ := atI_get he
  have hl : z.cps.toList.length = z.length := by simp [Str.length]
  rw [hl] at h1 h4 h5
  have hn := line63
  exact tail_any (typeIs_str s z t) slot_str_getitem.lookup (getItem_str (c := c) (by
    have e1 : decide (i < -(2 ^ 63 : Int)) = false := decide_eq_false (by omega)
    have e2 : decide (i ≥ 2 ^ 63) = false := decide_eq_false (by omega)
    rw [e1, e2, Bool.or_false]) (by rw [h1]; simpa using h2) ⟨.str ⟨#[c]⟩, H, I.tok _, ⟨_, rfl⟩, q⟩) hs
/-- list, tuple or str -/
def rIx (K : PySem.W.Frag) : R2 := fun x y H Q => rIxL K x y H Q ∨ rIxT K x y H Q ∨ rIxS x y H Q
theorem ix_seq : IxR X (rIx X.K) := ix_list.or (ix_tup.or ix_str)

/-! ### xs[i] = v, any sign -/
/-- the list's object behind a store -/
theorem mapSeq_set (its : List Value) (n j : Nat) (u : Value) : Obj.mapSeq (·.setIfInBounds j u) { cls := .type "list", data := .seq its.toArray n } = { cls := .type "list", data := .seq (its.set j u).toArray n } := by
  simp [Obj.mapSeq]
theorem Inv.lst {pins : List (Addr × Obj)} {σ : St} {H : Hp} {s : Shared} {p : Addr} {xs : List V} (I : Inv X pins σ H s) (h : H p = some (.lst xs)) :
    ∃ (its : List Value) (n : Nat), Vals xs its ∧ s.heap.get? p = some { cls := .type "list", data := .seq its.toArray n } ∧ xs.length ≤ sizeLine := by
  obtain ⟨z, its, n, r, e⟩ := I.hok p _ h
  exact ⟨its, n, r, e, z⟩
/-- the list at p is written by an update of its object -/
theorem Inv.lstUpd {pins : List (Addr × Obj)} {σ : St} {H : Hp} {s : Shared} {p : Addr} {xs ys : List V} {its its' : List Value} {n n' : Nat} {f : Obj → Obj} (I : Inv X pins σ H s) (h : H p = some (.lst xs))
    (ho : s.heap.get? p = some { cls := .type "list", data := .seq its.toArray n }) (hf : f { cls := .type "list", data := .seq its.toArray n } = { cls := .type "list", data := .seq its'.toArray n' }) (r : Vals ys its') (hz : ys.length ≤ sizeLine) (t : Nat) :
    Inv X pins σ (upd H p (.lst ys)) { s with heap := s.heap.update p f, toks := t } := by
  have e : (s.heap.update p f).get? p = some { cls := .type "list", data := .seq its'.toArray n' } := by
    rw [Heap.get?_update_self f ho (by rw [hf] <;> rfl), hf]
  refine I.write (x := p) (e := p) (by rw [h]; trivial) (.inl rfl) (fun b u hb q => (Heap.get?_update_other _ _ (Ne.symm hb)).trans q) ⟨_, e⟩ ?_
  exact ⟨hz, its', n', r, e⟩
def rSetL : V → V → V → Hp → (Hp → Prop) → Prop := fun o i v H Q => ∃ p xs k j, o = .ref p ∧ i = .int k ∧ H p = some (.lst xs) ∧ ixN xs.length k = some j ∧ Q (upd H p (.lst (xs.set j v)))
theorem set_list : PSet X rSetL := by
  intro pins s σ H o i v ov iv u Q I ro ri rv h
  obtain ⟨p, xs, k, j, rfl, rfl, hp, hj, q⟩ := h
  cases ro
  obtain ⟨t, rfl⟩ := ri
  obtain ⟨its, n, r, ho, hz⟩ := I.lst hp
  obtain ⟨h1, h2, h3, h4⟩ := ixN_seq hj
  have hl := r.length
  have hn := line63
  have I' : Inv X pins σ (upd H p (.lst (xs.set j v))) { s with heap := s.heap.update p (Obj.mapSeq (·.setIfInBounds j u)) } :=
    I.lstUpd hp ho (mapSeq_set its n j u) (r.set rv j) (by rw [List.length_set]; exact hz) s.toks
  by_cases h0 : 0 ≤ k
  · have hk : k.toNat = j := by
      rw [seqIndex_of h0 h4] at h1
      exact Option.some.inj h1
    exact PySem.W.ki_setAt ho h0 (by omega) (by rw [List.size_toArray, ← hl]; exact h4) (by rw [hk]; exact ⟨_, I', q⟩)
  · have hk : (k + (its.toArray.size : Int)).toNat = j := by
      rw [seqIndex_neg (by omega) h3] at h1
      rw [List.size_toArray, ← hl]
      exact Option.some.inj h1
    exact PySem.W.ki_setBack ho (by omega) (by rw [List.size_toArray, ← hl]; exact h3) (by omega) (by rw [hk]; exact ⟨_, I', q⟩)

/-! ### slices -/
theorem slice_bounds (lo hi : Option Int) (n : Nat) : (sliceBounds lo hi none n).1 = ((HT.sIx n 0 lo : Nat) : Int) ∧ (sliceBounds lo hi none n).2.1 = ((HT.sIx n n hi : Nat) : Int) ∧ (sliceBounds lo hi none n).2.2 = 1 := by
  refine ⟨?_, ?_, rfl⟩
  · cases lo with
    | none => simp [sliceBounds, HT.sIx]
    | some i =>
      simp only [sliceBounds, HT.sIx, Option.getD_none, show (1 : Int) > 0 by decide, if_true]
      by_cases h : i < 0
      · simp only [h, if_true] <;> omega
      · simp only [h, if_false] <;> omega
  · cases hi with
    | none => simp [sliceBounds, HT.sIx]
    | some i =>
      simp only [sliceBounds, HT.sIx, Option.getD_none, show (1 : Int) > 0 by decide, if_true]
      by_cases h : i < 0
      · simp only [h, if_true] <;> omega
      · simp only [h, if_false] <;> omega
theorem slicePick_cut (its : List Value) (lo hi : Option Int) : slicePick its.toArray lo hi none = ((its.drop (HT.sIx its.length 0 lo)).take (HT.sIx its.length its.length hi - HT.sIx its.length 0 lo)).toArray := by
  obtain ⟨h1, h2, h3⟩ := slice_bounds lo hi its.toArray.size
  unfold slicePick
  rw [h1, h2, h3]
  simp only [sliceRange_one, pick_run, List.size_toArray] <;> rfl
/-- xs[lo:hi] of a list: a new list -/
def rSlL (K : PySem.W.Frag) : V → Option Int → Option Int → Hp → VK → Prop := fun x lo hi H Q => ∃ a xs, x = .ref a ∧ SqL K H a xs ∧ ∀ p, H p = none → Q (.ref p) (upd H p (.lst (cutV xs lo hi)))
theorem sl_list : SlR X (rSlL X.K) := by
  intro pins s σ H x v vl vu lo hi sl Q I rx hs pl pu h
  obtain ⟨a, xs, rfl, hx, q⟩ := h
  cases rx
  obtain ⟨its, r, ht, hz⟩ := I.list hx
  have hlen := r.length
  refine ⟨"list", _, slot_list_getitem.lookup, ht.isList.typeIs, ?_⟩
  refine wpAny_getItem_list_slice ht.isList hs pl pu .none (by simp) ?_ (by rw [List.size_toArray] <;> omega)
  rw [slicePick_cut, ← hlen]
  refine ⟨.ref s.heap.objs.size, _, I.laid (t' := s.toks) (o := .lst (cutV xs lo hi)) (fun b ob q => Heap.get?_push_of_some _ q) (Nat.le_refl _) ?_, rfl, q _ (I.hok.fresh (Nat.le_refl _))⟩
  exact ⟨Nat.le_trans (cutV_length xs lo hi) hz, _, 0, (r.drop (HT.sIx xs.length 0 lo)).take (HT.sIx xs.length xs.length hi - HT.sIx xs.length 0 lo), Heap.get?_push_size _ rfl⟩

/-! ### in, not in: flat items -/
def flatV : V → Bool
  | .non => true
  | .bl _ => true
  | .int _ => true
  | .str _ => true
  | _ => false
/-- == of flat values -/
def eqV : V → V → Bool
  | .non, .non => true
  | .bl a, .bl b => a == b
  | .bl a, .int b => (if a then 1 else 0) == b
  | .int a, .bl b => a == (if b then 1 else 0)
  | .int a, .int b => a == b
  | .str a, .str b => a == b
  | _, _ => false
theorem eqAt_V {A : Around} {s : Shared} {y x : V} {u v : Value} (ry : RelV y u) (rx : RelV x v) (fy : flatV y = true) (fx : flatV x = true) : SeqAt.EqAt A s u v (eqV y x) := by
  cases y with
  | non =>
    cases ry
    cases x with
    | non => cases rx; exact SeqAt.EqAt.same _
    | bl b => cases rx; exact SeqAt.EqAt.none_bool b
    | int b => obtain ⟨t, rfl⟩ := rx; exact SeqAt.EqAt.none_int b t
    | str b => obtain ⟨t, rfl⟩ := rx; exact SeqAt.EqAt.none_str b t
    | _ => exact absurd (show false = true from fx) Bool.false_ne_true
  | bl a =>
    cases ry
    cases x with
    | non => cases rx; exact SeqAt.EqAt.bool_none a
    | bl b => cases rx; exact SeqAt.EqAt.bool_bool a b
    | int b => obtain ⟨t, rfl⟩ := rx; exact SeqAt.EqAt.bool_int a b t
    | str b => obtain ⟨t, rfl⟩ := rx; exact SeqAt.EqAt.bool_str a b t
    | _ => exact absurd (show false = true from fx) Bool.false_ne_true
  | int a =>
    obtain ⟨t', rfl⟩ := ry
    cases x with
    | non => cases rx; exact SeqAt.EqAt.int_none a t'
    | bl b => cases rx; exact SeqAt.EqAt.int_bool a t' b
    | int b => obtain ⟨t, rfl⟩ := rx; exact SeqAt.EqAt.int_int a t' b t
    | str b => obtain ⟨t, rfl⟩ := rx; exact SeqAt.EqAt.int_str a t' b t
    | _ => exact absurd (show false = true from fx) Bool.false_ne_true
  | str a =>
    obtain ⟨t', rfl⟩ := ry
    cases x with
    | non => cases rx; exact SeqAt.EqAt.str_none a t'
    | bl b => cases rx; exact SeqAt.EqAt.str_bool a t' b
    | int b => obtain ⟨t, rfl⟩ := rx; exact SeqAt.EqAt.str_int a t' b t
    | str b => obtain ⟨t, rfl⟩ := rx; exact SeqAt.EqAt.str_str a t' b t
    | _ => exact absurd (show false = true from fx) Bool.false_ne_true
  | _ => exact absurd (show false = true from fy) Bool.false_ne_true
/-- the items' answers, read off the values (a value's own answer does not lean on its token) -/
def eqU (x : V) (u : Value) : Bool := match u with
  | .none => eqV .non x
  | .bool b => eqV (.bl b) x
  | .int i _ => eqV (.int i) x
  | .str z _ => eqV (.str z) x
  | _ => false
theorem eqU_of {x y : V} {u : Value} (r : RelV y u) (f : flatV y = true) : eqU x u = eqV y x := by
  cases y with
  | non => cases r; rfl
  | bl b => cases r; rfl
  | int i => obtain ⟨t, rfl⟩ := r; rfl
  | str z => obtain ⟨t, rfl⟩ := r; rfl
  | _ => exact absurd (show false = true from f) Bool.false_ne_true
theorem any_eqU {x : V} : ∀ {xs : List V} {us : List Value}, Vals xs us → xs.all flatV = true → us.any (eqU x) = xs.any fun y => eqV y x
  | _, _, .nil, _ => rfl
  | y :: xs, u :: us, .cons r t, f => by
    rw [List.all_cons, Bool.and_eq_true] at f
    rw [List.any_cons, List.any_cons, eqU_of r f.1, any_eqU t f.2]
theorem mem_eqAt {A : Around} {s : Shared} {x : V} {v : Value} (rx : RelV x v) (fx : flatV x = true) : ∀ {xs : List V} {us : List Value}, Vals xs us → xs.all flatV = true → ∀ u ∈ us, SeqAt.EqAt A s u v (eqU x u)
  | _, _, .nil, _ => fun u hu => by cases hu
  | y :: xs, u :: us, .cons r t, f => fun u' hu => by
    rw [List.all_cons, Bool.and_eq_true] at f
    rcases List.mem_cons.mp hu with rfl | hu
    · rw [eqU_of r f.1]; exact eqAt_V r rx f.1 fx
    · exact mem_eqAt rx fx t f.2 u' hu
def inV (x : V) (xs : List V) : Bool := xs.any fun y => eqV y x
/-- x in a list or tuple of flat items -/
def rIn (K : PySem.W.Frag) (neg : Bool) : R2 := fun x y H Q => ∃ p xs, y = .ref p ∧ (SqL K H p xs ∨ SqT K H p xs) ∧ flatV x = true ∧ xs.all flatV = true ∧ Q (.bl (if neg then !inV x xs else inV x xs)) H
theorem op_in_seq : OpR X (compareOp .In) (rIn X.K false) := by
  intro pins s σ H x y v u Q I rx ry h
  obtain ⟨p, xs, rfl, hq, fx, fs, q⟩ := h
  cases ry
  rcases hq with hq | hq
  · obtain ⟨its, r, pl, hz⟩ := I.list hq
    refine SeqAt.in_listAt (eqU x) pl.isList (fun w hw => mem_eqAt rx fx r fs w (by simpa using hw)) ⟨.bl _, H, I, rfl, ?_⟩
    rw [show its.toArray.any (eqU x) = its.any (eqU x) by simp, any_eqU r fs]
    exact q
  · obtain ⟨its, r, pl, hz⟩ := I.tuple hq
    refine SeqAt.in_tupleAt (eqU x) pl (fun w hw => mem_eqAt rx fx r fs w (by simpa using hw)) ⟨.bl _, H, I, rfl, ?_⟩
    rw [show its.toArray.any (eqU x) = its.any (eqU x) by simp, any_eqU r fs]
    exact q
theorem op_notIn_seq : OpR X (compareOp .NotIn) (rIn X.K true) := by
  intro pins s σ H x y v u Q I rx ry h
  obtain ⟨p, xs, rfl, hq, fx, fs, q⟩ := h
  cases ry
  rcases hq with hq | hq
  · obtain ⟨its, r, pl, hz⟩ := I.list hq
    refine SeqAt.notIn_listAt (eqU x) pl.isList (fun w hw => mem_eqAt rx fx r fs w (by simpa using hw)) ⟨.bl _, H, I, rfl, ?_⟩
    rw [show its.toArray.any (eqU x) = its.any (eqU x) by simp, any_eqU r fs]
    exact q
  · obtain ⟨its, r, pl, hz⟩ := I.tuple hq
    refine SeqAt.notIn_tupleAt (eqU x) pl (fun w hw => mem_eqAt rx fx r fs w (by simpa using hw)) ⟨.bl _, H, I, rfl, ?_⟩
    rw [show its.toArray.any (eqU x) = its.any (eqU x) by simp, any_eqU r fs]
    exact q
theorem op_notIn_str : OpR X (compareOp .NotIn) (fun x y H Q => ∃ i j, x = .str i ∧ y = .str j ∧ Q (.bl (!(!(Builtin.Str.occurrences j i 0 j.length 1).isEmpty))) H) := by
  intro pins s σ H x y v u Q I rx ry h
  obtain ⟨i, j, rfl, rfl, q⟩ := h
  obtain ⟨t, rfl⟩ := rx
  obtain ⟨t', rfl⟩ := ry
  exact notIn_str ⟨.bl _, H, I, rfl, q⟩

/-! ### len, list(x), tuple(x) of any list or tuple that is read -/
theorem call_len_seq : CallR X (.builtin "len") (fun xs H Q => ∃ p ys, xs = [.ref p] ∧ (SqL X.K H p ys ∨ SqT X.K H p ys) ∧ Q (.int ys.length) H) := by
  intro pins s σ H xs us Q I r h
  obtain ⟨p, ys, rfl, hq, q⟩ := h
  obtain ⟨u, rfl, rx⟩ := vals1 r
  cases rx
  have hn := line63
  rcases hq with hq | hq
  · obtain ⟨its, r', pl, hz⟩ := I.list hq
    have hlen := r'.length
    exact Calls.call_len_list pl.isList (by simp only [List.size_toArray] <;> omega) ⟨.int ys.length, H, I.tok _, ⟨s.toks + 1, by rw [List.size_toArray, hlen]⟩, q⟩
  · obtain ⟨its, r', pl, hz⟩ := I.tuple hq
    have hlen := r'.length
    exact len_tuple pl (by simp only [List.size_toArray] <;> omega) ⟨.int ys.length, H, I.tok _, ⟨s.toks + 1, by rw [List.size_toArray, hlen]⟩, q⟩
theorem call_len_str : CallR X (.builtin "len") (fun xs H Q => ∃ z, xs = [.str z] ∧ z.length ≤ sizeLine ∧ Q (.int z.length) H) := by
  intro pins s σ H xs us Q I r h
  obtain ⟨z, rfl, hz, q⟩ := h
  obtain ⟨u, rfl, t, rfl⟩ := vals1 r
  have hn := line63
  exact len_str (by omega) ⟨.int z.length, H, I.tok _, ⟨_, rfl⟩, q⟩
theorem CallR.or {f : Value} {r r' : List V → Hp → VK → Prop} (h : CallR X f r) (h' : CallR X f r') : CallR X f (fun xs H Q => r xs H Q ∨ r' xs H Q) := by
  intro pins s σ H xs us Q I rs q
  rcases q with q | q
  · exact h pins s σ H xs us Q I rs q
  · exact h' pins s σ H xs us Q I rs q
theorem call_list_of : CallR X (.type "list") (fun xs H Q => ∃ p ys, xs = [.ref p] ∧ (SqL X.K H p ys ∨ SqT X.K H p ys) ∧ ∀ l, H l = none → Q (.ref l) (upd H l (.lst ys))) := by
  intro pins s σ H xs us Q I r h
  obtain ⟨p, ys, rfl, hq, q⟩ := h
  obtain ⟨u, rfl, rx⟩ := vals1 r
  cases rx
  have fin : ∀ (its : List Value), Vals ys its → ys.length ≤ sizeLine → ∀ (h' : Heap) (c' : Nat), (∀ b o', s.heap.get? b = some o' → h'.get? b = some o') →
      h'.get? s.heap.objs.size = some { cls := .type "list", dict := none, data := .seq its.toArray c', slots := #[] } → EP X pins σ Q (.ref s.heap.objs.size) { s with heap := h' } := fun its r' hz h' c' kp e =>
    ⟨.ref s.heap.objs.size, _, I.laid (t' := s.toks) kp (Nat.le_refl _) (show ObjOk X.prog X.w _ h' _ (.lst ys) from ⟨hz, its, c', r', e⟩), rfl, q _ (I.hok.fresh (Nat.le_refl _))⟩
  rcases hq with hq | hq
  · obtain ⟨its, r', pl, hz⟩ := I.list hq
    have hlen := r'.length
    obtain ⟨o, ho, hc, n, hd⟩ := pl.isList
    exact call_list_seq p (.inl rfl) ho hc hd (fun h' c' kp e => fin its r' hz h' c' kp e) (by simp only [List.size_toArray] <;> omega)
  · obtain ⟨its, r', pl, hz⟩ := I.tuple hq
    have hlen := r'.length
    obtain ⟨o, ho, hc, n, hd⟩ := pl
    exact call_list_seq p (.inr rfl) ho hc hd (fun h' c' kp e => fin its r' hz h' c' kp e) (by simp only [List.size_toArray] <;> omega)
theorem call_tuple_of : CallR X (.type "tuple") (fun xs H Q => ∃ p ys, xs = [.ref p] ∧ ((SqL X.K H p ys ∧ ∀ l, H l = none → Q (.ref l) (upd H l (.tup ys))) ∨ (SqT X.K H p ys ∧ Q (.ref p) H))) := by
  intro pins s σ H xs us Q I r h
  obtain ⟨p, ys, rfl, h⟩ := h
  obtain ⟨u, rfl, rx⟩ := vals1 r
  cases rx
  rcases h with ⟨hq, q⟩ | ⟨hq, q⟩
  · obtain ⟨its, r', pl, hz⟩ := I.list hq
    have hlen := r'.length
    refine call_tuple_list pl.isList (fun h' kp => ?_) (by simp only [List.size_toArray] <;> omega)
    have I1 : Inv X pins σ H { s with heap := h' } := I.kept (t' := s.toks) kp
    have I2 : Inv X pins σ (upd H h'.objs.size (.tup ys)) { s with heap := h'.push { cls := .type "tuple", data := .seq its.toArray } } :=
      I1.laid (t' := s.toks) (fun b o e => Heap.get?_push_of_some _ e) (Nat.le_refl _) (show ObjOk X.prog X.w _ _ _ (.tup ys) from ⟨hz, its, r', IsTup.new _ _⟩)
    exact ⟨.ref h'.objs.size, _, I2, rfl, q _ (I1.hok.fresh (Nat.le_refl _))⟩
  · obtain ⟨its, r', pl, hz⟩ := I.tuple hq
    exact call_tuple_same pl ⟨.ref p, H, I, rfl, q⟩

/-! ### the call of a builtin's method: o.m(..) -/
/-- the value is of that builtin type -/
def tyV (K : PySem.W.Frag) (T : String) (x : V) (H : Hp) : Prop := match x with
  | .str _ => T = "str"
  | .int _ => T = "int"
  | .ref p => (T = "list" ∧ ∃ xs, SqL K H p xs) ∨ (T = "tuple" ∧ ∃ o, K.lookup p = some o ∧ o.cls = .type "tuple" ∧ o.dict = none) ∨
      (T = "dict" ∧ ((∃ kvs, H p = some (.dK kvs)) ∨ ∃ kvs, H p = some (.dT kvs))) ∨ (T = "set" ∧ ∃ S n, H p = some (.set S n))
  | _ => False
theorem tyV_is {pins : List (Addr × Obj)} {σ : St} {H : Hp} {s : Shared} {T : String} {x : V} {v : Value} (I : Inv X pins σ H s) (r : RelV x v) (ty : tyV X.K T x H) :
    s.TypeIs v T ∧ ∀ a, v = .ref a → ∃ ob, s.heap.get? a = some ob ∧ ob.dict = none := by
  cases x with
  | str z =>
    obtain ⟨t, rfl⟩ := r
    cases (show T = "str" from ty)
    exact ⟨typeIs_str s z t, fun _ e => nomatch e⟩
  | int i =>
    obtain ⟨t, rfl⟩ := r
    cases (show T = "int" from ty)
    exact ⟨typeIs_int s i t, fun _ e => nomatch e⟩
  | ref p =>
    cases r
    rcases ty with ⟨rfl, xs, hq⟩ | ⟨rfl, o, hk, hc, hd⟩ | ⟨rfl, hk⟩ | ⟨rfl, S, n, hk⟩
    · obtain ⟨its, _, pl, _⟩ := I.list hq
      refine ⟨pl.isList.typeIs, fun a e => ?_⟩
      cases e
      obtain ⟨o, n, e, c, hd, _⟩ := pl
      exact ⟨o, e, hd⟩
    · refine ⟨⟨o, I.kIn p o hk, hc⟩, fun a e => ?_⟩
      cases e
      exact ⟨o, I.kIn _ o hk, hd⟩
    · have z : ∃ o, s.heap.get? p = some o ∧ o.ExactDict := by
        rcases hk with ⟨kvs, hk⟩ | ⟨kvs, hk⟩
        · obtain ⟨_, _, _, _, o, _, _, e, ex, _⟩ := I.hok p _ hk
          exact ⟨o, e, ex⟩
        · obtain ⟨_, _, _, _, o, _, _, e, ex, _⟩ := I.hok p _ hk
          exact ⟨o, e, ex⟩
      obtain ⟨o, e, ex⟩ := z
      refine ⟨⟨o, e, ex.1⟩, fun a e2 => ?_⟩
      cases e2
      exact ⟨o, e, ex.2.1⟩
    · obtain ⟨o, _, _, _, e, ex, _⟩ := I.hok p _ hk
      refine ⟨⟨o, e, ex.1⟩, fun a e2 => ?_⟩
      cases e2
      exact ⟨o, e, ex.2.1⟩
  | _ => exact False.elim ty
def tBM0 (K : PySem.W.Frag) (T : String) (r : V → List V → Hp → VK → Prop) (to : TE) : TE := fun σ H Q => to σ H fun x H1 => tyV K T x H1 ∧ r x [] H1 Q
def tBM (K : PySem.W.Frag) (T : String) (r : V → List V → Hp → VK → Prop) (to : TE) (t : TA) : TE := fun σ H Q => to σ H fun x H1 => tyV K T x H1 ∧ t σ H1 fun xs H2 => r x xs H2 Q
variable {o e : Expr} {es : List Expr} {to : TE} {t : TA} {name : Str} {apos cpos : Pos} {T id : String} {r : V → List V → Hp → VK → Prop}
theorem pe_bm0 (pa : PlainAttrs T) (slot : Slot T name id) (hty : typeOf (.builtin id) = pure (.type "method_descriptor")) (hm : MtR X id r) (ho : PE X o to)
    (hbase : attributeBase o name X.env (eval o X.env) = eval o X.env := by rfl) (hline : (apos.endLine == cpos.line) = true := by rfl) : PE X (.Call (.Attribute o name apos) [] [] cpos) (tBM0 X.K T r to) := by
  intro pins s σ H Q I h
  refine wpAny_Call_method0_late hbase hline (thn (ho pins s σ H _ I h) fun v s1 ⟨x, H1, I1, r1, ty, q1⟩ => ?_)
  obtain ⟨h1, h2⟩ := tyV_is I1 r1 ty
  exact ⟨T, id, pa, slot, hty, h1, h2, Calls.callWith_builtin rfl (PySem.evalArgs_none (hm pins s1 σ H1 x [] v [] Q I1 r1 .nil q1))⟩
theorem pe_bm (pa : PlainAttrs T) (slot : Slot T name id) (hty : typeOf (.builtin id) = pure (.type "method_descriptor")) (hm : MtR X id r) (ho : PE X o to) (ha : PA X (e :: es) t)
    (hbase : attributeBase o name X.env (eval o X.env) = eval o X.env := by rfl)
    (hfew : ((backTo cpos (starEach (e :: es) X.env)).all (fun x => !x.1) && (backToKw cpos (keywordEach [] X.env)).all (fun x => x.1.isSome)
      && decide ((e :: es).length + ([] : List Keyword).length + (if ([] : List Keyword).isEmpty then 0 else 1) < 30)) = true := by rfl)
    (hline : (apos.endLine == cpos.line) = true := by rfl) (hs : starEach (e :: es) X.env = (false, eval e X.env) :: starEach es X.env := by rfl) (hplain : (backTo cpos (starEach es X.env)).any (·.1) = false := by rfl) :
    PE X (.Call (.Attribute o name apos) (e :: es) [] cpos) (tBM X.K T r to t) := by
  intro pins s σ H Q I h
  refine wpAny_Call_method_late hbase hfew hline rfl (thn (ho pins s σ H _ I h) fun v s1 ⟨x, H1, I1, r1, ty, q1⟩ => ?_)
  obtain ⟨h1, h2⟩ := tyV_is I1 r1 ty
  refine ⟨T, id, pa, slot, hty, h1, h2, ?_⟩
  have hA := ha cpos pins s1 σ H1 _ I1 q1
  rw [hs] at hA ⊢
  refine Calls.callWith_builtin (by show (false || (backTo cpos (starEach es X.env)).any (·.1)) = false; rw [hplain] <;> rfl) (Calls.evalArgs_plain ?_)
  exact thn hA fun us s2 ⟨vs, H2, I2, r2, q2⟩ => hm pins s2 σ H2 x vs v us Q I2 r1 r2 q2
/- xs.append(e), list.index on a module's tuple .. are MtR facts of 06m -/
end
end L2

namespace L2
open PySem PySem.Spec PyProof.Rows

def MtM (X : Cx) (id : String) (r : V → List V → Hp → VK → Prop) : Prop :=
  ∀ (pins : List (Addr × Obj)) (s : Shared) (σ : St) (H : Hp) (x : V) (xs : List V) (v : Value) (us : List Value) (Q : VK), Inv X pins σ H s → RelV x v → Vals xs us → r x xs H Q →
    wpAny (model X.prog X.w) X.A (call (.builtin id) (v :: us)) (EP X pins σ Q) X.xe s

/-! ### lists of values -/
theorem Vals.one : ∀ {x : V} {us : List Value}, Vals [x] us → ∃ u, us = [u] ∧ RelV x u
  | _, _, .cons r .nil => ⟨_, rfl, r⟩
theorem Vals.two : ∀ {x y : V} {us : List Value}, Vals [x, y] us → ∃ u v, us = [u, v] ∧ RelV x u ∧ RelV y v
  | _, _, _, .cons r (.cons q .nil) => ⟨_, _, rfl, r, q⟩
theorem Vals.zero : ∀ {us : List Value}, Vals [] us → us = []
  | _, .nil => rfl
theorem Vals.dropLast {xs : List V} {us : List Value} (h : Vals xs us) : Vals xs.dropLast us.dropLast := by
  induction h with
  | nil => exact .nil
  | cons r t ih =>
    cases t with
    | nil => exact .nil
    | cons q t' => exact .cons r ih
theorem Vals.eraseIdx : ∀ {xs : List V} {us : List Value} (i : Nat), Vals xs us → Vals (xs.eraseIdx i) (us.eraseIdx i)
  | _, _, _, .nil => .nil
  | _, _, 0, .cons _ t => t
  | _, _, i + 1, .cons r t => .cons r (Vals.eraseIdx i t)
theorem Vals.reverse {xs : List V} {us : List Value} (h : Vals xs us) : Vals xs.reverse us.reverse := by
  induction h with
  | nil => exact .nil
  | cons r t ih => rw [List.reverse_cons, List.reverse_cons]; exact Vals.append ih (.cons r .nil)
theorem Vals.rep {xs : List V} {us : List Value} (h : Vals xs us) : ∀ k : Nat, Vals (List.replicate k xs).flatten (List.replicate k us).flatten
  | 0 => .nil
  | k + 1 => by
    rw [List.replicate_succ, List.replicate_succ, List.flatten_cons, List.flatten_cons]
    exact Vals.append h (Vals.rep h k)
theorem erase_last {α : Type} (l : List α) : l.eraseIdx (l.length - 1) = l.dropLast := by
  induction l with
  | nil => rfl
  | cons a r ih =>
    cases r with
    | nil => rfl
    | cons b r =>
      have e : (a :: b :: r).length - 1 = ((b :: r).length - 1) + 1 := by
        have h1 : (a :: b :: r).length = r.length + 2 := rfl
        have h2 : (b :: r).length = r.length + 1 := rfl
        omega
      rw [e, List.eraseIdx_cons_succ, ih]
      all_goals rfl
theorem len_erase {α : Type} : ∀ (l : List α) (i : Nat), (l.eraseIdx i).length ≤ l.length
  | [], _ => Nat.le_refl _
  | _ :: _, 0 => Nat.le_succ _
  | _ :: r, i + 1 => Nat.succ_le_succ (len_erase r i)
theorem foldl_rep (its : List Value) : ∀ (k : Nat) (acc : List Value),
    List.foldl (fun x1 x2 => x1 ++ x2) acc.toArray (List.replicate k its.toArray) = (acc ++ (List.replicate k its).flatten).toArray
  | 0, acc => by simp
  | k + 1, acc => by
    have e : acc.toArray ++ its.toArray = (acc ++ its).toArray := by simp
    have e2 : (acc ++ its) ++ (List.replicate k its).flatten = acc ++ (List.replicate (k + 1) its).flatten := by
      rw [List.replicate_succ, List.flatten_cons, List.append_assoc]
    rw [← e2, ← foldl_rep its k (acc ++ its), ← e, List.replicate_succ, List.foldl_cons]

section
variable {X : Cx} {pins : List (Addr × Obj)} {σ : St} {H : Hp} {s : Shared} {l b : Addr} {xs ys zs : List V}

/-! ### the two steps: a tracked list is rewritten, a new list is laid -/
theorem Inv.lset {its its' : List Value} {n : Nat} {f : Array Value → Array Value} {t' : Nat} (I : Inv X pins σ H s) (hH : H l = some (.lst xs))
    (e : s.heap.get? l = some { cls := .type "list", data := .seq its.toArray n }) (hf : f its.toArray = its'.toArray) (hv : Vals ys its') (hz : ys.length ≤ sizeLine) :
    Inv X pins σ (upd H l (.lst ys)) { s with heap := s.heap.update l (Obj.mapSeq f), toks := t' } := by
  have q := PySem.IsL.update e f
  rw [hf] at q
  refine I.write (x := l) (e := l) (by rw [hH]; exact trivial) (.inl rfl) (fun b' u hb hu => (Heap.get?_update_other s.heap (Obj.mapSeq f) (Ne.symm hb)).trans hu) ⟨_, q⟩ ?_
  exact ⟨hz, its', _, hv, q⟩
theorem Inv.lnew {its : List Value} {t' : Nat} (I : Inv X pins σ H s) (hv : Vals ys its) (hz : ys.length ≤ sizeLine) :
    Inv X pins σ (upd H s.heap.objs.size (.lst ys)) { s with heap := s.heap.push { cls := .type "list", data := .seq its.toArray }, toks := t' } :=
  I.laid (fun _ _ q => Heap.get?_push_of_some _ q) (Nat.le_refl _) ⟨hz, its, 0, hv, Heap.get?_push_size _ rfl⟩
theorem Inv.fresh (I : Inv X pins σ H s) : H s.heap.objs.size = none := I.hok.fresh (Nat.le_refl _)
theorem Inv.lstM (I : Inv X pins σ H s) (hH : H l = some (.lst xs)) : xs.length ≤ sizeLine ∧ ∃ (its : List Value) (n : Nat), Vals xs its ∧ xs.length = its.length ∧ s.heap.get? l = some { cls := .type "list", data := .seq its.toArray n } := by
  obtain ⟨z, its, n, r, e⟩ := I.hok l _ hH
  exact ⟨z, its, n, r, r.length, e⟩

theorem notLongL {n : Nat} (h : n ≤ sizeLine) : Builtin.List.listTooLong n = false := by
  unfold Builtin.List.listTooLong
  exact decide_eq_false (by omega)
end

section
variable {X : Cx}

/-! ### methods -/
def rAppend : V → List V → Hp → VK → Prop := fun x vs H Q => ∃ l xs y, x = .ref l ∧ vs = [y] ∧ H l = some (.lst xs) ∧ xs.length < sizeLine ∧ Q .non (upd H l (.lst (xs ++ [y])))
theorem mt_append : MtM X "list.append" rAppend := by
  intro pins s σ H x vs v us Q I rx rv h
  obtain ⟨l, xs, y, rfl, rfl, hH, hz, q⟩ := h
  cases rx
  obtain ⟨u, rfl, ru⟩ := rv.one
  obtain ⟨z, its, n, r, hl, e⟩ := I.lstM hH
  refine call_meets F.slot_list_append ⟨_, e, rfl⟩ F.entry_list_append (F.args_list_append_2 _ _) (PySem.list_append l its.toArray n u (by rw [List.size_toArray]; omega)) ⟨e, ?_⟩
  refine ⟨.non, _, I.lset (its' := its ++ [u]) hH e (by simp) (r.append (.cons ru .nil)) ?_, rfl, q⟩
  rw [List.length_append, List.length_singleton]
  omega

def rExtend : V → List V → Hp → VK → Prop := fun x vs H Q => ∃ l b xs zs, x = .ref l ∧ vs = [.ref b] ∧ H l = some (.lst xs) ∧ H b = some (.lst zs) ∧ xs.length + zs.length ≤ sizeLine ∧ Q .non (upd H l (.lst (xs ++ zs)))
theorem mt_extend : MtM X "list.extend" rExtend := by
  intro pins s σ H x vs v us Q I rx rv h
  obtain ⟨l, b, xs, zs, rfl, rfl, hH, hB, hz, q⟩ := h
  cases rx
  obtain ⟨u, rfl, ru⟩ := rv.one
  cases ru
  obtain ⟨z, its, n, r, hl, e⟩ := I.lstM hH
  obtain ⟨z2, its2, n2, r2, hl2, e2⟩ := I.lstM hB
  have hsz : its.toArray.size + its2.toArray.size ≤ sizeLine := by rw [List.size_toArray, List.size_toArray]; omega
  have hlong : ¬ (!its.toArray.isEmpty && Builtin.List.listTooLong (its.toArray.size + its2.toArray.size)) = true := by
    rw [notLongL hsz, Bool.and_false]
    exact Bool.false_ne_true
  refine call_meets F.slot_list_extend ⟨_, e, rfl⟩ F.entry_list_extend (F.args_list_extend_2 _ _)
    (AutoSeq1.list_extend_list_list_0 l its.toArray n b its2.toArray n2 hlong (by rw [List.size_toArray]; omega) (by omega)) ⟨e, e2, ?_⟩
  refine ⟨.non, _, I.lset (its' := its ++ its2) hH e (by simp) (r.append r2) ?_, rfl, q⟩
  rw [List.length_append]
  omega

def rPop : V → List V → Hp → VK → Prop := fun x vs H Q => ∃ l xs y, x = .ref l ∧ vs = [] ∧ H l = some (.lst xs) ∧ xs[xs.length - 1]? = some y ∧ Q y (upd H l (.lst xs.dropLast))
theorem mt_pop : MtM X "list.pop" rPop := by
  intro pins s σ H x vs v us Q I rx rv h
  obtain ⟨l, xs, y, rfl, rfl, hH, hy, q⟩ := h
  cases rx
  have hus := rv.zero
  subst hus
  obtain ⟨z, its, n, r, hl, e⟩ := I.lstM hH
  obtain ⟨u, hu, ru⟩ := r.get hy
  have hy' : its.toArray[its.toArray.size - 1]? = some u := by
    show its.toArray[its.length - 1]? = some u
    rw [← Array.getElem?_toList, ← hl]
    exact hu
  refine call_meets F.slot_list_pop ⟨_, e, rfl⟩ F.entry_list_pop (F.args_list_pop_1 _) (MeetsSeq.list_pop_last l its.toArray n u hy' (by rw [List.size_toArray]; omega)) ⟨e, ?_⟩
  refine ⟨y, _, I.lset (its' := its.dropLast) hH e ?_ r.dropLast ?_, ru, q⟩
  · show its.toArray.eraseIdxIfInBounds (its.toArray.size - 1) = its.dropLast.toArray
    rw [List.size_toArray, List.eraseIdxIfInBounds_toArray, erase_last]
  · rw [List.length_dropLast]
    omega

def rPopAt : V → List V → Hp → VK → Prop := fun x vs H Q => ∃ l xs i k y, x = .ref l ∧ vs = [.int i] ∧ H l = some (.lst xs) ∧ -(2 ^ 63) ≤ i ∧ i < 2 ^ 63 ∧ seqIndex? i xs.length = some k ∧ xs[k]? = some y ∧ Q y (upd H l (.lst (xs.eraseIdx k)))
theorem mt_popAt : MtM X "list.pop" rPopAt := by
  intro pins s σ H x vs v us Q I rx rv h
  obtain ⟨l, xs, i, k, y, rfl, rfl, hH, h1, h2, hk, hy, q⟩ := h
  cases rx
  obtain ⟨u, rfl, ru⟩ := rv.one
  obtain ⟨t, rfl⟩ := ru
  obtain ⟨z, its, n, r, hl, e⟩ := I.lstM hH
  obtain ⟨w, hw, rw'⟩ := r.get hy
  refine call_meets F.slot_list_pop ⟨_, e, rfl⟩ F.entry_list_pop (F.args_list_pop_2 _ _)
    (MeetsSeq.list_pop_at l its.toArray n i t k w (fitsIndex_both h1 h2) (by rw [List.size_toArray, ← hl]; exact hk) (by rw [← Array.getElem?_toList]; exact hw) (by rw [List.size_toArray]; omega)) ⟨e, ?_⟩
  refine ⟨y, _, I.lset (its' := its.eraseIdx k) hH e ?_ (r.eraseIdx k) ?_, rw', q⟩
  · show its.toArray.eraseIdxIfInBounds k = (its.eraseIdx k).toArray
    rw [List.eraseIdxIfInBounds_toArray]
  · have := len_erase xs k
    omega

def rReverse : V → List V → Hp → VK → Prop := fun x vs H Q => ∃ l xs, x = .ref l ∧ vs = [] ∧ H l = some (.lst xs) ∧ Q .non (upd H l (.lst xs.reverse))
theorem mt_reverse : MtM X "list.reverse" rReverse := by
  intro pins s σ H x vs v us Q I rx rv h
  obtain ⟨l, xs, rfl, rfl, hH, q⟩ := h
  cases rx
  have hus := rv.zero
  subst hus
  obtain ⟨z, its, n, r, hl, e⟩ := I.lstM hH
  refine call_meets F.slot_list_reverse ⟨_, e, rfl⟩ F.entry_list_reverse (F.args_list_reverse_1 _) (AutoSeq1.list_reverse_list_0 l its.toArray n (by rw [List.size_toArray]; omega)) ⟨e, ?_⟩
  refine ⟨.non, _, I.lset (its' := its.reverse) hH e (by simp) r.reverse ?_, rfl, q⟩
  rw [List.length_reverse]
  omega

def rClear : V → List V → Hp → VK → Prop := fun x vs H Q => ∃ l xs, x = .ref l ∧ vs = [] ∧ H l = some (.lst xs) ∧ Q .non (upd H l (.lst []))
theorem mt_clear : MtM X "list.clear" rClear := by
  intro pins s σ H x vs v us Q I rx rv h
  obtain ⟨l, xs, rfl, rfl, hH, q⟩ := h
  cases rx
  have hus := rv.zero
  subst hus
  obtain ⟨z, its, n, r, hl, e⟩ := I.lstM hH
  refine call_meets F.slot_list_clear ⟨_, e, rfl⟩ F.entry_list_clear (F.args_list_clear_1 _) (AutoSeq1.list_clear_list_0 l its.toArray n (by rw [List.size_toArray]; omega)) ⟨e, ?_⟩
  exact ⟨.non, _, I.lset (its' := []) (ys := []) hH e rfl .nil (Nat.zero_le _), rfl, q⟩

/-! ### list + list, list += list, list * int -/
def rCat : R2 := fun x y H Q => ∃ l b xs zs, x = .ref l ∧ y = .ref b ∧ H l = some (.lst xs) ∧ H b = some (.lst zs) ∧ xs.length + zs.length ≤ sizeLine ∧ ∀ p, H p = none → Q (.ref p) (upd H p (.lst (xs ++ zs)))
theorem op_cat : OpR X (binaryOp .Add) rCat := by
  intro pins s σ H x y v u Q I rx ry h
  obtain ⟨l, b, xs, zs, rfl, rfl, hH, hB, hz, q⟩ := h
  cases rx
  cases ry
  obtain ⟨z, its, n, r, hl, e⟩ := I.lstM hH
  obtain ⟨z2, its2, n2, r2, hl2, e2⟩ := I.lstM hB
  refine PySem.P.add_list e e2 ?_ (by rw [List.size_toArray, List.size_toArray]; omega)
  have ea : its.toArray ++ its2.toArray = (its ++ its2).toArray := by simp
  rw [ea]
  exact ⟨.ref _, _, I.lnew (t' := s.toks) (r.append r2) (by rw [List.length_append]; omega), rfl, q _ I.fresh⟩
/-- a list times an int (a negative one is nothing) -/
def rRep : R2 := fun x y H Q => ∃ l k xs, x = .ref l ∧ y = .int k ∧ H l = some (.lst xs) ∧ -(2 ^ 63) ≤ k ∧ k < 2 ^ 63 ∧ xs.length * k.toNat ≤ sizeLine ∧
  ∀ p, H p = none → Q (.ref p) (upd H p (.lst (List.replicate k.toNat xs).flatten))
theorem len_rep {α : Type} (xs : List α) (k : Nat) : (List.replicate k xs).flatten.length = k * xs.length := by
  induction k with
  | zero => simp
  | succ k ih => rw [List.replicate_succ, List.flatten_cons, List.length_append, ih, Nat.succ_mul, Nat.add_comm]
theorem op_rep : OpR X (binaryOp .Mult) rRep := by
  intro pins s σ H x y v u Q I rx ry h
  obtain ⟨l, k, xs, rfl, rfl, hH, h1, h2, hz, q⟩ := h
  cases rx
  obtain ⟨t, rfl⟩ := ry
  obtain ⟨z, its, n, r, hl, e⟩ := I.lstM hH
  have hlen : its.toArray.size * k.toNat ≤ sizeLine := by rw [List.size_toArray, ← hl]; exact hz
  have hcap : ¬ its.toArray.size * k.toNat > (2 ^ 63 - 1) / 8 := by
    have : (sizeLine : Nat) ≤ (2 ^ 63 - 1) / 8 := by decide
    omega
  have hfit : ¬ (!Builtin.List.listFitsIndex k) = true := by
    rw [fitsIndex_both h1 h2]
    exact Bool.false_ne_true
  have hlong : ¬ Builtin.List.listTooLong (its.toArray.size * k.toNat) = true := by
    rw [notLongL hlen]
    exact Bool.false_ne_true
  have hnew : List.foldl (fun x1 x2 => x1 ++ x2) #[] (List.replicate (if its.toArray.isEmpty = true then 0 else k.toNat) its.toArray) = (List.replicate k.toNat its).flatten.toArray := by
    have f0 : ∀ m : Nat, List.foldl (fun x1 x2 => x1 ++ x2) #[] (List.replicate m its.toArray) = (List.replicate m its).flatten.toArray := fun m => by
      have := foldl_rep its m []
      rw [List.nil_append] at this
      exact this
    rw [f0]
    cases its with
    | nil => simp
    | cons a r' => rw [if_neg (by simp)]
  refine wpAny_binaryOp_repeat_ref (T := "list") (U := "int") (by decide) ⟨_, e, rfl⟩ (fun s' => typeIs_int s' k t) noFill_list_mul F.fills_int_mul F.slot_int_rmul repeat_list F.slot_int_index.lookup
    (call_meets F.slot_int_rmul (typeIs_int s k t) F.entry_int_rmul (F.args_int_rmul_2 _ _) (int___rmul___int_list k t l its.toArray n)
      ⟨e, rfl, ⟨_, e, rfl⟩, call_meets F.slot_list_mul ⟨_, e, rfl⟩ F.entry_list_mul (F.args_list_mul_2 _ _) (AutoListH.list___mul___list_int_3 l its.toArray n k t hfit hcap hlong) ⟨e, ?_⟩⟩)
  rw [hnew]
  exact ⟨.ref _, _, I.lnew (t' := s.toks) (r.rep k.toNat) (by rw [len_rep, Nat.mul_comm]; exact hz), rfl, q _ I.fresh⟩

/-! ### del xs[i] -/
theorem del_list {pins : List (Addr × Obj)} {s : Shared} {σ : St} {H : Hp} {l : Addr} {xs : List V} {i : Int} {t : Tok} {k : Nat} {Q : Unit → Shared → Prop} (I : Inv X pins σ H s) (hH : H l = some (.lst xs))
    (h1 : -(2 ^ 63) ≤ i) (h2 : i < 2 ^ 63) (hk : seqIndex? i xs.length = some k) (h : ∀ s', Inv X pins σ (upd H l (.lst (xs.eraseIdx k))) s' → Q () s') :
    wpAny (model X.prog X.w) X.A (delItem (.ref l) (.int i t)) Q X.xe s := by
  obtain ⟨z, its, n, r, hl, e⟩ := I.lstM hH
  refine PySem.P.delItem_list (k := k) e (fitsIndex_both h1 h2) (by rw [List.size_toArray, ← hl]; exact hk) (h _ ?_) (by rw [List.size_toArray]; omega)
  refine I.lset (its' := its.eraseIdx k) (t' := s.toks) hH e ?_ (r.eraseIdx k) ?_
  · show its.toArray.eraseIdxIfInBounds k = (its.eraseIdx k).toArray
    rw [List.eraseIdxIfInBounds_toArray]
  · have := len_erase xs k
    omega
end

/-! ### xs[a:b] = ys -/
section
variable {prog : Program} {w : World} {A : Around} {E : Value → Shared → Prop} {s : Shared}
theorem splice_eq (its its2 : List Value) (a c : Nat) : its.toArray.extract 0 a ++ its2.toArray ++ its.toArray.extract c its.toArray.size = (its.take a ++ its2 ++ its.drop c).toArray := by
  apply Array.toList_inj.mp
  first
    | (simp
       exact List.take_of_length_le (by simp))
    | simp [List.take_of_length_le]
    | simp
theorem bounds_run {a c n : Nat} (hac : a ≤ c) (hc : c ≤ n) : sliceBounds (some (a : Int)) (some (c : Int)) none n = ((a : Int), (c : Int), 1) := by
  simp only [sliceBounds, Option.getD_none]
  have h1 : ¬ ((a : Int) < 0) := by omega
  have h2 : ¬ ((c : Int) < 0) := by omega
  simp only [h1, h2, if_false, show (1 : Int) > 0 by decide, if_true]
  congr 1
  · omega
  · congr 1; omega
set_option maxRecDepth 100000 in
/-- list.__setitem__ with a slice of step one and another list -/
theorem setItem_slice {l b sl : Addr} {items new : Array Value} {n n2 : Nat} {vl vu : Value} {a c : Nat} {Q : Unit → Shared → Prop}
    (e : s.heap.get? l = some { cls := .type "list", data := .seq items n }) (e2 : s.heap.get? b = some { cls := .type "list", data := .seq new n2 }) (hne : l ≠ b)
    (hs : s.heap.IsSliceOf sl vl vu .none) (pl : IsPart vl (some (a : Int))) (pu : IsPart vu (some (c : Int))) (hac : a ≤ c) (hc : c ≤ items.size)
    (hsz : items.size + new.size ≤ sizeLine) (h : Q () { s with heap := s.heap.update l (Obj.mapSeq fun xs => xs.extract 0 a ++ new ++ xs.extract c xs.size) }) :
    wpAny (model prog w) A (setItem (.ref l) (.ref sl) (.ref b)) Q E s := by
  have hl : s.heap.IsList l items := PySem.IsL.isList e
  have hb : s.heap.IsList b new := PySem.IsL.isList e2
  obtain ⟨os, hos, hcs, hds⟩ := id hs
  have hTs : s.TypeIs (.ref sl) "slice" := ⟨os, hos, hcs⟩
  have hstep : ¬ ((rawPart none == rawInt 0) = true) := Bool.false_ne_true
  have hsame : Builtin.List.listSameRef (.ref l) (.ref b) = false := by
    unfold Builtin.List.listSameRef
    exact beq_eq_false_iff_ne.mpr hne
  have hmax : (max (a : Int) (c : Int)).toNat = c := by omega
  have hz' : ((fun xs : Array Value => xs.extract 0 a ++ new ++ xs.extract c xs.size) items).size ≤ sizeLine + 1 := by
    simp only [Array.size_append, Array.size_extract]
    omega
  unfold setItem
  try with_reducible refine wpAny_holding ?_
  first | refine wpAny_bind (wpAny_pure ?_) | skip
  refine wpAny_bind (wpAny_sequenceKey hl.typeIs (by decide) ?_)
  refine wpAny_bind (wpAny_callSpecial?_slot (name := Str.ofString "__setitem__") hl.typeIs slot_list_setitem
    (wpAny_call_entry slot_list_setitem hl.typeIs entry_list_setitem ?_ (args_list_setitem _ _ _)))
  show wpAny _ _ (Builtin.List.listSubscript? (.ref sl) >>= _) _ _ s
  refine wpAny_bind ?_
  unfold Builtin.List.listSubscript?
  refine wpAny_bind (wpAny_specialOf hTs slice_no_index ?_)
  simp only [Option.isNone_none, if_true]
  refine wpAny_pure ?_
  show wpAny _ _ (typeOf (.ref sl) >>= _) _ _ s
  refine wpAny_bind (wpAny_typeOf hTs ?_)
  first
    | rw [if_neg (by decide)]
    | refine PySem.W.KFB.if_not (by decide) ?_
  rw [listSliceParts_eq]
  refine wpAny_bind (wpAny_bind (wpAny_field hos hds (x := .none) rfl (wpAny_bind (wpAny_listPart .none ?_))))
  rw [if_neg hstep]
  refine wpAny_bind (wpAny_field hos hds (x := vl) rfl (wpAny_bind (wpAny_listPart pl ?_)))
  refine wpAny_bind (wpAny_field hos hds (x := vu) rfl (wpAny_bind (wpAny_listPart pu (wpAny_pure ?_))))
  first
    | simp only [hsame, Bool.false_eq_true, if_false]
    | refine PySem.W.KFB.if_not hsame ?_
    | (dsimp only
       rw [if_neg (by rw [hsame]; exact Bool.false_ne_true)])
  refine wpAny_bind (m := Builtin.List.listAllItems (.ref b) "must assign iterable to extended slice") ?_
  unfold Builtin.List.listAllItems
  refine wpAny_bind (wpAny_typeOf hb.typeIs ?_)
  first
    | refine PySem.W.KFB.if_so (by decide) ?_
    | rw [if_pos (by decide)]
    | simp only [beq_self_eq_true, Bool.true_or, if_true]
  unfold Builtin.List.listItems
  refine wpAny_bind (wpAny_seqItems e2 rfl (wpAny_pure ?_))
  refine wpAny_bind (wpAny_bind (wpAny_seqItems e rfl (wpAny_pure ?_)))
  refine wpAny_bind (wpAny_of_eq ((sliceIndices_raw (some (a : Int)) (some (c : Int)) none items.size (by simp)).trans (congrArg (pure : Int × Int × Int → Sem (Int × Int × Int)) (bounds_run hac hc))) ?_)
  show wpAny _ _ (if ((1 : Int) == 1) = true then _ else _) _ _ s
  rw [if_pos (by decide)]
  refine wpAny_bind (wpAny_rule ?_)
  first
    | simp only [notLongL hsz, Bool.false_eq_true, if_false]
    | refine PySem.W.KFB.if_not (notLongL hsz) ?_
  first | refine wpAny_bind (wpAny_pure ?_) | skip
  show wpAny _ _ (updateSeq l (fun xs => xs.extract 0 ((a : Int)).toNat ++ new ++ xs.extract (max (a : Int) (c : Int)).toNat xs.size) >>= _) _ _ s
  rw [hmax, Int.toNat_natCast]
  refine wpAny_bind (wpAny_updateSeq (hz := Nat.le_trans (Nat.le_add_right _ _) hsz) (_hz' := hz') e rfl ?_)
  refine wpAny_bind (wpAny_letGo ?_)
  first
    | exact wpAny_bind (wpAny_pure (wpAny_pure ⟨.none, rfl, wpAny_pure h⟩))
    | exact wpAny_pure ⟨.none, rfl, wpAny_pure h⟩
end

section
variable {X : Cx}
/-- xs[a:c] = ys of another list, at the value level: sl is the slice object that was just made -/
theorem set_slice {pins : List (Addr × Obj)} {s : Shared} {σ : St} {H : Hp} {l b sl : Addr} {xs ys : List V} {a c : Int} {vl vu : Value} {Q : Unit → Shared → Prop} (I : Inv X pins σ H s)
    (hH : H l = some (.lst xs)) (hB : H b = some (.lst ys)) (hne : l ≠ b) (hs : s.heap.IsSliceOf sl vl vu .none) (ra : RelV (.int a) vl) (rc : RelV (.int c) vu) (h0 : 0 ≤ a) (hac : a ≤ c) (hc : c ≤ xs.length)
    (hz : xs.length + ys.length ≤ sizeLine) (h : ∀ s', Inv X pins σ (upd H l (.lst (xs.take a.toNat ++ ys ++ xs.drop c.toNat))) s' → Q () s') :
    wpAny (model X.prog X.w) X.A (setItem (.ref l) (.ref sl) (.ref b)) Q X.xe s := by
  obtain ⟨ta, rfl⟩ := ra
  obtain ⟨tc, rfl⟩ := rc
  obtain ⟨z, its, n, r, hl, e⟩ := I.lstM hH
  obtain ⟨z2, its2, n2, r2, hl2, e2⟩ := I.lstM hB
  obtain ⟨a', rfl⟩ := Int.eq_ofNat_of_zero_le h0
  obtain ⟨c', rfl⟩ := Int.eq_ofNat_of_zero_le (Int.le_trans h0 hac)
  simp only [Int.toNat_natCast] at h
  refine setItem_slice (a := a') (c := c') e e2 hne hs (.int _ _) (.int _ _) (by omega) (by rw [List.size_toArray]; omega) (by rw [List.size_toArray, List.size_toArray]; omega) (h _ ?_)
  refine I.lset (its' := its.take a' ++ its2 ++ its.drop c') (t' := s.toks) hH e ?_ (Vals.append (Vals.append (r.take _) r2) (r.drop _)) ?_
  · exact splice_eq its its2 a' c'
  · rw [List.length_append, List.length_append, List.length_take, List.length_drop]
    omega
end
end L2

namespace L2
open PySem PySem.Spec PyProof.Rows

/-! ### lists of pairs as tables -/
section
variable {κ : Type} [DecidableEq κ]
def valV (kvs : List (κ × V)) (k : κ) : Option V := (kvs.find? fun kv => decide (kv.1 = k)).map (·.2)
/-- in its place, or at the end -/
def putK (kvs : List (κ × V)) (k : κ) (v : V) : List (κ × V) :=
  if (kvs.any fun kv => decide (kv.1 = k)) = true then kvs.map (fun kv => if kv.1 = k then (kv.1, v) else kv) else kvs ++ [(k, v)]
def dropK (kvs : List (κ × V)) (k : κ) : List (κ × V) := kvs.filter fun kv => decide (kv.1 ≠ k)

theorem valV_nil {k : κ} : valV ([] : List (κ × V)) k = none := rfl
theorem valV_pos {p : κ × V} {r : List (κ × V)} {k : κ} (e : p.1 = k) : valV (p :: r) k = some p.2 := by simp [valV, List.find?_cons, e]
theorem valV_neg {p : κ × V} {r : List (κ × V)} {k : κ} (e : ¬ p.1 = k) : valV (p :: r) k = valV r k := by simp [valV, List.find?_cons, e]
theorem valV_any (k : κ) : ∀ kvs : List (κ × V), (kvs.any fun kv => decide (kv.1 = k)) = (valV kvs k).isSome
  | [] => rfl
  | p :: r => by
    rw [List.any_cons]
    by_cases e : p.1 = k
    · simp only [valV_pos e, decide_eq_true e, Bool.true_or, Option.isSome_some]
    · rw [valV_neg e, decide_eq_false e, Bool.false_or]; exact valV_any k r
theorem valV_map (k j : κ) (y : V) : ∀ kvs : List (κ × V), valV (kvs.map fun kv => if kv.1 = k then (kv.1, y) else kv) j = (valV kvs j).map fun x => if j = k then y else x
  | [] => rfl
  | p :: r => by
    have ih := valV_map k j y r
    rw [List.map_cons]
    by_cases h : p.1 = k
    · rw [if_pos h]
      by_cases e : p.1 = j
      · rw [valV_pos (p := (p.1, y)) e, valV_pos e, Option.map_some, if_pos (e.symm.trans h)]
      · rw [valV_neg (p := (p.1, y)) e, valV_neg e, ih]
    · rw [if_neg h]
      by_cases e : p.1 = j
      · rw [valV_pos (p := p) e, valV_pos e, Option.map_some, if_neg (fun z => h (e.trans z))]
      · rw [valV_neg (p := p) e, valV_neg e, ih]
theorem valV_snoc (k j : κ) (y : V) : ∀ kvs : List (κ × V), valV kvs k = none → valV (kvs ++ [(k, y)]) j = if j = k then some y else valV kvs j
  | [], _ => by
    by_cases e : k = j
    · rw [if_pos e.symm]; exact valV_pos (p := (k, y)) e
    · rw [if_neg (fun z => e z.symm)]; exact valV_neg (p := (k, y)) e
  | p :: r, hn => by
    rw [List.cons_append]
    have hk : ¬ p.1 = k := fun z => by rw [valV_pos z] at hn; cases hn
    rw [valV_neg hk] at hn
    have ih := valV_snoc k j y r hn
    by_cases e : p.1 = j
    · rw [valV_pos e, valV_pos e, if_neg (fun z => hk (e.trans z))]
    · rw [valV_neg e, valV_neg e, ih]
theorem valV_put (kvs : List (κ × V)) (k j : κ) (y : V) : valV (putK kvs k y) j = if j = k then some y else valV kvs j := by
  unfold putK
  by_cases a : (kvs.any fun kv => decide (kv.1 = k)) = true
  · rw [if_pos a, valV_map]
    rw [valV_any] at a
    by_cases e : j = k
    · obtain ⟨x, hx⟩ := Option.isSome_iff_exists.mp a
      rw [if_pos e, e, hx, Option.map_some, if_pos rfl]
    · rw [if_neg e]
      cases valV kvs j with
      | none => rfl
      | some x => rw [Option.map_some, if_neg e]
  · rw [if_neg a]
    refine valV_snoc k j y kvs ?_
    rw [valV_any] at a
    cases q : valV kvs k with
    | none => rfl
    | some x => rw [q] at a; exact (a rfl).elim
theorem length_putK (kvs : List (κ × V)) (k : κ) (v : V) : (putK kvs k v).length ≤ kvs.length + 1 := by
  unfold putK
  split
  · rw [List.length_map]; omega
  · rw [List.length_append, List.length_cons, List.length_nil]; omega
theorem putK_new {kvs : List (κ × V)} {k : κ} (v : V) (h : valV kvs k = none) : putK kvs k v = kvs ++ [(k, v)] := by
  unfold putK
  rw [valV_any, h]
  exact if_neg (by decide)

theorem RelO.isSome_eq {o : Option V} {u : Option Value} (r : RelO o u) : o.isSome = u.isSome := by
  cases o with
  | none => cases u with
    | none => rfl
    | some _ => exact (show False from r).elim
  | some _ => cases u with
    | none => exact (show False from r).elim
    | some _ => rfl
theorem RelO.getD {o : Option V} {u : Option Value} {d : V} {d' : Value} (r : RelO o u) (rd : RelV d d') : RelV (o.getD d) (u.getD d') := by
  cases o with
  | none => cases u with
    | none => exact rd
    | some _ => exact (show False from r).elim
  | some _ => cases u with
    | none => exact (show False from r).elim
    | some _ => exact r

/-- raw tables of the same keys -/
theorem KV.val {kvs : List (κ × V)} {vs : List (κ × Value)} (r : KV kvs vs) (k : κ) : RelO (valV kvs k) (valueAt vs k) := by
  unfold KV at r
  induction r with
  | nil => exact True.intro
  | @cons p q ps qs h t ih =>
    obtain ⟨h1, h2⟩ := h
    by_cases e : p.1 = k
    · have e' : q.1 = k := h1.symm.trans e
      have b : valueAt (q :: qs) k = some q.2 := by simp [valueAt, List.find?_cons, e']
      rw [valV_pos e, b]; exact h2
    · have e' : ¬ q.1 = k := fun z => e (h1.trans z)
      have b : valueAt (q :: qs) k = valueAt qs k := by simp [valueAt, List.find?_cons, e']
      rw [valV_neg e, b]; exact ih
theorem KV.any {kvs : List (κ × V)} {vs : List (κ × Value)} (r : KV kvs vs) (k : κ) : (kvs.any fun kv => decide (kv.1 = k)) = vs.any fun kv => decide (kv.1 = k) := by
  unfold KV at r
  induction r with
  | nil => rfl
  | cons h t ih => rw [List.any_cons, List.any_cons, ih, h.1]
theorem KV.repl {kvs : List (κ × V)} {vs : List (κ × Value)} (r : KV kvs vs) (k : κ) {y : V} {u : Value} (ry : RelV y u) :
    KV (kvs.map fun kv => if kv.1 = k then (kv.1, y) else kv) (vs.map fun kv => if kv.1 = k then (kv.1, u) else kv) := by
  unfold KV at r ⊢
  induction r with
  | nil => exact .nil
  | @cons p q ps qs h t ih =>
    rw [List.map_cons, List.map_cons]
    refine .cons ?_ ih
    obtain ⟨h1, h2⟩ := h
    by_cases e : p.1 = k
    · rw [if_pos e, if_pos (h1.symm.trans e)]; exact ⟨h1, ry⟩
    · rw [if_neg e, if_neg (fun z => e (h1.trans z))]; exact ⟨h1, h2⟩
theorem KV.put {kvs : List (κ × V)} {vs : List (κ × Value)} (r : KV kvs vs) (k : κ) {y : V} {u : Value} (ry : RelV y u) : KV (putK kvs k y) (stored vs k u) := by
  unfold putK stored
  rw [r.any k]
  by_cases e : (vs.any fun kv => decide (kv.1 = k)) = true
  · rw [if_pos e, if_pos e]; exact r.repl k ry
  · rw [if_neg e, if_neg e]; exact Paired.snoc r ⟨rfl, ry⟩
theorem KV.drop {kvs : List (κ × V)} {vs : List (κ × Value)} (r : KV kvs vs) (k : κ) : KV (dropK kvs k) (without vs k) := by
  unfold KV at r ⊢
  unfold dropK without
  induction r with
  | nil => exact .nil
  | @cons p q ps qs h t ih =>
    obtain ⟨h1, h2⟩ := h
    rw [List.filter_cons, List.filter_cons]
    by_cases e : p.1 = k
    · have a : ¬ decide (p.1 ≠ k) = true := by simp [e]
      have b : ¬ decide (q.1 ≠ k) = true := by simp [h1.symm.trans e]
      rw [if_neg a, if_neg b]; exact ih
    · have e' : ¬ q.1 = k := fun z => e (h1.trans z)
      have a : decide (p.1 ≠ k) = true := by simp [e]
      have b : decide (q.1 ≠ k) = true := by simp [e']
      rw [if_pos a, if_pos b]; exact .cons ⟨h1, h2⟩ ih
theorem KV.keys {kvs : List (κ × V)} {vs : List (κ × Value)} (r : KV kvs vs) : kvs.map (·.1) = vs.map (·.1) := by
  unfold KV at r
  induction r with
  | nil => rfl
  | cons h t ih => rw [List.map_cons, List.map_cons, ih, h.1]
theorem KV.length {kvs : List (κ × V)} {vs : List (κ × Value)} (r : KV kvs vs) : kvs.length = vs.length := Paired.length r
theorem dropK_le (kvs : List (κ × V)) (k : κ) : (dropK kvs k).length ≤ kvs.length := List.length_filter_le _ _
end


/-! ### a tracked dict, its keys ints and texts or tuples of these -/
theorem kV_is {P : Program} {w : World} {k : Key} {u : Value} (r : RelV (kV k) u) : (mixKind P w).is k u = true := by
  cases k with
  | inl i => obtain ⟨t, e⟩ := (show ∃ t, u = Value.int i t from r); subst e; exact mixKind_int P w i t
  | inr x => obtain ⟨t, e⟩ := (show ∃ t, u = Value.str x t from r); subst e; exact mixKind_str P w x t
theorem kV_inj {a b : Key} (e : kV a = kV b) : a = b := by
  cases a with
  | inl i => cases b with
    | inl j => have e' : V.int i = V.int j := e; injection e' with e'; rw [e']
    | inr y => exact nomatch (show V.int i = V.str y from e)
  | inr x => cases b with
    | inl j => exact nomatch (show V.str x = V.int j from e)
    | inr y => have e' : V.str x = V.str y := e; injection e' with e'; rw [e']
theorem kVs_inj : ∀ {a b : List Key}, a.map kV = b.map kV → a = b
  | [], [], _ => rfl
  | [], _ :: _, e => by simp at e
  | _ :: _, [], e => by simp at e
  | x :: xs, y :: ys, e => by
    rw [List.map_cons, List.map_cons] at e
    injection e with e1 e2
    rw [kV_inj e1, kVs_inj e2]
theorem items_are {P : Program} {w : World} : ∀ {ks : List Key} {us : List Value}, Vals (ks.map kV) us → ItemsAre (mixKind P w) ks us
  | [], _, r => by rw [List.map_nil] at r; cases r; exact .nil
  | k :: ks, _, r => by
    rw [List.map_cons] at r
    cases r with
    | cons h t => exact .cons (kV_is h) (items_are t)

/-- raw entries of a dict with tuple keys -/
abbrev KT (H : Hp) : List (List Key × V) → List (List Key × Addr × Value) → Prop := Paired fun p q => p.1 = q.1 ∧ H q.2.1 = some (.tup (p.1.map kV)) ∧ RelV p.2 q.2.2
theorem KT.val {H : Hp} {kvs : List (List Key × V)} {xs : List (List Key × Addr × Value)} (r : KT H kvs xs) (k : List Key) : RelO (valV kvs k) ((atKey xs k).map (·.2)) := by
  induction r with
  | nil => exact True.intro
  | @cons p q ps qs h t ih =>
    obtain ⟨h1, _, h2⟩ := h
    by_cases e : p.1 = k
    · have e' : q.1 = k := h1.symm.trans e
      have b : atKey (q :: qs) k = some q.2 := by simp [atKey, List.find?_cons, e']
      rw [valV_pos e, b]; exact h2
    · have e' : ¬ q.1 = k := fun z => e (h1.trans z)
      have b : atKey (q :: qs) k = atKey qs k := by simp [atKey, List.find?_cons, e']
      rw [valV_neg e, b]; exact ih
theorem KT.repl {H : Hp} {kvs : List (List Key × V)} {xs : List (List Key × Addr × Value)} (r : KT H kvs xs) (k : List Key) {y : V} {u : Value} (ry : RelV y u) :
    KT H (kvs.map fun kv => if kv.1 = k then (kv.1, y) else kv) (xs.map (putAt k u)) := by
  induction r with
  | nil => exact .nil
  | @cons p q ps qs h t ih =>
    rw [List.map_cons, List.map_cons]
    refine .cons ?_ ih
    obtain ⟨h1, h2, h3⟩ := h
    unfold putAt
    by_cases e : p.1 = k
    · rw [if_pos e, if_pos (h1.symm.trans e)]; exact ⟨h1, h2, ry⟩
    · rw [if_neg e, if_neg (fun z => e (h1.trans z))]; exact ⟨h1, h2, h3⟩
theorem KT.put {H : Hp} {kvs : List (List Key × V)} {xs : List (List Key × Addr × Value)} (r : KT H kvs xs) (k : List Key) {b : Addr} {y : V} {u : Value} (hb : H b = some (.tup (k.map kV))) (ry : RelV y u) :
    KT H (putK kvs k y) (storedH xs k b u) := by
  have e : (kvs.any fun kv => decide (kv.1 = k)) = (atKey xs k).isSome := by
    rw [valV_any, (r.val k).isSome_eq, Option.isSome_map]
  unfold putK storedH
  rw [e]
  by_cases q : (atKey xs k).isSome = true
  · rw [if_pos q, if_pos q]; exact r.repl k ry
  · rw [if_neg q, if_neg q]; exact Paired.snoc r ⟨rfl, hb, ry⟩
theorem KT.keeps {H H' : Hp} {kvs : List (List Key × V)} {xs : List (List Key × Addr × Value)} (r : KT H kvs xs) (ht : ∀ b ys, H b = some (.tup ys) → H' b = some (.tup ys)) : KT H' kvs xs :=
  Paired.mapP r fun _ _ z => ⟨z.1, ht _ _ z.2.1, z.2.2⟩

section
variable {P : Program} {w : World} {H : Hp} {h : Heap} {a : Addr}
theorem rd_of {u : HO} (ok : HOk P w H h) (e : Rd H a u) : ObjOk P w H h a u := e.ok ok
theorem dk_rd {kvs : List (Key × V)} (ok : HOk P w H h) (e : Rd H a (.dK kvs)) : kvs.length ≤ sizeLine ∧ (a == sysModules) = false ∧ ∃ vs, KV kvs vs ∧ h.DictOf (mixKind P w) a vs :=
  show ObjOk P w H h a (.dK kvs) from rd_of ok e
theorem dk_of {kvs : List (Key × V)} (ok : HOk P w H h) (e : H a = some (.dK kvs)) : kvs.length ≤ sizeLine ∧ (a == sysModules) = false ∧ ∃ vs, KV kvs vs ∧ h.DictOf (mixKind P w) a vs := dk_rd ok (.inl e)
/-- a tracked tuple of ints and texts is a key -/
theorem key_of {ks : List Key} (ok : HOk P w H h) (e : H a = some (.tup (ks.map kV))) : (tupleKind (mixKind P w)).is h ks a := by
  obtain ⟨_, its, r, o, h1, h2, n, h3⟩ := (show ObjOk P w H h a (.tup (ks.map kV)) from ok a _ e)
  exact ⟨o, its.toArray, n, h1, h2, h3, by simpa using items_are r⟩
theorem dt_rd {kvs : List (List Key × V)} (ok : HOk P w H h) (e : Rd H a (.dT kvs)) : kvs.length ≤ sizeLine ∧ (a == sysModules) = false ∧
    ∃ xs, KT H kvs xs ∧ h.DictOfH (tupleKind (mixKind P w)) a xs := by
  obtain ⟨z, y, xs, r, o, es, ep, h1, h2, h3, h4, h5⟩ := (show ObjOk P w H h a (.dT kvs) from rd_of ok e)
  refine ⟨z, y, xs, r, o, es, ep, h1, h2, h3, h4, fun x hx => ?_, h5⟩
  have all : ∀ {l : List (List Key × V)} {m : List (List Key × Addr × Value)}, KT H l m → ∀ x ∈ m, (tupleKind (mixKind P w)).is h x.1 x.2.1 := by
    intro l m q
    induction q with
    | nil => intro x hx; exact nomatch hx
    | @cons p q ps qs hq t ih =>
      intro x hx
      rcases List.mem_cons.mp hx with e | hx
      · subst e
        exact key_of ok (by rw [← hq.1]; exact hq.2.1)
      · exact ih x hx
  exact all r x hx
theorem dt_of {kvs : List (List Key × V)} (ok : HOk P w H h) (e : H a = some (.dT kvs)) : kvs.length ≤ sizeLine ∧ (a == sysModules) = false ∧
    ∃ xs, KT H kvs xs ∧ h.DictOfH (tupleKind (mixKind P w)) a xs := dt_rd ok (.inl e)
end

/-- what the dict at a holds at the key y -/
def DGet (H : Hp) (a : Addr) (y : V) (r : Option V) : Prop :=
  (∃ kvs k, Rd H a (.dK kvs) ∧ y = kV k ∧ r = valV kvs k) ∨ ∃ kvs k b, Rd H a (.dT kvs) ∧ y = .ref b ∧ H b = some (.tup (k.map kV)) ∧ r = valV kvs k
/-- the heap behind a[y] = v -/
def DPut (H : Hp) (a : Addr) (y v : V) (H' : Hp) : Prop :=
  (∃ kvs k, H a = some (.dK kvs) ∧ y = kV k ∧ kvs.length < sizeLine ∧ H' = upd H a (.dK (putK kvs k v))) ∨
  ∃ kvs k b, H a = some (.dT kvs) ∧ y = .ref b ∧ H b = some (.tup (k.map kV)) ∧ kvs.length < sizeLine ∧ H' = upd H a (.dT (putK kvs k v))
theorem DGet.k {H : Hp} {a : Addr} {kvs : List (Key × V)} {k : Key} (e : H a = some (.dK kvs)) : DGet H a (kV k) (valV kvs k) := .inl ⟨kvs, k, .inl e, rfl, rfl⟩
theorem DGet.t {H : Hp} {a b : Addr} {kvs : List (List Key × V)} {k : List Key} (e : H a = some (.dT kvs)) (eb : H b = some (.tup (k.map kV))) : DGet H a (.ref b) (valV kvs k) := .inr ⟨kvs, k, b, .inl e, rfl, eb, rfl⟩
theorem DPut.k {H : Hp} {a : Addr} {kvs : List (Key × V)} {k : Key} {v : V} (e : H a = some (.dK kvs)) (hl : kvs.length < sizeLine) : DPut H a (kV k) v (upd H a (.dK (putK kvs k v))) := .inl ⟨kvs, k, e, rfl, hl, rfl⟩
theorem DPut.t {H : Hp} {a b : Addr} {kvs : List (List Key × V)} {k : List Key} {v : V} (e : H a = some (.dT kvs)) (eb : H b = some (.tup (k.map kV))) (hl : kvs.length < sizeLine) :
    DPut H a (.ref b) v (upd H a (.dT (putK kvs k v))) := .inr ⟨kvs, k, b, e, rfl, eb, hl, rfl⟩


section
variable {X : Cx} {pins : List (Addr × Obj)} {σ : St} {H : Hp} {s : Shared} {a : Addr} {y v : V} {u r : Value} {o : Option V} {A : Around} {E : Value → Shared → Prop}

theorem Inv.big (I : Inv X pins σ H s) : sysModules < s.heap.objs.size := by
  have h : mainGlobals < s.heap.objs.size := (I.mod.glob.keeps I.bk).lt
  exact Nat.lt_trans (by decide) h

/-- d[y], there -/
theorem d_getItem {Q : Value → Shared → Prop} (hu : A.units + 1 < cLine) (I : Inv X pins σ H s) (g : DGet H a y (some v)) (ry : RelV y u) (h : ∀ w' s', Inv X pins σ H s' → RelV v w' → Q w' s') :
    wpAny (model X.prog X.w) A (getItem (.ref a) u) Q E s := by
  rcases g with ⟨kvs, k, e, ey, l⟩ | ⟨kvs, k, b, e, ey, eb, l⟩
  · subst ey
    obtain ⟨z, hd, vs, rel, dd⟩ := dk_rd I.hok e
    obtain ⟨w', hw, rw'⟩ := RelO.some_of (v := v) (o := valueAt vs k) (by rw [l]; exact rel.val k)
    exact wpAny_getItem_of (kV_is ry) dd.mapOf hw (h w' _ (I.tok _) rw')
  · subst ey
    cases (show u = Value.ref b from ry)
    obtain ⟨z, hd, xs, rel, dd⟩ := dt_rd I.hok e
    obtain ⟨w', hw, rw'⟩ := RelO.some_of (v := v) (o := (atKey xs k).map (·.2)) (by rw [l]; exact rel.val k)
    obtain ⟨p, hp, hp2⟩ := Option.map_eq_some_iff.mp hw
    refine wpAny_getItem_heap (tupleKind_room_in1 hu) (key_of I.hok eb) dd hp ?_
    rw [hp2]
    exact h w' _ (I.tok _) rw'
/-- y in d -/
theorem d_in {Q : Value → Shared → Prop} (hu : A.units + 1 < cLine) (I : Inv X pins σ H s) (g : DGet H a y o) (ry : RelV y u) (h : ∀ s', Inv X pins σ H s' → Q (.bool o.isSome) s') :
    wpAny (model X.prog X.w) A (compareOp .In u (.ref a)) Q E s := by
  rcases g with ⟨kvs, k, e, ey, l⟩ | ⟨kvs, k, b, e, ey, eb, l⟩
  · subst ey
    obtain ⟨z, hd, vs, rel, dd⟩ := dk_rd I.hok e
    refine wpAny_in_of (kV_is ry) hd dd.mapOf ?_
    rw [← (rel.val k).isSome_eq, ← l]
    exact h _ (I.tok _)
  · subst ey
    cases (show u = Value.ref b from ry)
    obtain ⟨z, hd, xs, rel, dd⟩ := dt_rd I.hok e
    refine wpAny_in_heap (tupleKind_room_in1 hu) (key_of I.hok eb) hd dd ?_
    have q := (rel.val k).isSome_eq
    rw [Option.isSome_map] at q
    rw [← q, ← l]
    exact h _ (I.tok _)
theorem d_notIn {Q : Value → Shared → Prop} (hu : A.units + 1 < cLine) (I : Inv X pins σ H s) (g : DGet H a y o) (ry : RelV y u) (h : ∀ s', Inv X pins σ H s' → Q (.bool (!o.isSome)) s') :
    wpAny (model X.prog X.w) A (compareOp .NotIn u (.ref a)) Q E s := by
  rcases g with ⟨kvs, k, e, ey, l⟩ | ⟨kvs, k, b, e, ey, eb, l⟩
  · subst ey
    obtain ⟨z, hd, vs, rel, dd⟩ := dk_rd I.hok e
    refine wpAny_notIn_of (kV_is ry) hd dd.mapOf ?_
    rw [← (rel.val k).isSome_eq, ← l]
    exact h _ (I.tok _)
  · subst ey
    cases (show u = Value.ref b from ry)
    obtain ⟨z, hd, xs, rel, dd⟩ := dt_rd I.hok e
    refine wpAny_notIn_heap (tupleKind_room_in1 hu) (key_of I.hok eb) hd dd ?_
    have q := (rel.val k).isSome_eq
    rw [Option.isSome_map] at q
    rw [← q, ← l]
    exact h _ (I.tok _)
/-- a dict's object is replaced -/
theorem d_write {h' : Heap} {t' : Nat} {ob : HO} (I : Inv X pins σ H s) (mu : Mut (H a)) (hs : Heap.SameBut a s.heap h') (he : ∃ q, h'.get? a = some q) (new : ObjOk X.prog X.w (upd H a ob) h' a ob) :
    Inv X pins σ (upd H a ob) { s with heap := h', toks := t' } :=
  I.write (x := a) (e := a) mu (.inl rfl) (fun b q hb z => (hs.2 b hb).trans z) he new
theorem dk_new {P : Program} {w : World} {H' : Hp} {h' : Heap} {kvs : List (Key × V)} {vs : List (Key × Value)} (z : kvs.length ≤ sizeLine) (hd : (a == sysModules) = false) (rel : KV kvs vs) (dd : h'.DictOf (mixKind P w) a vs) :
    ObjOk P w H' h' a (.dK kvs) := ⟨z, hd, vs, rel, dd⟩
/-- d[y] = v -/
theorem d_setItem {H' : Hp} {Q : Unit → Shared → Prop} (hu : A.units + 1 < cLine) (I : Inv X pins σ H s) (g : DPut H a y v H') (ry : RelV y u) (rv : RelV v r) (h : ∀ s', Inv X pins σ H' s' → Q () s') :
    wpAny (model X.prog X.w) A (setItem (.ref a) u r) Q E s := by
  rcases g with ⟨kvs, k, e, ey, l, eH⟩ | ⟨kvs, k, b, e, ey, eb, l, eH⟩
  · subst ey eH
    obtain ⟨z, hd, vs, rel, dd⟩ := dk_of I.hok e
    have hz : vs.length ≤ sizeLine := by rw [← rel.length]; exact z
    have hl : (putK kvs k v).length ≤ sizeLine := by have := length_putK kvs k v; omega
    refine wpAny_setItem_pairs (hsz := hz) (kV_is ry) dd fun h' dd' hs => h _ ?_
    have he : ∃ q, h'.get? a = some q := let ⟨q, _, _, hq, _⟩ := dd'; ⟨q, hq⟩
    exact d_write I (by rw [e]; exact True.intro) hs he (dk_new hl hd (rel.put k rv) dd')
  · subst ey eH
    cases (show u = Value.ref b from ry)
    obtain ⟨z, hd, xs, rel, dd⟩ := dt_of I.hok e
    have hz : xs.length ≤ sizeLine := by rw [← Paired.length rel]; exact z
    have hl : (putK kvs k v).length ≤ sizeLine := by have := length_putK kvs k v; omega
    refine wpAny_setItem_heap (hsz := hz) (tupleKind_room_in1 hu) (key_of I.hok eb) dd fun h' dd' hs => h _ ?_
    obtain ⟨q, es, ep, hq, h2, h3, h4, _, h5⟩ := dd'
    refine d_write I (by rw [e]; exact True.intro) hs ⟨q, hq⟩ ⟨hl, hd, _, (rel.put k eb rv).keeps fun c ys ec => ?_, q, es, ep, hq, h2, h3, h4, h5⟩
    rw [upd_ne (ne_of ec e (fun z => nomatch z))]
    exact ec
end

section
variable {X : Cx} {pins : List (Addr × Obj)} {σ : St} {H : Hp} {s : Shared} {a : Addr} {kvs : List (Key × V)} {k : Key} {u : Value} {A : Around} {E : Value → Shared → Prop}
/-- del d[k] -/
theorem d_delItem {Q : Unit → Shared → Prop} (I : Inv X pins σ H s) (e : H a = some (.dK kvs)) (ry : RelV (kV k) u) (l : (valV kvs k).isSome = true) (h : ∀ s', Inv X pins σ (upd H a (.dK (dropK kvs k))) s' → Q () s') :
    wpAny (model X.prog X.w) A (delItem (.ref a) u) Q E s := by
  obtain ⟨z, hd, vs, rel, dd⟩ := dk_of I.hok e
  refine wpAny_delItem_slot dd.typeIs (by decide) PySem.F.slot_dict_delitem
    (call_meetsIn PySem.F.slot_dict_delitem dd.typeIs PySem.F.entry_dict_delitem (PySem.F.args_dict_delitem_2 _ _) (meets_dict_delitem_pairs (mixKind X.prog X.w) a (kV_is ry)) ⟨vs, dd, by rw [← rel.length]; exact z, by rw [← (rel.val k).isSome_eq]; exact l, fun h' dd' hs => h _ ?_⟩)
  have he : ∃ q, h'.get? a = some q := let ⟨q, _, _, hq, _⟩ := dd'; ⟨q, hq⟩
  exact d_write I (by rw [e]; exact True.intro) hs he (dk_new (Nat.le_trans (dropK_le kvs k) z) hd (rel.drop k) dd')
/-- d.pop(k[, x]), there -/
theorem d_pop {v : V} {more : List Value} {Q : Value → Shared → Prop} (I : Inv X pins σ H s) (e : H a = some (.dK kvs)) (ry : RelV (kV k) u) (l : valV kvs k = some v) (hm : more = [] ∨ ∃ x, more = [x])
    (h : ∀ w' s', Inv X pins σ (upd H a (.dK (dropK kvs k))) s' → RelV v w' → Q w' s') : wpAny (model X.prog X.w) A (call (.builtin "dict.pop") (.ref a :: u :: more)) Q E s := by
  obtain ⟨z, hd, vs, rel, dd⟩ := dk_of I.hok e
  obtain ⟨w', hw, rw'⟩ := RelO.some_of (v := v) (o := valueAt vs k) (by rw [← l]; exact rel.val k)
  have hp : (keyPart u).isSome = true := by
    cases k with
    | inl i => obtain ⟨t, q⟩ := (show ∃ t, u = Value.int i t from ry); subst q; rfl
    | inr x => obtain ⟨t, q⟩ := (show ∃ t, u = Value.str x t from ry); subst q; rfl
  have ha : argsOk "dict.pop" ⟨.ref a :: u :: more, []⟩ := by
    rcases hm with q | ⟨x, q⟩
    · subst q; exact PySem.F.args_dict_pop_2 _ _
    · subst q; exact PySem.F.args_dict_pop_3 _ _ _
  refine call_meetsIn PySem.F.slot_dict_pop dd.typeIs PySem.F.entry_dict_pop ha (meets_dict_pop_there (mixKind X.prog X.w) a (kV_is ry) more hm hp)
    ⟨vs, w', dd, by rw [← rel.length]; exact z, hw, fun h' dd' hs => h w' _ ?_ rw'⟩
  have he : ∃ q, h'.get? a = some q := let ⟨q, _, _, hq, _⟩ := dd'; ⟨q, hq⟩
  exact d_write I (by rw [e]; exact True.intro) hs he (dk_new (Nat.le_trans (dropK_le kvs k) z) hd (rel.drop k) dd')
/-- d.pop(k, x), not there -/
theorem d_popD {r : Value} {Q : Value → Shared → Prop} (I : Inv X pins σ H s) (e : H a = some (.dK kvs)) (ry : RelV (kV k) u) (l : valV kvs k = none) (h : ∀ s', Inv X pins σ H s' → Q r s') :
    wpAny (model X.prog X.w) A (call (.builtin "dict.pop") [.ref a, u, r]) Q E s := by
  obtain ⟨z, hd, vs, rel, dd⟩ := dk_of I.hok e
  have hn : valueAt vs k = none := RelO.none_of (by rw [← l]; exact rel.val k)
  have hp : (keyPart u).isSome = true := by
    cases k with
    | inl i => obtain ⟨t, q⟩ := (show ∃ t, u = Value.int i t from ry); subst q; rfl
    | inr x => obtain ⟨t, q⟩ := (show ∃ t, u = Value.str x t from ry); subst q; rfl
  exact call_meetsIn PySem.F.slot_dict_pop dd.typeIs PySem.F.entry_dict_pop (PySem.F.args_dict_pop_3 _ _ _) (meets_dict_pop_default (mixKind X.prog X.w) a (kV_is ry) hd hp r) ⟨vs, dd, hn, h _ (I.tok _)⟩
/-- d.clear() -/
theorem d_clear {Q : Value → Shared → Prop} (I : Inv X pins σ H s) (e : H a = some (.dK kvs)) (h : ∀ s', Inv X pins σ (upd H a (.dK [])) s' → Q .none s') : wpAny (model X.prog X.w) A (call (.builtin "dict.clear") [.ref a]) Q E s := by
  obtain ⟨z, hd, vs, rel, dd⟩ := dk_of I.hok e
  refine call_meetsIn PySem.F.slot_dict_clear dd.typeIs PySem.F.entry_dict_clear (PySem.F.args_dict_clear_1 _) (meets_dict_clear (mixKind X.prog X.w) a) ⟨vs, dd, by rw [← rel.length]; exact z, fun h' dd' hs => h _ ?_⟩
  have he : ∃ q, h'.get? a = some q := let ⟨q, _, _, hq, _⟩ := dd'; ⟨q, hq⟩
  exact d_write (t' := s.toks) I (by rw [e]; exact True.intro) hs he (dk_new (Nat.zero_le _) hd .nil dd')
/-- len(d) -/
theorem d_len {Q : Value → Shared → Prop} (I : Inv X pins σ H s) (e : Rd H a (.dK kvs)) (h : ∀ t s', Inv X pins σ H s' → Q (.int kvs.length t) s') : wpAny (model X.prog X.w) A (call (.builtin "len") [.ref a]) Q E s := by
  obtain ⟨z, hd, vs, rel, dd⟩ := dk_rd I.hok e
  refine call_len_dict hd dd (by rw [← rel.length]; rw [sizeLine_eq] at z; omega) ?_
  rw [← rel.length]
  exact h _ _ (I.tok _)
/-- if d -/
theorem d_truth {Q : Bool → Shared → Prop} (I : Inv X pins σ H s) (e : Rd H a (.dK kvs)) (h : ∀ s', Inv X pins σ H s' → Q (!kvs.isEmpty) s') : wpAny (model X.prog X.w) A (truthy (.ref a)) Q E s := by
  obtain ⟨z, hd, vs, rel, dd⟩ := dk_rd I.hok e
  refine wpAny_truthy_dict hd dd (by rw [← rel.length]; rw [sizeLine_eq] at z; omega) ?_
  have q : kvs.isEmpty = vs.isEmpty := by cases rel <;> rfl
  rw [← q]
  exact h _ (I.tok _)
end


/-! ### readings and rules -/
/-- the element of a subscription, not a slice -/
def NoSl (i : Expr) : Prop := ∀ ov iv, subscripted i false ov iv = operate [ov, iv] (getItem ov iv)
theorem subD_of {prog : Program} {w : World} {A : Around} {E : Value → Shared → Prop} {s : Shared} {env : Env} {value slice : Expr} {pos : Pos} {T id : String} {Q : Value → Shared → Prop}
    (hl : typeLookup (.type T) "__getitem__" = pure (some (.builtin id))) (hs : NoSl slice)
    (h : wpAny (model prog w) A (eval value env) (fun o s₁ => wpAny (model prog w) A (eval slice env) (fun i s₂ => s₂.TypeIs o T ∧ wpAny (model prog w) A (getItem o i) Q E s₂) E s₁) E s) :
    wpAny (model prog w) A (eval (.Subscript value slice pos) env) Q E s := by
  refine Subscript_ (wpAny_mono h (fun o s₁ h₁ => wpAny_mono h₁ (fun i s₂ h₂ => ?_) fun _ _ x => x) fun _ _ x => x)
  obtain ⟨hT, h₂⟩ := h₂
  unfold subscriptTail
  refine wpAny_bind ?_
  rw [getitemInPython_of_ne hT.not_modules]
  refine wpAny_bind (wpAny_specialOf hT hl ?_)
  have fin : wpAny (model prog w) A (subscripted slice false o i) (fun r s₃ => wpAny (model prog w) A (letTemporaryGo value o r >>= fun _ => pure r) Q E s₃) E s₂ := by
    rw [hs o i]
    exact wpAny_operating (wpAny_mono h₂ (fun r s₃ h₃ => wpAny_bind (wpAny_letTemporaryGo (wpAny_pure h₃))) fun _ _ x => x)
  first
    | exact wpAny_pure (wpAny_bind fin)
    | exact wpAny_bind (wpAny_pure (wpAny_bind fin))
    | exact wpAny_bind fin

theorem dict_typeIs {X : Cx} {pins : List (Addr × Obj)} {σ : St} {H : Hp} {s : Shared} {a : Addr} {y : V} {o : Option V} (I : Inv X pins σ H s) (g : DGet H a y o) : s.TypeIs (.ref a) "dict" := by
  rcases g with ⟨kvs, k, e, _, _⟩ | ⟨kvs, k, b, e, _, _, _⟩
  · obtain ⟨_, _, vs, _, dd⟩ := dk_rd I.hok e
    exact dd.typeIs
  · obtain ⟨_, _, xs, _, dd⟩ := dt_rd I.hok e
    exact dd.typeIs
theorem dict_noDict {X : Cx} {pins : List (Addr × Obj)} {σ : St} {H : Hp} {s : Shared} {a : Addr} {y : V} {o : Option V} (I : Inv X pins σ H s) (g : DGet H a y o) :
    ∀ b, Value.ref a = .ref b → ∃ ob, s.heap.get? b = some ob ∧ ob.dict = none := fun b q => by
  cases q
  rcases g with ⟨kvs, k, e, _, _⟩ | ⟨kvs, k, b, e, _, _, _⟩
  · obtain ⟨_, _, vs, _, ob, _, _, h1, h2, _⟩ := dk_rd I.hok e
    exact ⟨ob, h1, h2.2.1⟩
  · obtain ⟨_, _, xs, _, ob, _, _, h1, h2, _⟩ := dt_rd I.hok e
    exact ⟨ob, h1, h2.2.1⟩

/-- d[y] -/
def tDGet (td ty : TE) : TE := fun σ H Q => td σ H fun x H1 => ty σ H1 fun y H2 => ∃ a v, x = .ref a ∧ DGet H2 a y (some v) ∧ Q v H2
/-- y in d, y not in d -/
def tDIn (ty td : TE) : TE := fun σ H Q => ty σ H fun y H1 => td σ H1 fun x H2 => ∃ a o, x = .ref a ∧ DGet H2 a y o ∧ Q (.bl o.isSome) H2
def tDNotIn (ty td : TE) : TE := fun σ H Q => ty σ H fun y H1 => td σ H1 fun x H2 => ∃ a o, x = .ref a ∧ DGet H2 a y o ∧ Q (.bl (!o.isSome)) H2
/-- d[y] = v -/
def sDPut (td ty tv : TE) : TS := fun D σ H => tv σ H fun v H1 => td σ H1 fun x H2 => ty σ H2 fun y H3 => ∃ a H4, x = .ref a ∧ DPut H3 a y v H4 ∧ D.nx σ H4
/-- d[y] op= v -/
def sDAug (td ty tv : TE) (rd : V → V → Hp → VK → Prop) : TS := fun D σ H => td σ H fun x H1 => ty σ H1 fun y H2 => ∃ a v, x = .ref a ∧ DGet H2 a y (some v) ∧
  tv σ H2 fun y2 H3 => rd v y2 H3 fun z H4 => ∃ H5, DPut H4 a y z H5 ∧ D.nx σ H5
/-- del d[y] -/
def sDDel (td ty : TE) : TS := fun D σ H => td σ H fun x H1 => ty σ H1 fun y H2 => ∃ a kvs k, x = .ref a ∧ H2 a = some (.dK kvs) ∧ y = kV k ∧ (valV kvs k).isSome = true ∧ D.nx σ (upd H2 a (.dK (dropK kvs k)))

section
variable {X : Cx} {o i e value : Expr} {pos pos' tpos : Pos} {td ty tv : TE}
theorem pe_dget (hu : X.A.units + 1 < cLine) (ho : PE X o td) (hi : PE X i ty) (hs : NoSl i) : PE X (.Subscript o i pos) (tDGet td ty) := by
  intro pins s σ H Q I h
  refine subD_of PySem.F.slot_dict_getitem.lookup hs (thn (ho pins s σ H _ I h) fun u s1 ⟨x, H1, I1, rx, q1⟩ => thn (hi pins s1 σ H1 _ I1 q1) fun iv s2 ⟨y, H2, I2, ry, a, v, ex, g, q2⟩ => ?_)
  subst ex
  obtain rfl : u = Value.ref a := rx
  exact ⟨dict_typeIs I2 g, d_getItem hu I2 g ry fun w' s3 I3 rw' => ⟨v, H2, I3, rw', q2⟩⟩
theorem pc_din (hu : X.A.units + 1 < cLine) (hi : PE X i ty) (ho : PE X o td) : PC X .In i o (tDIn ty td) := by
  intro pins s σ H Q I h
  refine thn (hi pins s σ H _ I h) fun iv s1 ⟨y, H1, I1, ry, q1⟩ => thn (ho pins s1 σ H1 _ I1 q1) fun u s2 ⟨x, H2, I2, rx, a, ov, ex, g, q2⟩ => ?_
  subst ex
  obtain rfl : u = Value.ref a := rx
  exact d_in hu I2 g ry fun s3 I3 => ⟨.bl ov.isSome, H2, I3, rfl, q2⟩
theorem pc_dnotin (hu : X.A.units + 1 < cLine) (hi : PE X i ty) (ho : PE X o td) : PC X .NotIn i o (tDNotIn ty td) := by
  intro pins s σ H Q I h
  refine thn (hi pins s σ H _ I h) fun iv s1 ⟨y, H1, I1, ry, q1⟩ => thn (ho pins s1 σ H1 _ I1 q1) fun u s2 ⟨x, H2, I2, rx, a, ov, ex, g, q2⟩ => ?_
  subst ex
  obtain rfl : u = Value.ref a := rx
  exact d_notIn hu I2 g ry fun s3 I3 => ⟨.bl (!ov.isSome), H2, I3, rfl, q2⟩
theorem ps_dput (hu : X.A.units + 1 < cLine) (ho : PE X o td) (hi : PE X i ty) (hv : PE X value tv) (hs : swapsWith value (some (.Subscript o i pos')) pos.line X.env = pure false) :
    PS X (.Assign [.Subscript o i pos'] value pos) (sDPut td ty tv) := by
  intro pins s σ H D I h
  refine wpAny_Assign_Subscript (thn (hv pins s σ H _ I h) fun r s1 ⟨v, H1, I1, rv, q1⟩ => thn (ho pins s1 σ H1 _ I1 q1) fun u s2 ⟨x, H2, I2, rx, q2⟩ => thn (hi pins s2 σ H2 _ I2 q2) fun iv s3 ⟨y, H3, I3, ry, a, H4, ex, g, q3⟩ => ?_) hs
  subst ex
  obtain rfl : u = Value.ref a := rx
  exact d_setItem hu I3 g ry rv fun s4 I4 => ⟨σ, H4, I4, q3⟩
theorem ps_daug {op : Operator} {rd : V → V → Hp → VK → Prop} (hu : X.A.units + 1 < cLine) (ho : PE X o td) (hi : PE X i ty) (hv : PE X value tv) (hop : InOp X op rd)
    (ha : ∀ ov iv new, augStore i ov iv new = (do holding [new, ov, iv] (setItem ov iv new); release [new, ov, iv] []; pure .next)) : PS X (.AugAssign (.Subscript o i tpos) op value pos) (sDAug td ty tv rd) := by
  intro pins s σ H D I h
  refine wpAny_AugAssign_SubscriptAny (thn (ho pins s σ H _ I h) fun u s1 ⟨x, H1, I1, rx, q1⟩ => thn (hi pins s1 σ H1 _ I1 q1) fun iv s2 ⟨y, H2, I2, ry, a, v, ex, g, q2⟩ => ?_) ha
  subst ex
  obtain rfl : u = Value.ref a := rx
  refine d_getItem hu I2 g ry fun w' s3 I3 rw' => thn (hv pins s3 σ H2 _ I3 q2) fun w2 s4 ⟨y2, H3, I4, ry2, q3⟩ => thn (hop pins s4 σ H3 v y2 w' w2 _ I4 rw' ry2 q3) fun w3 s5 ⟨z, H4, I5, rz, H5, g5, q4⟩ => ?_
  exact d_setItem hu I5 g5 ry rz fun s6 I6 => ⟨σ, H5, I6, q4⟩
theorem ps_ddel (ho : PE X o td) (hi : PE X i ty) : PS X (.Delete [.Subscript o i tpos] pos) (sDDel td ty) := by
  intro pins s σ H D I h
  refine wpAny_Delete (wpAny_deleteEach_cons (wpAny_delete_Subscript (thn (ho pins s σ H _ I h) fun u s1 ⟨x, H1, I1, rx, q1⟩ => thn (hi pins s1 σ H1 _ I1 q1) fun iv s2 ⟨y, H2, I2, ry, a, kvs, k, ex, e, ey, l, q2⟩ => ?_)))
  subst ex ey
  obtain rfl : u = Value.ref a := rx
  exact d_delItem I2 e ry l fun s3 I3 => wpAny_deleteEach_nil ⟨σ, _, I3, q2⟩
end


/-! ### displays -/
theorem dk_empty {P : Program} {w : World} {H : Hp} (h : Heap) (hb : sysModules < h.objs.size) : ObjOk P w H (h.push { cls := .type "dict", data := .dict #[] }) h.objs.size (.dK []) :=
  ⟨Nat.zero_le _, beq_eq_false_iff_ne.mpr (Ne.symm (Nat.ne_of_lt hb)), [], .nil, Heap.DictOf.new h⟩
theorem dt_empty {P : Program} {w : World} {H : Hp} (h : Heap) (hb : sysModules < h.objs.size) : ObjOk P w H (h.push { cls := .type "dict", data := .dict #[] }) h.objs.size (.dT []) :=
  ⟨Nat.zero_le _, beq_eq_false_iff_ne.mpr (Ne.symm (Nat.ne_of_lt hb)), [], .nil, _, #[], 0, Heap.get?_push_size _ rfl, ⟨rfl, rfl, rfl⟩, rfl, rfl, List.nodup_nil⟩
/-- {}, to be a dict of the kind that is wanted -/
def tDNewK : TE := fun _ H Q => ∀ p, H p = none → Q (.ref p) (upd H p (.dK []))
def tDNewT : TE := fun _ H Q => ∀ p, H p = none → Q (.ref p) (upd H p (.dT []))
section
variable {X : Cx} {pos : Pos}
theorem pe_dnewK : PE X (.Dict [] [] pos) tDNewK := fun pins s σ H Q I h =>
  wpAny_Dict_empty ⟨.ref s.heap.objs.size, _, I.laid (a := s.heap.objs.size) (o := .dK []) (t' := s.toks) (fun _ _ q => Heap.get?_push_of_some _ q) (Nat.le_refl _) (dk_empty s.heap I.big), rfl, h _ (I.hok.fresh (Nat.le_refl _))⟩
theorem pe_dnewT : PE X (.Dict [] [] pos) tDNewT := fun pins s σ H Q I h =>
  wpAny_Dict_empty ⟨.ref s.heap.objs.size, _, I.laid (a := s.heap.objs.size) (o := .dT []) (t' := s.toks) (fun _ _ q => Heap.get?_push_of_some _ q) (Nat.le_refl _) (dt_empty s.heap I.big), rfl, h _ (I.hok.fresh (Nat.le_refl _))⟩
end

/-- the pairs of a display, from the left -/
def tPairs : List (TE × TE) → St → Hp → (List (V × V) → Hp → Prop) → Prop
  | [], _, H, Q => Q [] H
  | (tk, tv) :: r, σ, H, Q => tk σ H fun x H1 => tv σ H1 fun y H2 => tPairs r σ H2 fun ps H3 => Q ((x, y) :: ps) H3
abbrev VV : List (V × V) → List (Value × Value) → Prop := Paired fun p q => RelV p.1 q.1 ∧ RelV p.2 q.2
def PPs (X : Cx) (pos : Pos) (keys : List (Option Expr)) (values : List Expr) (trs : List (TE × TE)) : Prop :=
  ∀ (pins : List (Addr × Obj)) (s : Shared) (σ : St) (H : Hp) (Q : List (V × V) → Hp → Prop), Inv X pins σ H s → tPairs trs σ H Q →
    wpAny (model X.prog X.w) X.A (evalPairs (pairTrees keys values X.env pos)) (fun vs s' => ∃ ps H', Inv X pins σ H' s' ∧ VV ps vs ∧ Q ps H') X.xe s
theorem pps_nil {X : Cx} {pos : Pos} : PPs X pos [] [] [] := fun pins s σ H Q I h => pairTrees_nil_walk ⟨[], H, I, .nil, h⟩
theorem pps_cons {X : Cx} {pos : Pos} {k v : Expr} {ks : List (Option Expr)} {vs : List Expr} {tk tv : TE} {trs : List (TE × TE)} (hk : PE X k tk) (hv : PE X v tv) (hr : PPs X pos ks vs trs) :
    PPs X pos (some k :: ks) (v :: vs) ((tk, tv) :: trs) := fun pins s σ H Q I h =>
  pairTrees_cons_walk (thn (hk pins s σ H _ I h) fun u s1 ⟨x, H1, I1, rx, q1⟩ => thn (hv pins s1 σ H1 _ I1 q1) fun w2 s2 ⟨y, H2, I2, ry, q2⟩ =>
    thn (hr pins s2 σ H2 _ I2 q2) fun ws s3 ⟨ps, H3, I3, rel, q3⟩ => ⟨(x, y) :: ps, H3, I3, .cons ⟨rx, ry⟩ rel, q3⟩)

def mergeK (kvs more : List (Key × V)) : List (Key × V) := more.foldl (fun acc kv => putK acc kv.1 kv.2) kvs
theorem KV.merge : ∀ {more : List (Key × V)} {rs : List (Key × Value)} {kvs : List (Key × V)} {vs : List (Key × Value)}, KV more rs → KV kvs vs → KV (mergeK kvs more) (merged vs rs) := by
  intro more rs kvs vs r
  unfold KV at r
  induction r generalizing kvs vs with
  | nil => intro q; exact q
  | @cons p q ps qs h t ih =>
    intro r0
    have e : KV (putK kvs p.1 p.2) (stored vs q.1 q.2) := by
      have := r0.put p.1 h.2
      rw [← h.1]; exact this
    exact ih e
theorem length_mergeK : ∀ (more kvs : List (Key × V)), (mergeK kvs more).length ≤ kvs.length + more.length
  | [], kvs => by show kvs.length ≤ kvs.length + 0; omega
  | p :: r, kvs => by
    have h1 := length_mergeK r (putK kvs p.1 p.2)
    have h2 := length_putK kvs p.1 p.2
    show (mergeK (putK kvs p.1 p.2) r).length ≤ _
    rw [List.length_cons]; omega
theorem carries_of {P : Program} {w : World} : ∀ {kvs : List (Key × V)} {ws : List (Value × Value)}, VV (kvs.map fun kv => (kV kv.1, kv.2)) ws → ∃ rs, Carries (mixKind P w) ws rs ∧ KV kvs rs
  | [], _, r => by rw [List.map_nil] at r; cases r; exact ⟨[], True.intro, .nil⟩
  | p :: kvs, _, r => by
    rw [List.map_cons] at r
    cases r with
    | @cons a b as bs h t =>
      obtain ⟨rs, c, q⟩ := carries_of (P := P) (w := w) t
      obtain ⟨b1, b2⟩ := b
      exact ⟨(p.1, b2) :: rs, ⟨kV_is h.1, rfl, c⟩, .cons ⟨rfl, h.2⟩ q⟩
/-- {k: v, ..} with keys ints and texts; the new dict stands empty while the pairs are made -/
def tDisp (trs : List (TE × TE)) : TE := fun σ H Q => ∀ p, H p = none → tPairs trs σ (upd H p (.dK [])) fun ps H2 => H2 p = some (.dK []) ∧ ∃ kvs : List (Key × V), ps = kvs.map (fun kv => (kV kv.1, kv.2)) ∧ kvs.length ≤ 15 ∧ Q (.ref p) (upd H2 p (.dK (mergeK [] kvs)))
theorem pe_disp {X : Cx} {pos : Pos} {keys : List (Option Expr)} {values : List Expr} {trs : List (TE × TE)} (h : PPs X pos keys values trs) (hall : keys.all (·.isSome) = true) (hl : keys.length = values.length) (h0 : keys ≠ [])
    (h15 : keys.length ≤ 15) : PE X (.Dict keys values pos) (tDisp trs) := by
  intro pins s σ H Q I q
  have hn := I.hok.fresh (Nat.le_refl s.heap.objs.size)
  have I1 := I.laid (a := s.heap.objs.size) (o := .dK []) (h' := s.heap.push { cls := .type "dict", data := .dict #[] }) (t' := s.toks) (fun _ _ q => Heap.get?_push_of_some _ q) (Nat.le_refl _) (dk_empty s.heap I.big)
  refine wpAny_Dict_walk (knd := mixKind X.prog X.w) hall hl h0 h15 (thn (h pins _ σ _ _ I1 (q _ hn)) fun ws s2 ⟨ps, H2, I2, rel, e, kvs, ep, lk, q2⟩ => ?_)
  subst ep
  obtain ⟨rs, c, rk⟩ := carries_of (P := X.prog) (w := X.w) rel
  obtain ⟨z, hd, vs0, r0, dd⟩ := dk_of I2.hok e
  cases r0
  refine ⟨rs, c, dd, fun h' dd' hs => ⟨.ref s.heap.objs.size, _, ?_, rfl, q2⟩⟩
  have hz : (mergeK [] kvs).length ≤ sizeLine := by
    have h1 := length_mergeK kvs []
    rw [List.length_nil] at h1
    rw [sizeLine_eq]; omega
  have he : ∃ q, h'.get? s.heap.objs.size = some q := let ⟨q, _, _, hq, _⟩ := dd'; ⟨q, hq⟩
  exact d_write I2 (by rw [e]; exact True.intro) hs he (dk_new hz hd (rk.merge .nil) dd')


/-! ### methods -/
/-- a method call o.m(e) of a built-in, with one argument: what must be seen of the text -/
structure M1 (X : Cx) (o : Expr) (m : Str) (apos : Pos) (e : Expr) (cpos : Pos) : Prop where
  base : attributeBase o m X.env (eval o X.env) = eval o X.env
  few : ((backTo cpos (starEach [e] X.env)).all (fun x => !x.1) && (backToKw cpos (keywordEach [] X.env)).all (fun x => x.1.isSome)
    && decide (([e] : List Expr).length + ([] : List Keyword).length + (if ([] : List Keyword).isEmpty then 0 else 1) < 30)) = true
  line : (apos.endLine == cpos.line) = true
  trees : backTo cpos (starEach [e] X.env) = [(false, eval e X.env)]
structure M2 (X : Cx) (o : Expr) (m : Str) (apos : Pos) (e f : Expr) (cpos : Pos) : Prop where
  base : attributeBase o m X.env (eval o X.env) = eval o X.env
  few : ((backTo cpos (starEach [e, f] X.env)).all (fun x => !x.1) && (backToKw cpos (keywordEach [] X.env)).all (fun x => x.1.isSome)
    && decide (([e, f] : List Expr).length + ([] : List Keyword).length + (if ([] : List Keyword).isEmpty then 0 else 1) < 30)) = true
  line : (apos.endLine == cpos.line) = true
  trees : backTo cpos (starEach [e, f] X.env) = [(false, eval e X.env), (false, eval f X.env)]

/-- a is a dict, whatever its keys -/
def IsD (H : Hp) (a : Addr) : Prop := (∃ kvs, Rd H a (.dK kvs)) ∨ ∃ kvs, Rd H a (.dT kvs)
theorem isD_at {X : Cx} {pins : List (Addr × Obj)} {σ : St} {H : Hp} {s : Shared} {a : Addr} (I : Inv X pins σ H s) (d : IsD H a) :
    s.TypeIs (.ref a) "dict" ∧ (∀ b, Value.ref a = .ref b → ∃ ob, s.heap.get? b = some ob ∧ ob.dict = none) ∧ (a == sysModules) = false := by
  rcases d with ⟨kvs, e⟩ | ⟨kvs, e⟩
  · obtain ⟨_, hd, vs, _, dd⟩ := dk_rd I.hok e
    refine ⟨dd.typeIs, fun b q => ?_, hd⟩
    cases q
    obtain ⟨ob, _, _, h1, h2, _⟩ := dd
    exact ⟨ob, h1, h2.2.1⟩
  · obtain ⟨_, hd, xs, _, dd⟩ := dt_rd I.hok e
    refine ⟨dd.typeIs, fun b q => ?_, hd⟩
    cases q
    obtain ⟨ob, _, _, h1, h2, _⟩ := dd
    exact ⟨ob, h1, h2.2.1⟩

section
variable {X : Cx} {pins : List (Addr × Obj)} {σ : St} {H : Hp} {s : Shared} {a : Addr} {y d : V} {u r : Value} {o : Option V} {A : Around} {E : Value → Shared → Prop}
/-- d.get(y) -/
theorem d_get1 {Q : Value → Shared → Prop} (hu : A.units + 1 < cLine) (I : Inv X pins σ H s) (g : DGet H a y o) (ry : RelV y u) (h : ∀ w' s', Inv X pins σ H s' → RelV (o.getD .non) w' → Q w' s') :
    wpAny (model X.prog X.w) A (call (.builtin "dict.get") [.ref a, u]) Q E s := by
  rcases g with ⟨kvs, k, e, ey, l⟩ | ⟨kvs, k, b, e, ey, eb, l⟩
  · subst ey
    obtain ⟨z, hd, vs, rel, dd⟩ := dk_rd I.hok e
    refine call_meetsIn PySem.F.slot_dict_get dd.typeIs PySem.F.entry_dict_get (PySem.F.args_dict_get_2 _ _) (meets_dict_get (mixKind X.prog X.w) a (kV_is ry) hd) ⟨_, dd.mapOf, h _ _ (I.tok _) ?_⟩
    rw [l]
    exact (rel.val k).getD rfl
  · subst ey
    cases (show u = Value.ref b from ry)
    obtain ⟨z, hd, xs, rel, dd⟩ := dt_rd I.hok e
    refine call_meetsIn PySem.F.slot_dict_get dd.typeIs PySem.F.entry_dict_get (PySem.F.args_dict_get_2 _ _) (meetsH_dict_get (tupleKind (mixKind X.prog X.w)) a b hd) ⟨tupleKind_room_in1 hu, k, xs, key_of I.hok eb, dd, h _ _ (I.tok _) ?_⟩
    rw [l]
    exact (rel.val k).getD rfl
/-- d.get(y, x) -/
theorem d_get2 {Q : Value → Shared → Prop} (hu : A.units + 1 < cLine) (I : Inv X pins σ H s) (g : DGet H a y o) (ry : RelV y u) (rd : RelV d r) (h : ∀ w' s', Inv X pins σ H s' → RelV (o.getD d) w' → Q w' s') :
    wpAny (model X.prog X.w) A (call (.builtin "dict.get") [.ref a, u, r]) Q E s := by
  rcases g with ⟨kvs, k, e, ey, l⟩ | ⟨kvs, k, b, e, ey, eb, l⟩
  · subst ey
    obtain ⟨z, hd, vs, rel, dd⟩ := dk_rd I.hok e
    refine call_meetsIn PySem.F.slot_dict_get dd.typeIs PySem.F.entry_dict_get (PySem.F.args_dict_get_3 _ _ _) (meets_dict_get_default (mixKind X.prog X.w) a (kV_is ry) hd r) ⟨_, dd.mapOf, h _ _ (I.tok _) ?_⟩
    rw [l]
    exact (rel.val k).getD rd
  · subst ey
    cases (show u = Value.ref b from ry)
    obtain ⟨z, hd, xs, rel, dd⟩ := dt_rd I.hok e
    refine call_meetsIn PySem.F.slot_dict_get dd.typeIs PySem.F.entry_dict_get (PySem.F.args_dict_get_3 _ _ _) (meetsH_dict_get_default (tupleKind (mixKind X.prog X.w)) a b hd r) ⟨tupleKind_room_in1 hu, k, xs, key_of I.hok eb, dd, h _ _ (I.tok _) ?_⟩
    rw [l]
    exact (rel.val k).getD rd
end

def tDGet1 (td ty : TE) : TE := fun σ H Q => td σ H fun x H1 => ∃ a, x = .ref a ∧ IsD H1 a ∧ ty σ H1 fun y H2 => ∃ o, DGet H2 a y o ∧ Q (o.getD .non) H2
def tDGet2 (td ty tx : TE) : TE := fun σ H Q => td σ H fun x H1 => ∃ a, x = .ref a ∧ IsD H1 a ∧ ty σ H1 fun y H2 => tx σ H2 fun z H3 => ∃ o, DGet H3 a y o ∧ Q (o.getD z) H3
/-- d.pop(k): there; d.pop(k, x): there or not -/
def tDPop1 (td ty : TE) : TE := fun σ H Q => td σ H fun x H1 => ∃ a, x = .ref a ∧ IsD H1 a ∧ ty σ H1 fun y H2 => ∃ kvs k v, H2 a = some (.dK kvs) ∧ y = kV k ∧ valV kvs k = some v ∧ Q v (upd H2 a (.dK (dropK kvs k)))
def tDPop2 (td ty tx : TE) : TE := fun σ H Q => td σ H fun x H1 => ∃ a, x = .ref a ∧ IsD H1 a ∧ ty σ H1 fun y H2 => tx σ H2 fun z H3 => ∃ kvs k, H3 a = some (.dK kvs) ∧ y = kV k ∧
  (∀ v, valV kvs k = some v → Q v (upd H3 a (.dK (dropK kvs k)))) ∧ (valV kvs k = none → Q z H3)
section
variable {X : Cx} {o e f : Expr} {apos cpos : Pos} {td ty tx : TE}
theorem pe_dget1 (hu : X.A.units + 1 < cLine) (ho : PE X o td) (he : PE X e ty) (m : M1 X o "get" apos e cpos) : PE X (.Call (.Attribute o "get" apos) [e] [] cpos) (tDGet1 td ty) := by
  intro pins s σ H Q I h
  refine wpAny_Call_method m.base m.few m.line PySem.F.plainAttrs_dict PySem.F.slot_dict_get PySem.F.type_dict_get (thn (ho pins s σ H _ I h) fun u s1 ⟨x, H1, I1, rx, a, ex, d, q1⟩ => ?_)
  subst ex
  obtain rfl : u = Value.ref a := rx
  obtain ⟨t1, t2, _⟩ := isD_at I1 d
  refine ⟨t1, t2, ?_⟩
  rw [m.trees]
  refine Calls.callWith_builtin rfl (Calls.evalArgs_plain (Calls.spliced_cons (thn (he pins s1 σ H1 _ I1 q1) fun iv s2 ⟨y, H2, I2, ry, ov, g, q2⟩ => Calls.spliced_nil ?_)))
  exact d_get1 hu I2 g ry fun w' s3 I3 rw' => ⟨_, H2, I3, rw', q2⟩
theorem pe_dget2 (hu : X.A.units + 1 < cLine) (ho : PE X o td) (he : PE X e ty) (hf : PE X f tx) (m : M2 X o "get" apos e f cpos) : PE X (.Call (.Attribute o "get" apos) [e, f] [] cpos) (tDGet2 td ty tx) := by
  intro pins s σ H Q I h
  refine wpAny_Call_method m.base m.few m.line PySem.F.plainAttrs_dict PySem.F.slot_dict_get PySem.F.type_dict_get (thn (ho pins s σ H _ I h) fun u s1 ⟨x, H1, I1, rx, a, ex, d, q1⟩ => ?_)
  subst ex
  obtain rfl : u = Value.ref a := rx
  obtain ⟨t1, t2, _⟩ := isD_at I1 d
  refine ⟨t1, t2, ?_⟩
  rw [m.trees]
  refine Calls.callWith_builtin rfl (Calls.evalArgs_plain (Calls.spliced_cons (thn (he pins s1 σ H1 _ I1 q1) fun iv s2 ⟨y, H2, I2, ry, q2⟩ =>
    Calls.spliced_cons (thn (hf pins s2 σ H2 _ I2 q2) fun fv s3 ⟨z, H3, I3, rz, ov, g, q3⟩ => Calls.spliced_nil ?_))))
  exact d_get2 hu I3 g ry rz fun w' s4 I4 rw' => ⟨_, H3, I4, rw', q3⟩
theorem pe_dpop1 (ho : PE X o td) (he : PE X e ty) (m : M1 X o "pop" apos e cpos) : PE X (.Call (.Attribute o "pop" apos) [e] [] cpos) (tDPop1 td ty) := by
  intro pins s σ H Q I h
  refine wpAny_Call_method m.base m.few m.line PySem.F.plainAttrs_dict PySem.F.slot_dict_pop PySem.F.type_dict_pop (thn (ho pins s σ H _ I h) fun u s1 ⟨x, H1, I1, rx, a, ex, d, q1⟩ => ?_)
  subst ex
  obtain rfl : u = Value.ref a := rx
  obtain ⟨t1, t2, _⟩ := isD_at I1 d
  refine ⟨t1, t2, ?_⟩
  rw [m.trees]
  refine Calls.callWith_builtin rfl (Calls.evalArgs_plain (Calls.spliced_cons (thn (he pins s1 σ H1 _ I1 q1) fun iv s2 ⟨y, H2, I2, ry, kvs, k, v, ea, ey, l, q2⟩ => Calls.spliced_nil ?_)))
  subst ey
  exact d_pop I2 ea ry l (.inl rfl) fun w' s3 I3 rw' => ⟨v, _, I3, rw', q2⟩
theorem pe_dpop2 (ho : PE X o td) (he : PE X e ty) (hf : PE X f tx) (m : M2 X o "pop" apos e f cpos) : PE X (.Call (.Attribute o "pop" apos) [e, f] [] cpos) (tDPop2 td ty tx) := by
  intro pins s σ H Q I h
  refine wpAny_Call_method m.base m.few m.line PySem.F.plainAttrs_dict PySem.F.slot_dict_pop PySem.F.type_dict_pop (thn (ho pins s σ H _ I h) fun u s1 ⟨x, H1, I1, rx, a, ex, d, q1⟩ => ?_)
  subst ex
  obtain rfl : u = Value.ref a := rx
  obtain ⟨t1, t2, _⟩ := isD_at I1 d
  refine ⟨t1, t2, ?_⟩
  rw [m.trees]
  refine Calls.callWith_builtin rfl (Calls.evalArgs_plain (Calls.spliced_cons (thn (he pins s1 σ H1 _ I1 q1) fun iv s2 ⟨y, H2, I2, ry, q2⟩ =>
    Calls.spliced_cons (thn (hf pins s2 σ H2 _ I2 q2) fun fv s3 ⟨z, H3, I3, rz, kvs, k, ea, ey, q3, q4⟩ => Calls.spliced_nil ?_))))
  subst ey
  cases l : valV kvs k with
  | some v => exact d_pop I3 ea ry l (.inr ⟨fv, rfl⟩) fun w' s4 I4 rw' => ⟨v, _, I4, rw', q3 v l⟩
  | none => exact d_popD I3 ea ry l fun s4 I4 => ⟨z, H3, I4, rz, q4 l⟩
end

/-! ### dict(d): a copy -/
section
variable {X : Cx} {pins : List (Addr × Obj)} {σ : St} {H : Hp} {s : Shared} {a : Addr} {kvs : List (Key × V)} {A : Around} {E : Value → Shared → Prop}
theorem d_copyOf {Q : Value → Shared → Prop} (I : Inv X pins σ H s) (e : Rd H a (.dK kvs)) (h : ∀ p s', H p = none → Inv X pins σ (upd H p (.dK kvs)) s' → Q (.ref p) s') : wpAny (model X.prog X.w) A (call (.type "dict") [.ref a]) Q E s := by
  obtain ⟨z, hd, vs, rel, dd⟩ := dk_rd I.hok e
  refine kt_call_dict hd dd (by rw [← rel.length]; exact z) fun h' dd' hs => ?_
  refine h _ _ (I.hok.fresh (Nat.le_refl _)) (I.laid (a := s.heap.objs.size) (o := .dK kvs) (t' := s.toks) (fun b q hq => ?_) (Nat.le_refl _) (dk_new z (beq_eq_false_iff_ne.mpr (Ne.symm (Nat.ne_of_lt I.big))) rel dd'))
  exact (hs.2 b (Nat.ne_of_lt (Heap.lt_size hq))).trans (Heap.get?_push_of_some _ hq)
end


section
variable {X : Cx} {pins : List (Addr × Obj)} {σ : St} {H : Hp} {s : Shared} {a : Addr} {y : V} {u : Value} {A : Around} {E : Value → Shared → Prop}
/-- d[y], not there: a KeyError -/
theorem d_missing {Q : Value → Shared → Prop} (hu : A.units + 1 < cLine) (hh : A.handled = none) (I : Inv X pins σ H s) (g : DGet H a y none) (ry : RelV y u)
    (h : ∀ h' e t', Heap.NewExc s.heap h' e "KeyError" → E (.ref e) { s with heap := h', toks := t' }) : wpAny (model X.prog X.w) A (getItem (.ref a) u) Q E s := by
  rcases g with ⟨kvs, k, e, ey, l⟩ | ⟨kvs, k, b, e, ey, eb, l⟩
  · subst ey
    obtain ⟨z, hd, vs, rel, dd⟩ := dk_rd I.hok e
    have hn : valueAt vs k = none := RelO.none_of (by rw [l]; exact rel.val k)
    exact wpAny_getItem_missing_of (kV_is ry) hd hh dd.mapOf hn fun h' ex ne => h h' ex _ ne
  · subst ey
    cases (show u = Value.ref b from ry)
    obtain ⟨z, hd, xs, rel, dd⟩ := dt_rd I.hok e
    have hn : (atKey xs k).map (·.2) = none := RelO.none_of (by rw [l]; exact rel.val k)
    exact wpAny_getItem_missing_heap (tupleKind_room_in1 hu) (key_of I.hok eb) hd hh dd (Option.map_eq_none_iff.mp hn) fun h' ex ne => h h' ex _ ne
end
end L2

namespace Att
open PySem PySem.W PySem.Calls PyProof.Rows

/-! ### the script -/
theorem ints_of_wellAll {P : Params} {h : Heap} : ∀ (ns : List Int) (vs : List Value), WellAll P h vs (ns.map WData.int) → IntsAre vs ns := by
  intro ns
  induction ns with
  | nil =>
    intro vs w
    rw [List.map_nil] at w
    cases w
    exact .nil
  | cons n ns ih =>
    intro vs w
    rw [List.map_cons] at w
    cases w with
    | cons a b =>
      cases a
      exact .cons _ _ (ih _ b)

theorem script_of {l : OpenLaw} {n : Nat} (hn : l.most = some n) {P : Params} {h : Heap} {args : List WData} {vals : List Value}
    (hpre : l.row.toRowW.claim.pre args = true) (hwl : WellAll P h vals args) :
    ∃ a vs ns, vals = [Value.ref a] ∧ args = [WData.list (ns.map WData.int)] ∧ h.get? a = some { cls := .type "list", data := .seq vs.toArray } ∧ IntsAre vs ns ∧ ns.length ≤ n := by
  have hsh : WShape.hasAll [] args [.list .int] = true := (pre_splitW hpre).1
  have hc : l.pre.holds [] { args := args } = true := (pre_splitW hpre).2
  obtain ⟨d, r, rfl, h1, h2⟩ := hasAllW_cons hsh
  obtain rfl := hasAllW_nil h2
  obtain ⟨xs, rfl, h3⟩ := hasW_list h1
  obtain ⟨ns, rfl⟩ := items_int h3
  have hlen : ns.length ≤ n := by
    unfold OpenLaw.pre at hc
    have h4 : (WTm.not (.lt (.lit (.int (n : Int))) (.len (.arg 0)))).holds [] { args := [.list (ns.map .int)] } = true := by
      have h4 := (holds_andW hc).1
      rw [hn] at h4
      exact h4
    have h5 := condW_of h4 (w_not (w_lt w_lit (w_len_list (w_arg rfl))))
    rw [List.length_map] at h5
    refine Nat.le_of_not_lt fun q => ?_
    have q' : (n : Int) < ((ns.length : Nat) : Int) := by omega
    first
      | (rw [decide_eq_true q'] at h5; exact absurd h5 (by decide))
      | (simp at h5; omega)
  cases hwl with
  | cons w1 w2 =>
    cases w2
    cases w1 with
    | list ho hall => exact ⟨_, _, ns, rfl, rfl, ho, ints_of_wellAll ns _ hall, hlen⟩

theorem post_true (l : OpenLaw) (args : List WData) : l.row.toRowW.claim.post args (.bool true) args = true :=
  postW_of (r := l.row.toRowW) (X := (true == true))
    (show WShape.has [] (.bool true) .bool = true by first | rfl | decide | simp [WShape.has, WShape.arms, WShape.armsAll])
    (show (WTm.eq .res (.lit (.bool true))).value [] { args := args, res := some (.bool true), after := args } = some (.bool (true == true)) from w_eq_bool (w_res rfl) w_lit) rfl

/-! ### the attachment: holds_open's last premise (the goal 'hc' behind k_head) from a wpAny of the law's body -/
theorem attach {l : OpenLaw} {n : Nat} {q : Program} {loose : List Str} {XP : (Str → Option Value) → Heap → Prop} {YP : World → Heap → Prop} {d : DefRec} {x : Str}
    (hn : l.most = some n) (hdf : d.params.defaults = [])
    (hbind : ∀ pm cd doc v : Value, bindArgs (docDef d.name d.params d.body d.scope pm cd doc) ⟨[v], []⟩ = pure [(x, v)])
    (hx : d.scope.names.lookup x = some .local ∨ d.scope.names.lookup x = some .cell)
    (hk : d.scope.kind = .function) (hco : d.scope.isCoroutine = false) (hgen : d.scope.isGenerator = false)
    (body : ∀ (w : World) (s₀ s₁ s : Shared) (mg mb : Str → Option Value) (fa : Addr) (o : Obj) (pm cd doc : Value) (a : Addr) (vs : List Value) (ns : List Int),
      Ground q loose [] XP w s₀ mg mb s₁.heap → YP w s₁.heap →
      s₁.heap.get? fa = some o → o.data = .func (docDef d.name d.params d.body d.scope pm cd doc) → s₁.heap.CodeRec cd d.name → mg d.name = some (.ref fa) →
      s₁.heap.get? a = some { cls := .type "list", data := .seq vs.toArray } → IntsAre vs ns → ns.length ≤ n →
      s.gens = #[] → s.os = s₁.os →
      Fr s₁.heap s₁.heap.objs.size s.heap (bindL (envOfC d.name d.scope s₁.heap.objs.size fa cd).kindOf [(x, .ref a)] fun _ => none) →
      Cl s₁.heap.objs.size (cellsFrom (s₁.heap.objs.size + 1) d.scope.names []) s.heap (bindC (envOfC d.name d.scope s₁.heap.objs.size fa cd).kindOf [(x, .ref a)] fun _ => none) →
      wpAny (model l.prog w) (callerA.deeper (envOfC d.name d.scope s₁.heap.objs.size fa cd)) (execs d.body (envOfC d.name d.scope s₁.heap.objs.size fa cd))
        (fun f s' => f = .ret (.bool true) ∧ OldK s₁.heap s'.heap ∧ s'.os = s₁.os ∧ AllBare s'.gens) (fun _ _ => False) s) :
    WalkO q loose XP YP l.row.toRowW d [] (fun f vs => PySem.call f vs) := by
  intro w s₀ s₁ mg mb G Y fa o pm cd doc dV kV ho hd hcd hD hmg hg args vals as hpre hlay hrd hwl hlo
  obtain rfl : dV = .none := Dflts.none hD hdf
  obtain rfl : kV = .none := Dflts.noKw hD
  obtain ⟨a, vs, ns, rfl, rfl, hobj, hints, hlen⟩ := script_of hn hpre hwl
  refine enter_call ?_
  refine call_cells_ret (o := o) (by rw [depth_caller]; decide) ho (fd_plain hd) G.T.nolimit hcd (hbind pm cd doc (.ref a)) (fun y hy => ?_) (fun h₁ tk F X => ?_) hco hgen hk
  · obtain rfl : y = (x, Value.ref a) := List.mem_singleton.mp hy
    rcases hx with e | e
    · exact .inl e
    · exact .inr ⟨e, cellsFrom_some _ _ _ (.inl e)⟩
  · refine wpAny_mono (body w s₀ s₁ { s₁ with heap := h₁, toks := tk } mg mb fa o pm cd doc a vs ns G Y ho (fd_plain hd) hcd hmg hobj hints hlen hg rfl F X) (fun f s' hq => ?_) (fun _ _ hq => hq)
    obtain ⟨rfl, h2, h3, h4⟩ := hq
    exact ⟨.inl ⟨.bool true, .bool true, [], rfl, fun _ => rfl, .bool true, post_true l _, fun _ => ⟨List.Pairwise.nil, fun _ hm => (nomatch hm)⟩⟩, h2, h3, h4⟩

/-- the same from a codeAny of the CALL (for a layer whose function contracts speak of calls) -/
theorem attach_call {l : OpenLaw} {n : Nat} {q : Program} {loose : List Str} {XP : (Str → Option Value) → Heap → Prop} {YP : World → Heap → Prop} {d : DefRec}
    (hn : l.most = some n) (hdf : d.params.defaults = [])
    (call : ∀ (w : World) (s₀ s₁ : Shared) (mg mb : Str → Option Value) (fa : Addr) (o : Obj) (pm cd doc : Value) (a : Addr) (vs : List Value) (ns : List Int),
      Ground q loose [] XP w s₀ mg mb s₁.heap → YP w s₁.heap →
      s₁.heap.get? fa = some o → o.data = .func (docDef d.name d.params d.body d.scope pm cd doc) → s₁.heap.CodeRec cd d.name → mg d.name = some (.ref fa) →
      s₁.heap.get? a = some { cls := .type "list", data := .seq vs.toArray } → IntsAre vs ns → ns.length ≤ n → s₁.gens = #[] →
      codeAny (model l.prog w) callerA (.call (.ref fa) ⟨[.ref a], []⟩) (fun r s' => r = .ok (.ret (.bool true)) ∧ OldK s₁.heap s'.heap ∧ s'.os = s₁.os ∧ AllBare s'.gens) s₁) :
    WalkO q loose XP YP l.row.toRowW d [] (fun f vs => PySem.call f vs) := by
  intro w s₀ s₁ mg mb G Y fa o pm cd doc dV kV ho hd hcd hD hmg hg args vals as hpre hlay hrd hwl hlo
  obtain rfl : dV = .none := Dflts.none hD hdf
  obtain rfl : kV = .none := Dflts.noKw hD
  obtain ⟨a, vs, ns, rfl, rfl, hobj, hints, hlen⟩ := script_of hn hpre hwl
  refine enter_call (codeAny_mono (call w s₀ s₁ mg mb fa o pm cd doc a vs ns G Y ho (fd_plain hd) hcd hmg hobj hints hlen hg) fun r s' hq => ?_)
  obtain ⟨rfl, h2, h3, h4⟩ := hq
  exact ⟨.inl ⟨.bool true, .bool true, [], rfl, fun _ => rfl, .bool true, post_true l _, fun _ => ⟨List.Pairwise.nil, fun _ hm => (nomatch hm)⟩⟩, h2, h3, h4⟩

/-- the same where the top left finished generators (o_head chose holds_openN): nothing may have changed at all and no generator may be left -/
theorem attachN {l : OpenLaw} {n : Nat} {q : Program} {loose : List Str} {XP : (Str → Option Value) → Heap → Prop} {YP : World → Heap → Prop} {d : DefRec} {x : Str}
    (hn : l.most = some n) (hdf : d.params.defaults = [])
    (hbind : ∀ pm cd doc v : Value, bindArgs (docDef d.name d.params d.body d.scope pm cd doc) ⟨[v], []⟩ = pure [(x, v)])
    (hx : d.scope.names.lookup x = some .local ∨ d.scope.names.lookup x = some .cell)
    (hk : d.scope.kind = .function) (hco : d.scope.isCoroutine = false) (hgen : d.scope.isGenerator = false)
    (body : ∀ (w : World) (s₀ s₁ s : Shared) (mg mb : Str → Option Value) (fa : Addr) (o : Obj) (pm cd doc : Value) (a : Addr) (vs : List Value) (ns : List Int),
      Ground q loose [] XP w s₀ mg mb s₁.heap → YP w s₁.heap →
      s₁.heap.get? fa = some o → o.data = .func (docDef d.name d.params d.body d.scope pm cd doc) → s₁.heap.CodeRec cd d.name → mg d.name = some (.ref fa) →
      s₁.heap.get? a = some { cls := .type "list", data := .seq vs.toArray } → IntsAre vs ns → ns.length ≤ n →
      s.gens = #[] → s.os = s₁.os →
      Fr s₁.heap s₁.heap.objs.size s.heap (bindL (envOfC d.name d.scope s₁.heap.objs.size fa cd).kindOf [(x, .ref a)] fun _ => none) →
      Cl s₁.heap.objs.size (cellsFrom (s₁.heap.objs.size + 1) d.scope.names []) s.heap (bindC (envOfC d.name d.scope s₁.heap.objs.size fa cd).kindOf [(x, .ref a)] fun _ => none) →
      wpAny (model l.prog w) (callerA.deeper (envOfC d.name d.scope s₁.heap.objs.size fa cd)) (execs d.body (envOfC d.name d.scope s₁.heap.objs.size fa cd))
        (fun f s' => f = .ret (.bool true) ∧ (∀ b o, s₁.heap.get? b = some o → s'.heap.get? b = some o) ∧ s'.os = s₁.os ∧ s'.gens = #[]) (fun _ _ => False) s) :
    WalkN q loose XP YP l.row.toRowW d [] (fun f vs => PySem.call f vs) := by
  intro w s₀ s₁ mg mb G Y fa o pm cd doc dV kV ho hd hcd hD hmg hg args vals as hpre hlay hrd hwl hlo
  obtain rfl : dV = .none := Dflts.none hD hdf
  obtain rfl : kV = .none := Dflts.noKw hD
  obtain ⟨a, vs, ns, rfl, rfl, hobj, hints, hlen⟩ := script_of hn hpre hwl
  refine enter_callW ?_
  refine call_cells_ret (o := o) (by rw [depth_caller]; decide) ho (fd_plain hd) G.T.nolimit hcd (hbind pm cd doc (.ref a)) (fun y hy => ?_) (fun h₁ tk F X => ?_) hco hgen hk
  · obtain rfl : y = (x, Value.ref a) := List.mem_singleton.mp hy
    rcases hx with e | e
    · exact .inl e
    · exact .inr ⟨e, cellsFrom_some _ _ _ (.inl e)⟩
  · refine wpAny_mono (body w s₀ s₁ { s₁ with heap := h₁, toks := tk } mg mb fa o pm cd doc a vs ns G Y ho (fd_plain hd) hcd hmg hobj hints hlen hg rfl F X) (fun f s' hq => ?_) (fun _ _ hq => hq)
    obtain ⟨rfl, h2, h3, h4⟩ := hq
    exact ⟨.inl ⟨.bool true, .bool true, [], rfl, fun _ => rfl, .bool true, post_true l _, fun _ => ⟨List.Pairwise.nil, fun _ hm => (nomatch hm)⟩⟩, h2, h3, h4⟩

/-! ### rules over ANY heap (no ledger) from facts about the written part K: the library's own take a ledger (News) for what they write -/
section
variable {prog : Program} {w : World} {A : Around} {E : Value → Shared → Prop} {s : Shared} {K : Frag}

/-- a def of the module, or a method (qual 'C.m'), entered: the frame is the next address; cells behind it -/
theorem call_fn {R : Result → Shared → Prop} {name qual : Str} {params : Arguments} {body : List Stmt} {scope : Scope} {dV kV doc pm cdv ct oc : Value} {an od : Option Addr} {osl : Array (Option Value)} {f : Addr} {args : Args} {binds : List (Str × Value)}
    (X : K.In s.heap) (hlim : s.heap.NoLimit) (ho : K.lookup f = some ⟨oc, od, .func (fnOf name qual params body scope dV kV doc pm an cdv ct), osl⟩) (hcd : codeIn K cdv qual = true) (hroom : A.depth < recursionLimit)
    (hbind : BindsTo s (fnOf name qual params body scope dV kV doc pm an cdv ct) args binds)
    (hkind : (binds.all fun y => scope.names.lookup y.1 == some .local || scope.names.lookup y.1 == some .cell) = true)
    (h : ∀ s₁, InCallC s s.heap.objs.size (bindL (envOfC qual scope s.heap.objs.size f cdv).kindOf binds fun _ => none) (cellsFrom (s.heap.objs.size + 1) scope.names [])
        (bindC (envOfC qual scope s.heap.objs.size f cdv).kindOf binds fun _ => none) s₁ →
      wpAny (model prog w) (A.deeper (envOfC qual scope s.heap.objs.size f cdv)) (execs body (envOfC qual scope s.heap.objs.size f cdv))
        (fun fl s' => R (.ok (.ret (match fl with | .ret v => v | _ => .none))) s')
        (fun e s' => wpAny (model prog w) (A.deeper (envOfC qual scope s.heap.objs.size f cdv)) (leaving (envOfC qual scope s.heap.objs.size f cdv) e) (fun _ s'' => R (.error e) s'') (fun e' s'' => R (.error e') s'') s') s₁)
    (hco : scope.isCoroutine = false) (hgen : scope.isGenerator = false) (hk : scope.kind = .function) : codeAny (model prog w) A (.call (.ref f) args) R s := by
  refine codeAny_call_function hroom (X _ _ ho) rfl hco hgen rfl (codeRec_of X hcd) (hbind _ _ _ _ ?_)
  refine wpAny_newFunctionEnv_cells hk (kindsX hkind _) fun env he s₁ x => ?_
  subst he
  exact ⟨hlim.keeps x.toInCall.keep, codeAny_func (h s₁ x)⟩

/-- C(..): dict at size, instance at size + 1, then __init__ -/
theorem make_obj {R : Result → Shared → Prop} {C fI : Addr} {rest : List Value} {kw : List (Str × Value)}
    (X : K.In s.heap) (hm : makesIn K C = true) (hi : findIn K (.ref C) "__init__" = some (some (.ref fI))) (hf : isFn K (.ref fI) = true)
    (h : codeAny (model prog w) (A.under (.builtin "type.__call__" ⟨.ref C :: rest, kw⟩)) (.call (.ref fI) ⟨.ref (s.heap.objs.size + 1) :: rest, kw⟩) (InitBack (s.heap.objs.size + 1) R)
      { s with heap := (s.heap.push emptyDict).push (instObj C s.heap.objs.size) }) : codeAny (model prog w) A (.call (.ref C) ⟨rest, kw⟩) R s := by
  obtain ⟨hh, g, d, t, os⟩ := s
  exact make_core (makes_of X hm) (looks_findIn X hi) (fun self => bind_fn X self (beq_iff_eq.mp hf)) (.inl rfl) h

/-- x.name where the instance's dict holds the name and the class does not -/
theorem get_field {x C : Addr} {ox : Obj} {es : List DictEntry} {n : Nat} {name : Str} {expr : Bool} {v : Value} {Q : Value → Shared → Prop}
    (X : K.In s.heap) (I : PySem.W.InstAt s.heap x ox C (some (dictOf es n))) (hg : plainGet K C name = true) (hh : hasDictIn K C = true) (ha : findIn K (.ref C) name = some none)
    (hl : getL name es = some (some v)) (hv : handedIn v = true) (h : Q v { s with toks := s.toks + 1 }) : wpAny (model prog w) A (getAttr (.ref x) name expr) Q E s :=
  get_value X I (plainGet_of hg).1 (findObj_own hh ha rfl hl) hv h

/-- x.m(..): the method found in the class -/
theorem get_method {x C f : Addr} {ox : Obj} {es : List DictEntry} {n : Nat} {name : Str} {pl : Sem Bool} {Q : Value × List Value → Shared → Prop}
    (X : K.In s.heap) (I : PySem.W.InstAt s.heap x ox C (some (dictOf es n))) (hg : plainGet K C name = true) (hf : findIn K (.ref C) name = some (some (.ref f))) (ht : isFn K (.ref f) = true)
    (hl : getL name es = some none) (h : Q (.ref f, [.ref x]) s) : wpAny (model prog w) A (getMethod (.ref x) name pl) Q E s :=
  method_fn X I (plainGet_of hg).1 (plainGet_of hg).2 hf (beq_iff_eq.mp ht) (by show (lookIn name (dictOf es n)).map _ = _; rw [lookIn_dict, hl]; rfl) h

/-! the whole heap as the ledger: makes every rule that writes through a ledger a rule over any heap -/
def noObjs (h : Heap) : Heap := { h with objs := #[] }
theorem noObjs_get (h : Heap) (b : Addr) : (noObjs h).get? b = none := by
  cases e : (noObjs h).get? b with
  | none => rfl
  | some o => exact absurd (Heap.lt_size e) (Nat.not_lt_zero _)
def ledger (h : Heap) (L d : Addr) : List (Addr × Obj) := (List.range h.objs.size).filterMap fun a => if a = L ∨ a = d then none else (h.get? a).map fun o => (a, o)
theorem mem_ledger {h : Heap} {L d a : Addr} {o : Obj} : (a, o) ∈ ledger h L d ↔ a ≠ L ∧ a ≠ d ∧ h.get? a = some o := by
  unfold ledger
  rw [List.mem_filterMap]
  constructor
  · rintro ⟨b, _, e⟩
    split at e
    · cases e
    · rename_i hb
      obtain ⟨o', ho, e'⟩ := Option.map_eq_some_iff.mp e
      cases e'
      exact ⟨fun q => hb (.inl q), fun q => hb (.inr q), ho⟩
  · rintro ⟨n1, n2, ho⟩
    refine ⟨a, List.mem_range.mpr (Heap.lt_size ho), ?_⟩
    rw [if_neg (show ¬ (a = L ∨ a = d) from fun q => q.elim n1 n2), ho] <;> rfl
theorem news_ledger {h : Heap} {L d : Addr} {od : Obj} (hne : d ≠ L) (ho : h.get? d = some od) : News (noObjs h) L h ([] ++ (d, od) :: ledger h L d) := by
  rintro ⟨a, o⟩ hp
  rcases List.mem_cons.mp hp with e | hp
  · cases e
    exact ⟨ho, hne, noObjs_get _ _⟩
  · obtain ⟨n1, n2, e⟩ := mem_ledger.mp hp
    exact ⟨e, n1, noObjs_get _ _⟩
theorem fr_all {h : Heap} {L : Addr} {m : Str → Option Value} (n : h.Ns L m) : Fr (noObjs h) L h m :=
  ⟨n, fun b o e => (by rw [noObjs_get] at e; cases e), Nat.zero_le _⟩
/-- Upd of the head entry (for append_K, setItem_K ..) -/
theorem upd_ledger {h : Heap} {L d : Addr} {o o' : Obj} : Upd d o o' ((d, o) :: ledger h L d) ((d, o') :: ledger h L d) :=
  .head fun ⟨_, _⟩ hp => (mem_ledger.mp hp).2.1

/-- x.name = v over any heap: L is any namespace of the heap (the frame's, say): its map stays, its object is not told; all else but the dict stays -/
theorem set_field {x C dx L : Addr} {ox : Obj} {m : Str → Option Value} {es es' : List DictEntry} {n n' : Nat} {name : Str} {v : Value} {Q : Unit → Shared → Prop}
    (X : K.In s.heap) (I : PySem.W.InstAt s.heap x ox C (some (dictOf es n))) (hd : ox.dict = some dx) (hL : s.heap.Ns L m) (hne : dx ≠ L)
    (hs : findIn K (.ref C) "__setattr__" = some (some (.builtin "object.__setattr__"))) (hp : plainOver K C = true) (ht : takerIn K C name = some none) (hh : hasDictIn K C = true) (hl : (getL name es).isSome = true)
    (e : (putL name (PyData.keyHash w.params name) (.str name (s.toks + 1)) v es, putN name es n) = (es', n')) (hz : es'.length ≤ 1000)
    (h : ∀ h' : Heap, h'.Ns L m → h'.get? dx = some (dictOf es' n') → (∀ b o, b ≠ dx → b ≠ L → s.heap.get? b = some o → h'.get? b = some o) → Q () { s with heap := h', toks := s.toks + 2 }) :
    wpAny (model prog w) A (setAttr (.ref x) name v) Q E s := by
  obtain ⟨e1, e2⟩ := Prod.mk.inj e
  have hdx : s.heap.get? dx = some (dictOf es n) := by
    have := I.dict
    rw [hd] at this
    exact this
  refine set_plain X I hs (osa_dict (s := { s with toks := s.toks + 1 }) (h₀ := noObjs s.heap) (L := L) (m := m) (od := dictOf es n) (od' := dictOf es' n') (es := es') (n := n') (pre := []) (post := ledger s.heap L dx)
    (fr_all hL) (news_ledger hne hdx) X I hd hp ht hh hl (fun _ q => nomatch q) (fun ⟨_, _⟩ q => (mem_ledger.mp q).2.1) (by rw [putName_dict, e1, e2]) rfl hz fun h' F' N' => ?_)
  exact h h' F'.ns (N'.get (List.Mem.head _)) fun b o n1 n2 ho => N'.get (List.Mem.tail _ (mem_ledger.mpr ⟨n2, n1, ho⟩))
end
end Att

namespace L2
open PySem PySem.Spec PyProof.Rows

theorem vals_ints : ∀ {vs : List Value} {ns : List Int}, IntsAre vs ns → Vals (ns.map V.int) vs
  | _, _, .nil => .nil
  | _, _, .cons n t h => .cons ⟨t, rfl⟩ (vals_ints h)

/-- nothing is tracked but the script, known to the object (or it is an object of the module) -/
def Only (H : Hp) : Prop := ∀ b, H b = none ∨ ∃ o xs, H b = some (.frz o (.lst xs))

/-- THE HEAD: the law's promise, at the heap behind the top. F, the promise of the law's def, may use that base is part of the heap (so K.In base, base.Ns mainGlobals mg stand in Mod) -/
theorem law_call {P : Program} {w : World} {K : PySem.W.Frag} {mg mb : Str → Option Value} {CX : CXT} {k : Nat} {fa a : Addr} {fd : FuncData} {x : Str} {sp : Sp} {s₁ : Shared} {vs : List Value} {ns : List Int}
    (KX : K.In s₁.heap) (hns : s₁.heap.Ns mainGlobals mg) (hb : s₁.heap.Ns builtinsNs mb) (hbb : ∀ x : Str, x ≠ "__name__" → mb x = bootBuiltins x) (hlim : s₁.heap.NoLimit) (hg : s₁.gens = #[])
    (ha : s₁.heap.get? a = some { cls := .type "list", data := .seq vs.toArray }) (hi : IntsAre vs ns) (hl : ns.length ≤ sizeLine) (hr : Room k callerA)
    (F : ∀ base : Heap, K.In base → base.Ns mainGlobals mg → FnOk P w K mg base CX k fa fd [x] sp) (hbind : ∀ (s : Shared) (u : Value), BindsTo s fd ⟨[u], []⟩ [(x, u)])
    (hsp : ∀ H : Hp, Only H → SqL K H a (ns.map V.int) → sp [.ref a] H (fun v _ => v = .bl true) fun _ _ _ => False)
    (hCX : ∀ H e s', CX [] H s₁ (fun _ _ _ => False) e s' → False) :
    codeAny (model P w) callerA (.call (.ref fa) ⟨[.ref a], []⟩) (fun r s' => r = .ok (.ret (.bool true)) ∧ OldK s₁.heap s'.heap ∧ s'.os = s₁.os ∧ AllBare s'.gens) s₁ := by
  have rv := vals_ints hi
  have lenV := hi.length
  -- from an abstract heap in which nothing but the script may be tracked
  have core : ∀ H : Hp, Only H → SqL K H a (ns.map V.int) → HOk P w H s₁.heap → (∀ b, H b ≠ none → b = a) → (H a ≠ none → K.lookup a = none) →
      codeAny (model P w) callerA (.call (.ref fa) ⟨[.ref a], []⟩) (fun r s' => r = .ok (.ret (.bool true)) ∧ OldK s₁.heap s'.heap ∧ s'.os = s₁.os ∧ AllBare s'.gens) s₁ := by
    intro H hO hS hok hA hK
    have base_of : ∀ {b : Addr} {o : Obj}, s₁.heap.get? b = some o → H b = none → (hidT s₁.heap H).get? b = some o := fun e n => hidT_get e n
    have noA : ∀ {b : Addr} {o : Obj} {es : Array DictEntry} {ep : Nat}, s₁.heap.get? b = some o → o.data = .dict es ep → H b = none := fun {b o es ep} e d => by
      cases q : H b with
      | none => rfl
      | some u =>
        have e' : b = a := hA b (by rw [q]; simp)
        subst e'
        rw [ha] at e; cases e
        have d' : Data.seq vs.toArray _ = Data.dict es ep := d
        cases d'
    have nsK : ∀ {b : Addr} {m : Str → Option Value}, s₁.heap.Ns b m → (hidT s₁.heap H).Ns b m := fun {b m} ⟨o, es, ep, e, d, r⟩ => ⟨o, es, ep, base_of e (noA e d), d, r⟩
    have hKb : K.In (hidT s₁.heap H) := fun b o e => base_of (KX b o e) (by
      cases q : H b with
      | none => rfl
      | some u =>
        have e' : b = a := hA b (by rw [q]; simp)
        subst e'
        rw [hK (by rw [q]; simp)] at e; cases e)
    have hM : Mod K mg (hidT s₁.heap H) := ⟨hKb, nsK hns, ⟨mb, nsK hb, hbb⟩, let ⟨mc, h1, h2⟩ := hlim; ⟨mc, nsK h1, h2⟩⟩
    have e0 : Env0 P w K mg (hidT s₁.heap H) callerA [] s₁ H := ⟨rfl, hM, fun b o e => of_hidT e, Nat.le_of_eq (hidT_size _ _), trivial, fun b hb => absurd (show b ∈ ([] : List Addr) from hb) (by simp), hok, .of_eq hg⟩
    refine codeAny_mono ((F _ hKb (nsK hns)).run callerA [] s₁ H ⟨[.ref a], []⟩ [.ref a] [.ref a] _ _ hr e0 (hbind s₁ (.ref a)) (.cons rfl .nil) (hsp H hO hS)) fun r s' h => ?_
    cases r with
    | error e => exact (hCX H e s' h).elim
    | ok fl =>
      cases fl with
      | next => exact False.elim h
      | brk => exact False.elim h
      | cont => exact False.elim h
      | ret u =>
        obtain ⟨v, H', os, bare, un, hok', r', q⟩ := h
        have q' : v = .bl true := q
        subst q'
        obtain rfl : u = Value.bool true := r'
        refine ⟨rfl, OldK.of_keep fun b o e => ?_, os, bare⟩
        cases q : H b with
        | none => exact un.keep b o e q (by intro z; exact absurd (show b ∈ ([] : List Addr) from z) (by simp)) (by simp)
        | some u =>
          rcases hO b with z | ⟨ob, xs, z⟩
          · rw [q] at z; cases z
          · have z2 := un.frzs b ob _ z
            obtain ⟨e1, _⟩ := hok b _ z
            obtain ⟨e2, _⟩ := hok' b _ z2
            rw [e] at e1; cases e1
            exact e2
  cases hk : K.lookup a with
  | some o =>
    -- the script is one of the module's own objects
    have e := KX a o hk
    rw [ha] at e
    cases e
    refine core (fun _ => none) (fun _ => .inl rfl) (.inr ⟨_, vs.toArray, _, hk, rfl, rfl, rfl, by rw [List.size_toArray, lenV]; exact hl, by simpa using rv⟩) (fun b u z => by have z' : (none : Option HO) = some u := z; cases z') (fun b z => absurd rfl z) fun z => absurd rfl z
  | none =>
    refine core (fun b => if b = a then some (.frz { cls := .type "list", data := .seq vs.toArray } (.lst (ns.map V.int))) else none) (fun b => ?_) (.inl (.inr ⟨{ cls := .type "list", data := .seq vs.toArray }, if_pos rfl⟩)) (fun b u z => ?_) (fun b z => ?_) fun _ => hk
    · by_cases hb : b = a
      · exact .inr ⟨_, _, if_pos hb⟩
      · exact .inl (if_neg hb)
    · by_cases hb : b = a
      · have z' := (if_pos hb).symm.trans z
        cases z'
        subst hb
        exact ⟨ha, by rw [List.length_map]; exact hl, vs, _, rv, ha⟩
      · have z' := (if_neg hb).symm.trans z
        cases z'
    · by_cases hb : b = a
      · exact hb
      · exact absurd (if_neg hb) z
end L2

namespace L2
open PySem PySem.Spec PyProof.Rows

abbrev KOf {K : PySem.W.Frag} {h : Heap} (_ : K.In h) : PySem.W.Frag := K

/-- the goal that k_head leaves (case hc), from the law's promise. F gives the function object fd (K's own) once, then the promise over every base -/
theorem walk_of {l : PySem.W.OpenLaw} {n k : Nat} {q : Program} {loose : List Str} {XP : (Str → Option Value) → Heap → Prop} {YP : World → Heap → Prop} {d : DefRec} {K : Params → PySem.W.Frag} {CX : World → CXT} {sp : World → Sp} {x : Str}
    (hn : l.most = some n) (hn2 : n ≤ sizeLine) (hdf : d.params.defaults = []) (hr : Room k callerA)
    (hY : ∀ (w : World) (h : Heap), YP w h → (K w.params).In h)
    (F : ∀ (w : World) (mg : Str → Option Value) (fa : Addr) (h : Heap), (K w.params).In h → h.Ns mainGlobals mg → mg d.name = some (.ref fa) →
      ∃ fd : FuncData, (∀ (s : Shared) (u : Value), BindsTo s fd ⟨[u], []⟩ [(x, u)]) ∧
        ∀ base : Heap, (K w.params).In base → base.Ns mainGlobals mg → FnOk l.prog w (K w.params) mg base (CX w) k fa fd [x] (sp w))
    (hsp : ∀ (w : World) (H : Hp) (a : Addr) (ns : List Int), ns.length ≤ n → Only H → SqL (K w.params) H a (ns.map V.int) → sp w [.ref a] H (fun v _ => v = .bl true) fun _ _ _ => False)
    (hCX : ∀ (w : World) (H : Hp) (s : Shared) (e : Value) (s' : Shared), CX w [] H s (fun _ _ _ => False) e s' → False) :
    PySem.W.WalkO q loose XP YP l.row.toRowW d [] (fun f vs => PySem.call f vs) := by
  refine Att.attach_call hn hdf fun w s₀ s₁ mg mb fa o pm cd doc a vs ns G Y ho hd hcd hmg hobj hints hlen hg => ?_
  have KX := hY w _ Y
  obtain ⟨fd, hb, hF⟩ := F w mg fa _ KX G.T.g hmg
  exact law_call KX G.T.g G.T.b G.T.builtins G.T.nolimit hg hobj hints (Nat.le_trans hlen hn2) hr hF hb (fun H hO hS => hsp w H a ns hlen hO hS) fun H e s' => hCX w H s₁ e s'
/-- the same where the promise hangs on the written part alone: (sp := My.sp_law), no hole under a binder -/
theorem walk_ofK {l : PySem.W.OpenLaw} {n k : Nat} {q : Program} {loose : List Str} {XP : (Str → Option Value) → Heap → Prop} {YP : World → Heap → Prop} {d : DefRec} {K : Params → PySem.W.Frag} {CX : CXT} {sp : PySem.W.Frag → Sp} {x : Str}
    (hn : l.most = some n) (hn2 : n ≤ sizeLine) (hdf : d.params.defaults = []) (hr : Room k callerA)
    (hY : ∀ (w : World) (h : Heap), YP w h → (K w.params).In h)
    (F : ∀ (w : World) (mg : Str → Option Value) (fa : Addr) (h : Heap), (K w.params).In h → h.Ns mainGlobals mg → mg d.name = some (.ref fa) →
      ∃ fd : FuncData, (∀ (s : Shared) (u : Value), BindsTo s fd ⟨[u], []⟩ [(x, u)]) ∧
        ∀ base : Heap, (K w.params).In base → base.Ns mainGlobals mg → FnOk l.prog w (K w.params) mg base CX k fa fd [x] (sp (K w.params)))
    (hsp : ∀ (K : PySem.W.Frag) (H : Hp) (a : Addr) (ns : List Int), ns.length ≤ n → Only H → SqL K H a (ns.map V.int) → sp K [.ref a] H (fun v _ => v = .bl true) fun _ _ _ => False)
    (hCX : ∀ (H : Hp) (s : Shared) (e : Value) (s' : Shared), CX [] H s (fun _ _ _ => False) e s' → False) :
    PySem.W.WalkO q loose XP YP l.row.toRowW d [] (fun f vs => PySem.call f vs) :=
  walk_of (K := K) (CX := fun _ => CX) (sp := fun w => sp (K w.params)) hn hn2 hdf hr hY F (fun w H a ns h1 h2 h3 => hsp (K w.params) H a ns h1 h2 h3) fun _ H s e s' => hCX H s e s'
end L2

/- THE LAST THEOREM (shape; LID, My.* are yours):
   My.Adr: a structure of the addresses that your layer names (classes, functions); My.Txt K t: a structure (Prop) of the equations over K;
   My.txt_mk : {K} {implicit addresses ..} (e1 : nsIn K mainGlobals "law" = some (some (.ref f))) (e2 : K.lookup f = some ⟨oc, od, .func (fnOf "law" "law" params body scope dV kV doc pm an cdv ct), sl⟩) (e3 : codeIn K cdv "law" = true) .. : ∃ t, My.Txt K t

set_option maxRecDepth 100000 in
set_option maxHeartbeats 0 in
theorem PySem.Challenge.cw_LID_holds : PySem.Challenge.rw_LID.Holds := by
  w_on; o_law; k_head; (case hw => w_witness2)
  k_fill
  refine L2.walk_of (l := PySem.Challenge.rw_LID) (n := 63) (k := 40) (x := "script") (CX := fun w => ..) (sp := fun _ => My.sp_law) rfl (by decide) rfl ⟨rfl, by decide, by decide⟩ (fun w h Y => PySem.W.kIn_of Y) ?F ?S ?C
  case F =>
    intro w mg fa h KX G hmg
    have T : ∃ t, My.Txt (L2.KOf KX) t := by
      dsimp only [L2.KOf]                          -- K must stand as «<heap const> w.params» for k_is
      refine' My.txt_mk ?e1 ?e2 ?e3 ..
      (case e1 => PySem.W.k_is)                    -- in the order: a name -> its address -> its object -> its parts
      (case e2 => PySem.W.k_is)
      ..
    obtain ⟨t, T⟩ := T
    have e0 := hmg.symm.trans (PySem.W.mg_of KX G T.law)
    cases e0                                       -- fa is the law's own address
    exact ⟨_, fun s u => .of_eq rfl, fun base kb nb => My.law_fn T kb nb⟩     -- if «.of_eq rfl» comes too early: refine' ⟨_, ?b, fun base kb nb => My.law_fn T kb nb⟩; exact fun s u => .of_eq rfl
  case S => exact fun w H a ns hl hO hS => ..
  case C => exact ..
(the tactic k_is has no namespace: write k_is) -/

/-! SHORT WORDS over the layer: a def of the text, its body, what a loop and a test want. -/
namespace L2
open PySem PySem.Spec PyProof.Rows

/-! ### the text by places -/
/-- the j-th statement of a class's body -/
def inClass (s : Stmt) (j : Nat) : Stmt := match s with
  | .ClassDef _ _ _ body _ _ _ _ _ _ _ => body.getD j (.Pass ⟨0, 0, 0, 0⟩)
  | _ => .Pass ⟨0, 0, 0, 0⟩
def defArgs (s : Stmt) : Arguments := match s with
  | .FunctionDef _ a _ _ _ _ _ _ _ _ => a
  | _ => { posonlyargs := [], args := [], vararg := none, kwonlyargs := [], kw_defaults := [], kwarg := none, defaults := [] }
def defBody (s : Stmt) : List Stmt := match s with
  | .FunctionDef _ _ b _ _ _ _ _ _ _ => b
  | _ => []
def defScope (s : Stmt) : Scope := match s with
  | .FunctionDef _ _ _ _ _ _ sc _ _ _ => sc
  | _ => { kind := .function, names := [], isGenerator := false, isCoroutine := false }

/-! ### no exception leaves a def -/
abbrev CX0 : CXT := fun _ _ _ _ _ _ => False
abbrev E0 : XK := fun _ _ _ => False
theorem pass0 {X : Cx} : Passes CX0 X E0 := fun _ _ _ _ _ _ _ h => h.elim

/-! ### a def (or method) of the text as it stands behind the top -/
structure Fun (K : PySem.W.Frag) (x qual : Str) (st : Stmt) (f : Addr) (fd : FuncData) : Prop where
  ex : ∃ (oc : Value) (od : Option Addr) (kV doc pm : Value) (an : Option Addr) (cdv ct : Value) (osl : Array (Option Value)),
    fd = PySem.W.fnOf x qual (defArgs st) (defBody st) (defScope st) .none kV doc pm an cdv ct ∧ K.lookup f = some ⟨oc, od, .func fd, osl⟩ ∧ PySem.W.codeIn K cdv qual = true
  kp : PySem.W.keepIn K (.ref f) = true
section
variable {P : Program} {w : World} {K : PySem.W.Frag} {mg : Str → Option Value} {base : Heap}
/-- THE RULE for a def: its body as a term of rules, and the reading of that term -/
theorem Fun.ok {x qual : Str} {st : Stmt} {f : Addr} {fd : FuncData} {N ps : List Str} {k : Nat} {sp : Sp} (F : Fun K x qual st f fd) (S : FnScope N ps (defScope st)) (len : ∀ vs H Q E, sp vs H Q E → vs.length = ps.length)
    (hbody : ∀ (cdv : Value) (A : Around) (outer : List Env) (s : Shared) (H : Hp) (vs : List V) (Q : VK) (E : XK), Room k (A.deeper (envOfC qual (defScope st) s.heap.objs.size f cdv)) → sp vs H Q E →
      ∃ t, PSs (cxOf CX0 P w K mg base N qual (defScope st) f cdv A outer s H E).nox (defBody st) t ∧ t { nx := fun _ H' => Q .non H', rt := Q } (start N vs) H) : FnOk P w K mg base CX0 (k + 1) f fd ps sp := by
  obtain ⟨oc, od, kV, doc, pm, an, cdv, ct, osl, rfl, lk, hcd⟩ := F.ex
  refine fn_of lk hcd S len fun A outer s H vs Q E hr hsp => ?_
  obtain ⟨t, h, q⟩ := hbody cdv A outer s H vs Q E hr hsp
  exact ⟨t, h.nox, q⟩
/-- how its arguments bind (no defaults): h is «fun _ _ _ _ _ _ us hl => match us, hl with | [_, _], _ => rfl», one _ a parameter -/
theorem Fun.binds {x qual : Str} {st : Stmt} {f : Addr} {fd : FuncData} {ps : List Str} (F : Fun K x qual st f fd)
    (h : ∀ (kV doc pm : Value) (an : Option Addr) (cdv ct : Value) (us : List Value), us.length = ps.length → bindArgs (PySem.W.fnOf x qual (defArgs st) (defBody st) (defScope st) .none kV doc pm an cdv ct) ⟨us, []⟩ = pure (ps.zip us)) : Binds K fd ps [] := by
  obtain ⟨oc, od, kV, doc, pm, an, cdv, ct, osl, rfl, lk, hcd⟩ := F.ex
  exact .all (h kV doc pm an cdv ct)
theorem fun_mk {x qual : Str} {st : Stmt} {f : Addr} {oc : Value} {od an : Option Addr} {osl : Array (Option Value)} {kV doc pm cdv ct : Value} (l : K.lookup f = some ⟨oc, od, .func (PySem.W.fnOf x qual (defArgs st) (defBody st) (defScope st) .none kV doc pm an cdv ct), osl⟩)
    (c : PySem.W.codeIn K cdv qual = true) (k : PySem.W.keepIn K (.ref f) = true) : Fun K x qual st f (PySem.W.fnOf x qual (defArgs st) (defBody st) (defScope st) .none kV doc pm an cdv ct) := ⟨⟨oc, od, kV, doc, pm, an, cdv, ct, osl, rfl, l, c⟩, k⟩
end
theorem hu_of {A : Around} {k : Nat} (hr : Room k A) : A.units + 1 < cLine := Nat.lt_of_le_of_lt (Nat.add_le_add_left (by decide : 1 ≤ 64) _) hr.units
theorem small1000 {n : Nat} (h : n ≤ 1000) : n < sizeLine := Nat.lt_of_le_of_lt h (by decide)

/-! ### expressions in short: the name that stands in the i-th slot -/
section
variable {X : Cx}
theorem pv (i : Nat) {x : Str} {pos : Pos} (hN : X.N[i]? = some x := by rfl) (hv : Vis X.env.scope x := by first | exact Or.inl rfl | exact Or.inr (Or.inl rfl) | exact Or.inr (Or.inr rfl)) (hd : (x == ("__debug__" : Str)) = false := by decide)
    (hcd : (x == ("__classdict__" : Str)) = false := by decide) : PE X (.Name x pos) (tVar i) := pe_var hN hv hd hcd
/-- len of a dict -/
theorem call_lenD : CallR X (.builtin "len") (fun xs H Q => ∃ a kvs, xs = [V.ref a] ∧ H a = some (.dK kvs) ∧ Q (.int kvs.length) H) := by
  intro pins s σ H xs us Q I r h
  obtain ⟨a, kvs, rfl, ha, q⟩ := h
  obtain ⟨u, rfl, ru⟩ := vals1 r
  cases ru
  exact d_len I (.inl ha) fun t s' I' => ⟨.int kvs.length, H, I', ⟨t, rfl⟩, q⟩
end

/-! ### tests -/
theorem iteF {A B : Prop} (h : B) : if false = true then A else B := by
  rw [if_neg Bool.false_ne_true]
  exact h
theorem iteT {A B : Prop} (h : A) : if true = true then A else B := by
  rw [if_pos rfl]
  exact h
theorem ite2 {c A B : Prop} [Decidable c] (h1 : c → A) (h2 : ¬ c → B) : if c then A else B := by
  by_cases h : c
  · rw [if_pos h]
    exact h1 h
  · rw [if_neg h]
    exact h2 h
theorem iteNS {c A B : Prop} [Decidable c] (hc : c) (h : B) : if (!decide c) = true then A else B := by
  rw [decide_eq_true hc]
  exact iteF h

/-! ### heaps -/
/-- all that was tracked is as it was -/
def Same (H H' : Hp) : Prop := ∀ b o, H b = some o → H' b = some o
theorem Same.refl (H : Hp) : Same H H := fun _ _ h => h
theorem Same.trans {H H1 H2 : Hp} (a : Same H H1) (b : Same H1 H2) : Same H H2 := fun c o h => b c o (a c o h)
theorem Same.free {H H' : Hp} (e : Same H H') {l : Addr} (h : H' l = Option.none) : H l = Option.none := by
  cases q : H l with
  | none => rfl
  | some o =>
    rw [e l o q] at h
    cases h
theorem Same.seq {K : PySem.W.Frag} {H H' : Hp} {a : Addr} {xs : List V} (e : Same H H') (h : SqL K H a xs) : SqL K H' a xs := by
  rcases h with (h | ⟨o, h⟩) | h
  · exact .inl (.inl (e _ _ h))
  · exact .inl (.inr ⟨o, e _ _ h⟩)
  · exact .inr h

/-! ### a dict's pairs: keys that differ -/
section
variable {κ : Type} [DecidableEq κ]
theorem valV_not {kvs : List (κ × V)} {k : κ} (h : valV kvs k = none) : ¬ k ∈ kvs.map (·.1) := by
  intro m
  obtain ⟨p, hp, e⟩ := List.mem_map.mp m
  have q : (kvs.any fun kv => decide (kv.1 = k)) = true := List.any_eq_true.mpr ⟨p, hp, decide_eq_true e⟩
  rw [valV_any, h] at q
  exact absurd q (by simp)
theorem valV_in {kvs : List (κ × V)} {k : κ} {v : V} (h : valV kvs k = some v) : k ∈ kvs.map (·.1) := by
  have q : (kvs.any fun kv => decide (kv.1 = k)) = true := by
    rw [valV_any, h]
    all_goals rfl
  obtain ⟨p, hp, e⟩ := List.any_eq_true.mp q
  exact List.mem_map.mpr ⟨p, hp, of_decide_eq_true e⟩
theorem nd_snoc : ∀ {l : List κ} {k : κ}, l.Nodup → ¬ k ∈ l → (l ++ [k]).Nodup
  | [], k, _, _ => by simp
  | a :: r, k, h, hk => by
    obtain ⟨h1, h2⟩ := List.nodup_cons.mp h
    show (a :: (r ++ [k])).Nodup
    refine List.nodup_cons.mpr ⟨fun m => ?_, nd_snoc h2 fun m => hk (List.mem_cons.mpr (Or.inr m))⟩
    rcases List.mem_append.mp m with q | q
    · exact h1 q
    · exact hk (List.mem_cons.mpr (Or.inl (List.mem_singleton.mp q).symm))
theorem nd_putK {kvs : List (κ × V)} {k : κ} (v : V) (hn : (kvs.map (·.1)).Nodup) (h : valV kvs k = none) : ((putK kvs k v).map (·.1)).Nodup := by
  rw [putK_new v h, List.map_append]
  exact nd_snoc hn (valV_not h)
theorem dropK_pos {p : κ × V} {r : List (κ × V)} {k : κ} (e : p.1 = k) : dropK (p :: r) k = dropK r k := by
  unfold dropK
  rw [List.filter_cons, if_neg (by simp [e])]
theorem dropK_neg {p : κ × V} {r : List (κ × V)} {k : κ} (e : ¬ p.1 = k) : dropK (p :: r) k = p :: dropK r k := by
  unfold dropK
  rw [List.filter_cons, if_pos (by simp [e])]
theorem dropK_no : ∀ {kvs : List (κ × V)} {k : κ}, ¬ k ∈ kvs.map (·.1) → dropK kvs k = kvs
  | [], _, _ => rfl
  | p :: r, k, h => by
    have h' : ¬ k ∈ r.map (·.1) := fun m => by
      obtain ⟨q, hq, e⟩ := List.mem_map.mp m
      exact h (List.mem_map.mpr ⟨q, List.mem_cons.mpr (Or.inr hq), e⟩)
    rw [dropK_neg fun e => h (List.mem_map.mpr ⟨p, List.mem_cons.mpr (Or.inl rfl), e⟩), dropK_no h']
theorem dropK_mem {kvs : List (κ × V)} {k : κ} {p : κ × V} (h : p ∈ dropK kvs k) : p ∈ kvs := (List.mem_filter.mp h).1
theorem nd_dropK : ∀ {kvs : List (κ × V)} {k : κ}, (kvs.map (·.1)).Nodup → ((dropK kvs k).map (·.1)).Nodup
  | [], _, _ => List.nodup_nil
  | p :: r, k, h => by
    have h : (p.1 :: r.map (·.1)).Nodup := h
    obtain ⟨h1, h2⟩ := List.nodup_cons.mp h
    by_cases e : p.1 = k
    · rw [dropK_pos e]
      exact nd_dropK h2
    · rw [dropK_neg e]
      show (p.1 :: (dropK r k).map (·.1)).Nodup
      refine List.nodup_cons.mpr ⟨fun m => h1 ?_, nd_dropK h2⟩
      obtain ⟨q, hq, eq⟩ := List.mem_map.mp m
      exact List.mem_map.mpr ⟨q, dropK_mem hq, eq⟩
theorem dropK_len : ∀ {kvs : List (κ × V)} {k : κ}, (kvs.map (·.1)).Nodup → k ∈ kvs.map (·.1) → (dropK kvs k).length + 1 = kvs.length
  | [], _, _, m => by simp at m
  | p :: r, k, h, m => by
    have h : (p.1 :: r.map (·.1)).Nodup := h
    have m : k = p.1 ∨ k ∈ r.map (·.1) := List.mem_cons.mp m
    obtain ⟨h1, h2⟩ := List.nodup_cons.mp h
    by_cases e : p.1 = k
    · subst e
      rw [dropK_pos rfl, dropK_no h1]
      all_goals rfl
    · have m' : k ∈ r.map (·.1) := m.resolve_left fun z => e z.symm
      have q := dropK_len h2 m'
      rw [dropK_neg e, List.length_cons, List.length_cons]
      omega
end
end L2

set_option Elab.async false
set_option linter.all false
set_option maxRecDepth 100000
set_option maxHeartbeats 4000000
namespace L2
open PySem PySem.Spec PyProof.Rows

/-! ### heaps, without their making -/
structure New (H : Hp) (l : Addr) (o : HO) (H2 : Hp) : Prop where
  was : H l = none
  is : H2 l = some o
  oth : ∀ b, b ≠ l → H2 b = H b
theorem New.upd {H : Hp} {l : Addr} {o : HO} (h : H l = none) : New H l o (upd H l o) := ⟨h, upd_same, fun b hb => upd_ne hb⟩
theorem New.same {H H2 : Hp} {l : Addr} {o : HO} (n : New H l o H2) : Same H H2 := fun b u e => by rw [n.oth b (ne_of_none e n.was)]; exact e
theorem New.ne {H H2 : Hp} {l b : Addr} {o u : HO} (n : New H l o H2) (e : H b = some u) : b ≠ l := ne_of_none e n.was
structure Chg (H : Hp) (l : Addr) (o : HO) (H2 : Hp) : Prop where
  is : H2 l = some o
  oth : ∀ b, b ≠ l → H2 b = H b
theorem Chg.upd {H : Hp} {l : Addr} {o : HO} : Chg H l o (upd H l o) := ⟨upd_same, fun b hb => upd_ne hb⟩
theorem Chg.same {H0 H H2 : Hp} {l : Addr} {o : HO} (c : Chg H l o H2) (s : Same H0 H) (hn : H0 l = none) : Same H0 H2 := fun b u e => by rw [c.oth b (ne_of_none e hn)]; exact s b u e
theorem Same.none {H H' : Hp} (s : Same H H') {l : Addr} (h : H' l = Option.none) : H l = Option.none := s.free h

/-- a list or a tuple that may be read -/
def Sq (H : Hp) (a : Addr) (xs : List V) : Prop := Rd H a (.lst xs) ∨ Rd H a (.tup xs)
theorem Rd.same {H H' : Hp} {a : Addr} {u : HO} (r : Rd H a u) (s : Same H H') : Rd H' a u := by
  rcases r with r | ⟨o, r⟩
  · exact .inl (s _ _ r)
  · exact .inr ⟨o, s _ _ r⟩
theorem Sq.same {H H' : Hp} {a : Addr} {xs : List V} (h : Sq H a xs) (s : Same H H') : Sq H' a xs := h.imp (·.same s) (·.same s)
theorem Sq.lst {H : Hp} {a : Addr} {xs : List V} (h : H a = some (.lst xs)) : Sq H a xs := .inl (.inl h)
theorem Sq.tup {H : Hp} {a : Addr} {xs : List V} (h : H a = some (.tup xs)) : Sq H a xs := .inr (.inl h)
theorem Rd.lt {P : Program} {w : World} {H : Hp} {h : Heap} {a : Addr} {u : HO} (r : Rd H a u) (x : HOk P w H h) : a < h.objs.size := by
  rcases r with r | ⟨o, r⟩
  · exact x.lt r
  · exact x.lt r


/-! ### weaker readings -/
theorem PE.imp {X : Cx} {e : Expr} {t t' : TE} (h : PE X e t) (i : ∀ σ H Q, t' σ H Q → t σ H Q) : PE X e t' := fun pins s σ H Q I q => h pins s σ H Q I (i σ H Q q)
theorem PS.imp {X : Cx} {e : Stmt} {t t' : TS} (h : PS X e t) (i : ∀ D σ H, t' D σ H → t D σ H) : PS X e t' := fun pins s σ H D I q => h pins s σ H D I (i D σ H q)
theorem IxR.imp {X : Cx} {r r' : R2} (h : IxR X r) (i : ∀ x y H Q, r' x y H Q → r x y H Q) : IxR X r' := by
  intro value slice pins s σ H x y v u Q I rx ry q hs
  exact h value slice pins s σ H x y v u Q I rx ry (i _ _ _ _ q) hs
theorem CallR.imp {X : Cx} {f : Value} {r r' : List V → Hp → VK → Prop} (h : CallR X f r) (i : ∀ xs H Q, r' xs H Q → r xs H Q) : CallR X f r' := fun pins s σ H xs us Q I rx q => h pins s σ H xs us Q I rx (i xs H Q q)
theorem OpR.imp {X : Cx} {f : Value → Value → Sem Value} {r r' : R2} (h : OpR X f r) (i : ∀ x y H Q, r' x y H Q → r x y H Q) : OpR X f r' := fun pins s σ H x y v u Q I rx ry q => h pins s σ H x y v u Q I rx ry (i x y H Q q)

/-! ### a comprehension's block -/
/-- the outer slots that the block sees, in its own names' order -/
def pick (σ : St) : List (Option Nat) → St
  | [] => []
  | none :: r => none :: pick σ r
  | some j :: r => (σ.getD j none) :: pick σ r
theorem pick_length (σ : St) : ∀ ix, (pick σ ix).length = ix.length
  | [] => rfl
  | none :: r => by rw [pick, List.length_cons, List.length_cons, pick_length σ r]
  | some j :: r => by rw [pick, List.length_cons, List.length_cons, pick_length σ r]
theorem pick_get (σ : St) : ∀ {ix : List (Option Nat)} {i : Nat} {v : V}, (pick σ ix)[i]? = some (some v) → ∃ j, ix[i]? = some (some j) ∧ σ[j]? = some (some v)
  | [], i, v, h => by simp [pick] at h
  | none :: r, 0, v, h => by simp [pick] at h
  | none :: r, i + 1, v, h => by
    obtain ⟨j, h1, h2⟩ := pick_get σ (ix := r) (i := i) (v := v) (by simpa [pick] using h)
    exact ⟨j, by simpa using h1, h2⟩
  | some j :: r, 0, v, h => by
    refine ⟨j, by simp, ?_⟩
    simp only [pick, List.getElem?_cons_zero, Option.some.injEq] at h
    rw [List.getD_eq_getElem?_getD] at h
    cases e : σ[j]? with
    | none => rw [e] at h; simp at h
    | some o => rw [e] at h; simp at h; rw [h]
  | some j :: r, i + 1, v, h => by
    obtain ⟨j', h1, h2⟩ := pick_get σ (ix := r) (i := i) (v := v) (by simpa [pick] using h)
    exact ⟨j', by simpa using h1, h2⟩

/-- what is asked of a block's scope -/
def compOk (osc sc : Scope) (N N' : List Str) (ix : List (Option Nat)) : Bool :=
  decide (sc.kind = .function) && sc.names.all (fun y => decide (y.2 ≠ .cell)) && sc.names.all (fun y => !decide (y.2 = .local) || decide (sc.names.lookup y.1 = some .local)) &&
  sc.names.all (fun y => !decide (y.2 = .free) || decide (osc.names.lookup y.1 = some .cell)) && decide N'.Nodup && decide (ix.length = N'.length) &&
  (N'.zip ix).all (fun p => match p.2 with | none => true | some j => decide (N[j]? = some p.1) && decide (sc.names.lookup p.1 = some .free))

structure CompSc (osc sc : Scope) (N N' : List Str) (ix : List (Option Nat)) : Prop where
  kind : sc.kind = .function
  nocell : ∀ y ∈ sc.names, y.2 ≠ .cell
  loc : ∀ y ∈ sc.names, y.2 = .local → sc.names.lookup y.1 = some .local
  fre : ∀ y ∈ sc.names, y.2 = .free → osc.names.lookup y.1 = some .cell
  nd : N'.Nodup
  len : ix.length = N'.length
  map : ∀ (i : Nat) (x : Str) (j : Nat), N'[i]? = some x → ix[i]? = some (some j) → N[j]? = some x ∧ sc.names.lookup x = some .free
theorem compSc_of {osc sc : Scope} {N N' : List Str} {ix : List (Option Nat)} (h : compOk osc sc N N' ix = true) : CompSc osc sc N N' ix := by
  simp only [compOk, Bool.and_eq_true, decide_eq_true_eq, List.all_eq_true, Bool.or_eq_true, Bool.not_eq_true', decide_eq_false_iff_not] at h
  obtain ⟨⟨⟨⟨⟨⟨h1, h2⟩, h3⟩, h4⟩, h5⟩, h6⟩, h7⟩ := h
  refine ⟨h1, h2, fun y hy e => (h3 y hy).elim (fun z => absurd e z) id, fun y hy e => (h4 y hy).elim (fun z => absurd e z) id, h5, h6, fun i x j e1 e2 => ?_⟩
  have hm : (x, some j) ∈ N'.zip ix := by
    have : (N'.zip ix)[i]? = some (x, some j) := by rw [List.getElem?_zip_eq_some]; exact ⟨e1, e2⟩
    exact List.mem_of_getElem? this
  have q := h7 _ hm
  simpa using q

/-- the closure: the cells of the free names -/
theorem forIn_fold {α β : Type} {f : α → β → Sem (ForInStep β)} {g : α → β → β} : ∀ (l : List α) (b : β), (∀ x ∈ l, ∀ c, f x c = pure (.yield (g x c))) → forIn l b f = (pure (l.foldl (fun b x => g x b) b) : Sem β)
  | [], b, _ => by rw [List.forIn_nil]; rfl
  | x :: l, b, h => by
    rw [List.forIn_cons, h x List.mem_cons_self b, pure_bind]
    exact forIn_fold l (g x b) fun y hy => h y (List.mem_cons_of_mem _ hy)
def cloStep (cells : List (Str × Addr)) (x : Str × NameKind) (cs : List (Str × Addr)) : List (Str × Addr) :=
  if x.2 = .free then (x.1, (cells.lookup x.1).getD 0) :: cs else cs
def cloOf (cells : List (Str × Addr)) (names : List (Str × NameKind)) : List (Str × Addr) := names.foldl (fun cs x => cloStep cells x cs) []
theorem closureFor_of {scope : Scope} {env : Env} (h : ∀ y ∈ scope.names, y.2 = .free → ∃ c, env.cells.lookup y.1 = some c) : closureFor scope env = pure (cloOf env.cells scope.names) := by
  simp only [closureFor]
  rw [forIn_fold (g := cloStep env.cells) scope.names [] (fun x hx c => by
    obtain ⟨n, k⟩ := x
    by_cases hk : k = .free
    · subst hk
      obtain ⟨a, e⟩ := h _ hx rfl
      have e' : env.cells.lookup n = some a := e
      simp only [beq_self_eq_true, if_true, cellOf, e', pure_bind, cloStep, Option.getD_some]
    · have hb : (k == NameKind.free) = false := by simpa using hk
      simp only [hb, Bool.false_eq_true, if_false, cloStep, if_neg hk])]
  rfl
theorem clo_sub {cells : List (Str × Addr)} : ∀ (names : List (Str × NameKind)) (cs : List (Str × Addr)), (∀ y ∈ names, y.2 = .free → ∃ c, cells.lookup y.1 = some c) → (∀ x c, cs.lookup x = some c → cells.lookup x = some c) →
    ∀ x c, (names.foldl (fun cs x => cloStep cells x cs) cs).lookup x = some c → cells.lookup x = some c
  | [], cs, _, hc, x, c, e => hc x c e
  | y :: names, cs, h, hc, x, c, e => by
    rw [List.foldl_cons] at e
    refine clo_sub names (cloStep cells y cs) (fun z hz => h z (List.mem_cons_of_mem _ hz)) (fun x' c' e' => ?_) x c e
    unfold cloStep at e'
    split at e'
    · rename_i hk
      obtain ⟨a, ea⟩ := h y List.mem_cons_self hk
      rw [ea, Option.getD_some, List.lookup_cons] at e'
      by_cases hx : x' = y.1
      · subst hx
        simp at e'
        rw [ea, e']
      · have hb : (x' == y.1) = false := by simpa using hx
        rw [hb] at e'
        exact hc x' c' e'
    · exact hc x' c' e'
theorem clo_more {cells : List (Str × Addr)} : ∀ (names : List (Str × NameKind)) (cs : List (Str × Addr)) (x : Str), (∃ c, cs.lookup x = some c) → ∃ c, (names.foldl (fun cs x => cloStep cells x cs) cs).lookup x = some c
  | [], cs, x, h => h
  | y :: names, cs, x, h => by
    rw [List.foldl_cons]
    refine clo_more names _ x ?_
    unfold cloStep
    split
    · rw [List.lookup_cons]
      by_cases hx : (x == y.1) = true
      · rw [hx]; exact ⟨_, rfl⟩
      · have hb : (x == y.1) = false := by simpa using hx
        rw [hb]; exact h
    · exact h
theorem clo_has {cells : List (Str × Addr)} : ∀ (names : List (Str × NameKind)) (cs : List (Str × Addr)) (x : Str), (x, NameKind.free) ∈ names → ∃ c, (names.foldl (fun cs x => cloStep cells x cs) cs).lookup x = some c
  | [], cs, x, h => nomatch h
  | y :: names, cs, x, h => by
    rw [List.foldl_cons]
    rcases List.mem_cons.mp h with e | h
    · refine clo_more names _ x ?_
      subst e
      unfold cloStep
      rw [if_pos rfl, List.lookup_cons]
      simp
    · exact clo_has names _ x h

theorem lookup_relabel_free {env : Env} : ∀ {names : List (Str × NameKind)} {x : Str}, names.lookup x = some .free →
    (names.map fun (n, k) => if (k == NameKind.free && env.scope.kind == .function && env.kindOf n == some .cell) then (n, NameKind.cell) else (n, k)).lookup x = some .cell ∨
    (names.map fun (n, k) => if (k == NameKind.free && env.scope.kind == .function && env.kindOf n == some .cell) then (n, NameKind.cell) else (n, k)).lookup x = some .free
  | [], _, h => by simp at h
  | (n, k) :: r, x, h => by
    have ih := @lookup_relabel_free env r x
    show List.lookup x ((if (k == NameKind.free && env.scope.kind == .function && env.kindOf n == some .cell) = true then (n, NameKind.cell) else (n, k)) :: _) = _ ∨ List.lookup x ((if (k == NameKind.free && env.scope.kind == .function && env.kindOf n == some .cell) = true then (n, NameKind.cell) else (n, k)) :: _) = _
    cases hx : x == n with
    | true =>
      simp only [List.lookup_cons, hx] at h
      cases h
      by_cases hc : (NameKind.free == NameKind.free && env.scope.kind == .function && env.kindOf n == some .cell) = true
      · left; rw [if_pos hc]; simp only [List.lookup_cons, hx]
      · right; rw [if_neg hc]; simp only [List.lookup_cons, hx]
    | false =>
      simp only [List.lookup_cons, hx] at h
      by_cases hc : (k == NameKind.free && env.scope.kind == .function && env.kindOf n == some .cell) = true
      · rw [if_pos hc]; simp only [List.lookup_cons, hx]; exact ih h
      · rw [if_neg hc]; simp only [List.lookup_cons, hx]; exact ih h
/-- a name that the block's relabelled scope sees as a cell or free one was free -/
theorem relabel_cases {env : Env} : ∀ {names : List (Str × NameKind)} {x : Str}, (∀ y ∈ names, y.2 ≠ .cell) →
    ((names.map fun (n, k) => if (k == NameKind.free && env.scope.kind == .function && env.kindOf n == some .cell) then (n, NameKind.cell) else (n, k)).lookup x = some .cell ∨
    (names.map fun (n, k) => if (k == NameKind.free && env.scope.kind == .function && env.kindOf n == some .cell) then (n, NameKind.cell) else (n, k)).lookup x = some .free) → (x, NameKind.free) ∈ names
  | [], _, _, h => by simp at h
  | (n, k) :: r, x, hn, h => by
    have ih := @relabel_cases env r x (fun y hy => hn y (List.mem_cons_of_mem _ hy))
    have h2 : List.lookup x ((if (k == NameKind.free && env.scope.kind == .function && env.kindOf n == some .cell) = true then (n, NameKind.cell) else (n, k)) :: (r.map fun (n, k) => if (k == NameKind.free && env.scope.kind == .function && env.kindOf n == some .cell) then (n, NameKind.cell) else (n, k))) = some .cell ∨ List.lookup x ((if (k == NameKind.free && env.scope.kind == .function && env.kindOf n == some .cell) = true then (n, NameKind.cell) else (n, k)) :: (r.map fun (n, k) => if (k == NameKind.free && env.scope.kind == .function && env.kindOf n == some .cell) then (n, NameKind.cell) else (n, k))) = some .free := h
    clear h
    by_cases hc : (k == NameKind.free && env.scope.kind == .function && env.kindOf n == some .cell) = true
    · rw [if_pos hc] at h2
      have hk : k = .free := by
        simp only [Bool.and_eq_true, beq_iff_eq] at hc
        exact hc.1.1
      by_cases hx : (x == n) = true
      · have : x = n := by simpa using hx
        subst this; subst hk; exact List.mem_cons_self
      · have hb : (x == n) = false := by simpa using hx
        simp only [List.lookup_cons, hb] at h2
        exact List.mem_cons_of_mem _ (ih h2)
    · rw [if_neg hc] at h2
      by_cases hx : (x == n) = true
      · simp only [List.lookup_cons, hx, Option.some.injEq] at h2
        have e : x = n := by simpa using hx
        subst e
        rcases h2 with h | h
        · exact absurd h (hn (x, k) List.mem_cons_self)
        · subst h; exact List.mem_cons_self
      · have hb : (x == n) = false := by simpa using hx
        simp only [List.lookup_cons, hb] at h2
        exact List.mem_cons_of_mem _ (ih h2)

/-- the context of the block -/
def compCx (X : Cx) (sc : Scope) (N' : List Str) (C : Addr) (s : Shared) (H : Hp) (fp : List Addr) : Cx where
  prog := X.prog
  w := X.w
  K := X.K
  mg := X.mg
  base := X.base
  A := X.A
  N := N'
  s₀ := s
  H₀ := H
  env := compEnvC sc (cloOf X.env.cells sc.names) C X.env
  outer := X.stack
  stack := X.stack
  ex := fp
  fn := fun _ => false
  calm := X.calm
  pn := X.pn
  xe := fun _ _ => False

section
variable {X : Cx} {pins : List (Addr × Obj)} {σ : St} {H : Hp} {s : Shared}

theorem comp_ok {sc : Scope} {N' : List Str} {ix : List (Option Nat)} {C : Addr} {fp : List Addr} (I : Inv X pins σ H s) (S : CompSc X.env.scope sc X.N N' ix) (hC : s.heap.objs.size ≤ C) (hf : ∀ b ∈ fp, FpOk X pins H b) (hx : ∀ b ∈ fp, ∃ o, s.heap.get? b = some o) :
    (compCx X sc N' C s H fp).Ok := by
  have has : ∀ y ∈ sc.names, y.2 = .free → ∃ c, X.env.cells.lookup y.1 = some c := fun y hy e => I.ok.has y.1 (.inl (S.fre y hy e))
  have sub : ∀ x c, (cloOf X.env.cells sc.names).lookup x = some c → X.env.cells.lookup x = some c := clo_sub sc.names [] has (fun x c e => by simp at e)
  refine ⟨I.ok.mod, S.kind, I.ok.glob, I.ok.blt, hC, fun x y c h1 h2 => I.ok.inj x y c (sub x c h1) (sub y c h2), fun x hx => ?_, fun x c h _ => absurd (show false = true from h) Bool.false_ne_true, I.ok.hd, I.ok.frames, .inl rfl, fun b hb => ⟨?_, fun x c e z => ?_⟩, I.bs, Nat.le_trans I.ok.bsz I.sz,
    fun b o e hb => ?_, fun b hb hz => ?_, I.stack, I.stkFree⟩
  · exact clo_has sc.names [] x (relabel_cases S.nocell hx)
  · obtain ⟨o, e⟩ := hx b hb
    exact Nat.ne_of_lt (Nat.lt_of_lt_of_le (Heap.lt_size e) hC)
  · exact (hf b hb).2.2.2.2.1 x c (sub x c e) z
  · obtain ⟨f0, f1, f2, f3, f4, f5⟩ := hf b hb
    have := I.ok.bs b o e
    rcases f3 with z | z
    · exact I.ok.noex b o e z
    · exact absurd (Nat.lt_of_lt_of_le (Heap.lt_size this.1) z) (Nat.lt_irrefl _)
  · obtain ⟨f0, f1, f2, f3, f4, f5⟩ := hf b hb
    rcases List.mem_cons.mp (I.stkSub b hz) with e | e
    · exact f1 e
    · exact f2 e
end
end L2

set_option Elab.async false
set_option linter.all false
set_option maxRecDepth 100000
set_option maxHeartbeats 4000000
namespace L2
open PySem PySem.Spec PyProof.Rows

theorem ltne {a b n : Nat} (h : a < n) (h' : n ≤ b) : a ≠ b := Nat.ne_of_lt (Nat.lt_of_lt_of_le h h')
abbrev NoE : Value → Shared → Prop := fun _ _ => False

/-- the loop of a list comprehension with one clause, any target; no exception -/
theorem compLoop_any {prog : Program} {w : World} {A : Around} {R : Result → Shared → Prop} {s : Shared} {elt target iter : Expr} {ifs : List Expr} {scope : Scope} {pos : Pos} {it acc : Value} {env : Env} (I : Nat → Shared → Prop)
    (turn : ∀ n s, I n s → wpAny (model prog w) A (pyNext it) (fun r s₁ => match r with
      | none => R (.ok .next) s₁
      | some v => wpAny (model prog w) A (letOwnedTupleGo target it v) (fun _ s₁' => wpAny (model prog w) A (assign target env v) (fun _ s₂ =>
          wpAny (model prog w) A (forIn ifs true fun c r => if r = true then do let ok ← isTrue c env (eval c env); pure (ForInStep.yield ok) else pure (ForInStep.yield r)) (fun ok s₃ =>
            if ok = true then wpAny (model prog w) A (eval elt env) (fun x s₄ =>
              wpAny (model prog w) A (call (.builtin "list.append") [acc, x]) (fun _ s₅ => ∃ m, m < n ∧ I m s₅) NoE s₄) NoE s₃
            else ∃ m, m < n ∧ I m s₃) NoE s₂) NoE s₁') NoE s₁) NoE s)
    (n : Nat) (h : I n s) :
    codeAny (model prog w) A (.compLoop (.ListComp elt [⟨target, iter, ifs, 0⟩] scope pos) 0 it acc env) R s := by
  refine codeAny_loop rfl I (fun n s hI => ?_) n h
  show wpAny _ A ((compTurn (.ListComp elt [⟨target, iter, ifs, 0⟩] scope pos) 0 it acc env).onRaise (fun x => do noteFrame x env; theTreesLotGoes x)) _ _ s
  refine wpAny_noted ?_
  rw [compTurn_list]
  refine wpAny_bind (wpAny_standAt (wpAny_bind (wpAny_mono (turn n s hI) (fun r s₁ h₁ => ?_) fun _ _ h' => h'.elim)))
  cases r with
  | none => exact wpAny_pure h₁
  | some v =>
    refine wpAny_bind (wpAny_mono h₁ (fun _ s₁' h₁' => ?_) fun _ _ h' => h'.elim)
    refine wpAny_bind (wpAny_mono h₁' (fun _ s₂ h₂ => wpAny_bind (wpAny_mono h₂ (fun ok s₃ h₃ => ?_) fun _ _ h' => h'.elim)) fun _ _ h' => h'.elim)
    cases ok with
    | false => exact wpAny_pure ⟨rfl, h₃⟩
    | true =>
      exact wpAny_bind (wpAny_bind (wpAny_mono h₃ (fun x s₄ h₄ => wpAny_bind (wpAny_mono h₄ (fun _ s₅ h₅ => wpAny_pure (wpAny_pure ⟨rfl, h₅⟩)) fun _ _ h' => h'.elim)) fun _ _ h' => h'.elim))

/-- a comprehension's tests: none or one -/
def PTs (X : Cx) (ifs : List Expr) (t : TT) : Prop :=
  ∀ (pins : List (Addr × Obj)) (s : Shared) (σ : St) (H : Hp) (Q : Bool → Hp → Prop), Inv X pins σ H s → t σ H Q →
    wpAny (model X.prog X.w) X.A (forIn ifs true fun c r => if r = true then do let ok ← isTrue c X.env (eval c X.env); pure (ForInStep.yield ok) else pure (ForInStep.yield r)) (TP X pins σ Q) X.xe s
def tYes : TT := fun _ H Q => Q true H
theorem pts_nil {X : Cx} : PTs X [] tYes := fun _ _ _ H _ I h => wpAny_tests_nil ⟨H, I, h⟩
theorem pts_one {X : Cx} {c : Expr} {t : TT} (h : PT X c t) : PTs X [c] t := fun pins s σ H Q I q => wpAny_tests_one (h pins s σ H Q I q)

abbrev lobj (its : List Value) (k : Nat) : Obj := { cls := .type "list", data := .seq its.toArray k }

/-- an untracked object of ours becomes tracked -/
theorem Inv.track {X : Cx} {pins : List (Addr × Obj)} {σ : St} {H : Hp} {s : Shared} {D : Addr} {o : HO} (I : Inv X pins σ H s) (hn : H D = none) (h1 : D ∈ X.ex ∨ X.s₀.heap.objs.size ≤ D) (hL : D ≠ X.env.locals)
    (h2 : ∀ x c, X.env.cells.lookup x = some c → c ≠ D) (h3 : ∀ p ∈ X.pn ++ pins, p.1 ≠ D) (new : ObjOk X.prog X.w (upd H D o) s.heap D o) : Inv X pins σ (upd H D o) s := by
  refine I.step (h' := s.heap) (g' := s.gens) (t' := s.toks) (d' := s.drawn) (ch := [D]) (fun b hb => ?_) (fun b ob _ _ _ e _ => e) (fun b ob _ _ _ e _ => ⟨ob.slots, e⟩) (fun b ob hc _ n => ?_) (fun b ob _ e => ⟨ob, e⟩) (fun b xs e => ?_) (fun b ob u e => ?_) (fun b ps e => ?_) (fun m hm => hm) (fun b u e => ?_) I.bare
  · have e : b = D := by simpa using hb
    subst e; exact ⟨h1, hL, h2, h3⟩
  · rw [upd_ne (by simpa using hc)]; exact n
  · rw [upd_ne (ne_of_none e hn)]; exact e
  · rw [upd_ne (ne_of_none e hn)]; exact e
  · exact ⟨#[], by rw [upd_ne (ne_of_none e hn), e]; simp⟩
  · by_cases hb : b = D
    · subst hb; rw [upd_same] at e; cases e; exact new
    · rw [upd_ne hb] at e
      exact (I.hok b u e).stay (fun c v _ q => q) (fun c q => by rw [upd_ne (ne_of_none q hn)]; exact q) fun c xs q => by rw [upd_ne (ne_of_none q hn)]; exact q

/-- the reading: W by the turn, a measure, the block's slots, the heap, what is told so far -/
def tLCb (ix : List (Option Nat)) (J : It) (g : TG) (tc : TT) (te : TE) (σ : St) (H1 : Hp) (Q : VK) : Prop :=
  ∃ W : Nat → Nat → St → Hp → List V → Prop, (∃ m, W 0 m (pick σ ix) H1 []) ∧ ∀ i m σ H ys, W i m σ H ys →
    (J.stop i H ∧ ys.length ≤ sizeLine ∧ ∀ D H2, New H D (.lst ys) H2 → Q (.ref D) H2) ∨
    (J.go i H ∧ ys.length < sizeLine ∧ ∀ x H', J.yld i H x H' → g x σ H' fun σ2 H2 => tc σ2 H2 fun b H3 => if b = true then te σ2 H3 fun v H4 => ∃ m', m' < m ∧ W (i + 1) m' σ2 H4 (ys ++ [v]) else ∃ m', m' < m ∧ W (i + 1) m' σ2 H3 ys)
def tLC (ix : List (Option Nat)) (wi : TI) (g : TG) (tc : TT) (te : TE) : TE := fun σ H Q => wi σ H fun J H1 => tLCb ix J g tc te σ H1 Q

section
variable {X : Cx} {tg elt iter : Expr} {ifs : List Expr} {sc : Scope} {N' : List Str} {ix : List (Option Nat)} {g : TG} {tc : TT} {te : TE} {pos : Pos}

/-- the block, from the made iterator on; RR: what is wanted behind the loop -/
theorem comp_block {pins : List (Addr × Obj)} {σ : St} {H : Hp} {s : Shared} {E : Value → Shared → Prop} {it : Addr} {fp : List Addr} {tn : Nat → Heap → Prop} {J : It} {Q : VK} {RR : Value → Addr → Result → Shared → Prop}
    (hc : X.calm = true) (S : CompSc X.env.scope sc X.N N' ix)
    (hg : ∀ C s H fp, PG (compCx X sc N' C s H fp) tg g) (ht : ∀ C s H fp, PTs (compCx X sc N' C s H fp) ifs tc) (he : ∀ C s H fp, PE (compCx X sc N' C s H fp) elt te)
    (I : Inv X pins σ H s) (T : Turn X.prog X.w X.K tg J fp it tn) (st : tn 0 s.heap) (f : ∀ b ∈ fp, FpOk X pins H b) (q : tLCb ix J g tc te σ H Q)
    (hRR : ∀ D C s' H' m, Inv X pins σ H' s' → Q (.ref D) H' → s'.heap.Ns C m → H' C = none → s.heap.objs.size ≤ C → RR (.ref D) C (.ok .next) s') :
    wpAny (model X.prog X.w) X.A (newList []) (fun acc s₃ => wpAny (model X.prog X.w) X.A (newFunctionEnv sc X.env.globals (cloOf X.env.cells sc.names) [] X.env.qual none .none (some X.env)) (fun cenv s₄ =>
      codeAny (model X.prog X.w) X.A (.compStart (.ListComp elt [⟨tg, iter, ifs, 0⟩] sc pos) 0 (.ref it) acc { cenv with scope := relabel sc X.env }) (RR acc cenv.locals) s₄) E s₃) E s := by
  refine wpAny_newObj_type (wpAny_newFunctionEnv S.nocell (by intro y hy; simp at hy) (fun h₁ hns₁ hsb₁ => ?_) S.kind)
  dsimp only at hns₁ hsb₁ ⊢
  generalize hH2 : s.heap.push { cls := .type "list", dict := none, data := .seq ([] : List Value).toArray } = H2 at hns₁ hsb₁ ⊢
  have hC : H2.objs.size = s.heap.objs.size + 1 := by rw [← hH2, Heap.size_push]
  generalize hCe : H2.objs.size = C at hns₁ hsb₁ hC ⊢
  generalize hDe : s.heap.objs.size = D at hC ⊢
  have hDC : D ≠ C := by omega
  have hCle : s.heap.objs.size ≤ C := by omega
  have hDle : s.heap.objs.size ≤ D := by omega
  have old : ∀ b o, s.heap.get? b = some o → h₁.get? b = some o := fun b o e => by
    have hb := Heap.lt_size e
    exact hsb₁.extBut b o (ltne hb hCle) (Heap.get?_push_of_some _ (hH2 ▸ Heap.get?_push_of_some _ e))
  have hD0 : h₁.get? D = some (lobj [] 0) := by
    refine hsb₁.extBut _ _ hDC (Heap.get?_push_of_some _ ?_)
    rw [← hH2, ← hDe]
    exact Heap.get?_push_size _ rfl
  have fpx : ∀ b ∈ fp, ∃ o, s.heap.get? b = some o := fun b hb => by
    obtain ⟨o, e, _⟩ := T.obj 0 s.heap st b hb
    exact ⟨o, e⟩
  have fpD : ∀ b ∈ fp, b ≠ D := fun b hb z => by
    obtain ⟨o, e⟩ := fpx b hb
    exact ltne (Heap.lt_size e) hDle z
  have ok' : (compCx X sc N' C s H fp).Ok := comp_ok I S hCle f fpx
  have has : ∀ y ∈ sc.names, y.2 = .free → ∃ c, X.env.cells.lookup y.1 = some c := fun y hy e => I.ok.has y.1 (.inl (S.fre y hy e))
  have sub : ∀ x c, (cloOf X.env.cells sc.names).lookup x = some c → X.env.cells.lookup x = some c := clo_sub sc.names [] has (fun x c e => by simp at e)
  have clt : ∀ x c, (cloOf X.env.cells sc.names).lookup x = some c → c < s.heap.objs.size := fun x c e => by
    obtain ⟨v, z⟩ := I.cell x c (sub x c e)
    exact z.lt
  have nfs : ∀ b, s.heap.objs.size ≤ b → b ∉ frs X.stack := fun b hb hz => by
    rcases List.mem_cons.mp (I.stkSub b hz) with e | e
    · exact ltne I.lt hb e.symm
    · exact I.nofs hb e
  have plt : ∀ p ∈ X.pn ++ pins, p.1 < s.heap.objs.size := fun p hp => Heap.lt_size (I.pin p hp).1
  have I0 : ∀ tk, Inv (compCx X sc N' C s H fp) pins (pick σ ix) H { s with heap := h₁, toks := tk } := fun tk => by
    refine ⟨ok', rfl, I.bare, Un.kept old, ⟨_, hns₁, fun i x v h1 h2 h3 => ?_⟩, fun x c e => ?_, I.hok.fresh hCle, fun x c e => I.freeC x c (sub x c e), fun p hp => ?_, I.hok.kept old, ?_⟩
    · obtain ⟨j, e1, e2⟩ := pick_get σ h2
      obtain ⟨e3, e4⟩ := S.map i x j h1 e1
      obtain ⟨m, hn, hl⟩ := I.loc
      have hk : X.env.scope.names.lookup x = some .cell := S.fre (x, .free) (PySem.mem_of_lookup e4) rfl
      obtain ⟨u, r, l⟩ := hl j x v e3 e2 (.inr (.inl hk))
      rcases l with ⟨l, _⟩ | ⟨_, c, ec, z⟩
      · have l' : X.env.scope.names.lookup x = some .local := l
        rw [hk] at l'; cases l'
      · obtain ⟨c', ec'⟩ := clo_has (cells := X.env.cells) sc.names [] x (PySem.mem_of_lookup e4)
        have ec2 := sub x c' ec'
        rw [ec] at ec2; cases ec2
        exact ⟨u, r, .inr ⟨lookup_relabel_free e4, c, ec', z.keeps old⟩⟩
    · obtain ⟨v, z⟩ := I.cell x c (sub x c e)
      exact ⟨v, z.keeps old⟩
    · obtain ⟨e, n, ne, nf, d⟩ := I.pin p hp
      have := plt p hp
      refine ⟨old _ _ e, n, ?_, fun hz => ?_, d⟩
      · show p.1 ≠ C
        exact ltne this hCle
      · rcases List.mem_cons.mp (I.stkSub p.1 hz) with e' | e'
        · exact ne e'
        · exact nf e'
    · rw [pick_length, S.len]; rfl
  -- the list is pinned
  have pinD : ∀ {σ' : St} {H' : Hp} {s' : Shared} {its : List Value} {k : Nat} {pl : List (Addr × Obj)}, Inv (compCx X sc N' C s H fp) pl σ' H' s' → H' D = none → s'.heap.get? D = some (lobj its k) → Inv (compCx X sc N' C s H fp) (pl ++ [(D, lobj its k)]) σ' H' s' :=
    fun {σ' H' s' its k pl} J hn e => J.pins_of fun p hp => by
      rcases List.mem_append.mp hp with z | z
      · exact J.pin p (List.mem_append_right _ z)
      · have z : p = (D, lobj its k) := by simpa using z
        subst z
        exact ⟨e, hn, hDC, nfs D hDle, fun v z => by cases z⟩
  have stat : ∀ {H' : Hp} {its : List Value} {k : Nat}, (∀ b ∈ fp, H' b = none) → ∀ b ∈ fp, FpOk (compCx X sc N' C s H fp) (pins ++ [(D, lobj its k)]) H' b := fun {H' its k} hn b hb => by
    obtain ⟨f0, f1, f2, f3, f4, f5⟩ := f b hb
    refine ⟨hn b hb, ?_, fun hz => ?_, .inl hb, fun x c e => f4 x c (sub x c e), fun p hp => ?_⟩
    · exact (ok'.exf b hb).1
    · exact ok'.exfs b hb hz
    · rcases List.mem_append.mp hp with z | z
      · exact f5 p (List.mem_append_left _ z)
      · rcases List.mem_append.mp z with z | z
        · exact f5 p (List.mem_append_right _ z)
        · have z : p = (D, lobj its k) := by simpa using z
          subst z
          exact fun q => fpD b hb q.symm
  obtain ⟨W, ⟨m0, w0⟩, turn⟩ := q
  have loop : ∀ tk, codeAny (model X.prog X.w) X.A (.compLoop (.ListComp elt [⟨tg, iter, ifs, 0⟩] sc pos) 0 (.ref it) (.ref D) (compEnvC sc (cloOf X.env.cells sc.names) C X.env)) (RR (.ref D) C) { s with heap := h₁, toks := tk } := by
    intro tk
    refine compLoop_any (fun n s' => ∃ i σ' H' ys its k, Inv (compCx X sc N' C s H fp) (pins ++ [(D, lobj its k)]) σ' H' s' ∧ tn i s'.heap ∧ (∀ b ∈ fp, H' b = none) ∧ Vals ys its ∧ W i n σ' H' ys) ?_ m0
      ⟨0, pick σ ix, H, [], [], 0, pinD (I0 tk) (I.hok.fresh hDle) hD0, T.keep _ _ _ st fun b hb o e => old b o e, fun b hb => (f b hb).1, .nil, w0⟩
    rintro n s3 ⟨i, σ3, H3, ys, its, k, I3, st3, fr3, rv, w3⟩
    have pD : ∀ {σ' : St} {H' : Hp} {s' : Shared} {pl : List (Addr × Obj)}, Inv (compCx X sc N' C s H fp) (pins ++ [(D, lobj its k)] ++ pl) σ' H' s' → s'.heap.get? D = some (lobj its k) ∧ H' D = none := fun J => by
      obtain ⟨a, b, _⟩ := J.pin (D, lobj its k) (by simp)
      exact ⟨a, b⟩
    rcases turn i n σ3 H3 ys w3 with ⟨stop, hz, qn⟩ | ⟨go, hz, step⟩
    · refine thn (T.done (compCx X sc N' C s H fp) rfl rfl rfl hc i _ s3 σ3 H3 NoE I3 (stat fr3) st3 stop) fun r s4 ⟨hr, I4⟩ => ?_
      subst hr
      obtain ⟨e4, n4⟩ := pD (pl := []) (by simpa using I4)
      have I4' : Inv (compCx X sc N' C s H fp) pins σ3 H3 s4 := I4.unpinned
      have I5 : Inv (compCx X sc N' C s H fp) pins σ3 (upd H3 D (.lst ys)) s4 := I4'.track n4 (.inr hDle) hDC (fun x c e => ltne (clt x c e) hDle) (fun p hp => ltne (plt p hp) hDle) ⟨hz, its, k, rv, e4⟩
      obtain ⟨m, hn, _⟩ := I5.loc
      refine hRR D C s4 (upd H3 D (.lst ys)) m ?_ (qn D _ (.upd n4)) hn I5.free hCle
      exact I.call' I5.os I5.base I5.hok I5.bare fun b hb => by
        obtain ⟨f0, f1, f2, f3, f4, f5⟩ := f b hb
        exact ⟨f3, f1, f4, f5⟩
    · refine thn (T.item (compCx X sc N' C s H fp) rfl rfl rfl hc i _ s3 σ3 H3 NoE I3 (stat fr3) st3 go) fun r s4 ⟨u, hr, h4⟩ => ?_
      subst hr
      refine thn h4 fun _ s5 ⟨x, H5, I5, r5, y5, st5, fr5⟩ => ?_
      have I5' := I5.pinned (stat fr5) (T.obj _ _ st5)
      refine thn (hg C s H fp _ s5 σ3 H5 x u _ I5' r5 (step x H5 y5)) fun _ s6 ⟨σ6, H6, I6, q6⟩ => ?_
      refine thn (ht C s H fp _ s6 σ6 H6 _ I6 q6) fun b s7 ⟨H7, I7, q7⟩ => ?_
      have keeps : ∀ {σ8 : St} {H8 : Hp} {s8 : Shared}, Inv (compCx X sc N' C s H fp) (pins ++ [(D, lobj its k)] ++ pinsAt fp s5.heap) σ8 H8 s8 → (∀ b ∈ fp, ∀ o, s5.heap.get? b = some o → s8.heap.get? b = some o) ∧ ∀ b ∈ fp, H8 b = none := fun {σ8 H8 s8} J => by
        refine ⟨fun b hb o e => (J.pin (b, o) (List.mem_append_right _ (List.mem_append_right _ (mem_pinsAt hb e)))).1, fun b hb => ?_⟩
        obtain ⟨o, e, d⟩ := T.obj _ _ st5 b hb
        exact (J.pin (b, o) (List.mem_append_right _ (List.mem_append_right _ (mem_pinsAt hb e)))).2.1
      cases b with
      | false =>
        rw [if_neg Bool.false_ne_true] at q7
        rw [if_neg Bool.false_ne_true]
        obtain ⟨m', hm, w7⟩ := q7
        obtain ⟨k1, k2⟩ := keeps I7
        exact ⟨m', hm, i + 1, σ6, H7, ys, its, k, I7.unpinned, T.keep _ _ _ st5 k1, k2, rv, w7⟩
      | true =>
        rw [if_pos rfl] at q7
        rw [if_pos rfl]
        refine thn (he C s H fp _ s7 σ6 H7 _ I7 q7) fun u8 s8 ⟨v8, H8, I8, r8, q8⟩ => ?_
        obtain ⟨m', hm, w8⟩ := q8
        obtain ⟨k1, k2⟩ := keeps I8
        obtain ⟨e8, n8⟩ := pD I8
        have hl := rv.length
        refine wpAny_list_append_plain (items := its.toArray) ⟨k, e8⟩ (fun h9 hl9 hs9 => ?_) (by simp only [List.size_toArray]; omega)
        obtain ⟨k9, e9⟩ := hl9
        have I8' : Inv (compCx X sc N' C s H fp) pins σ6 H8 s8 := I8.unpinned.unpinned
        have I9 : Inv (compCx X sc N' C s H fp) pins σ6 H8 { s8 with heap := h9, toks := s8.toks } := I8'.turned (it := D) (fun b o hb e => (hs9.2 b hb).trans e) n8 hDC (.inr hDle) (fun x c e => ltne (clt x c e) hDle) (fun p hp => ltne (plt p hp) hDle)
        refine ⟨m', hm, i + 1, σ6, H8, ys ++ [v8], its ++ [u8], k9, pinD I9 n8 (by simpa using e9), ?_, k2, rv.append (.cons r8 .nil), w8⟩
        refine T.keep _ _ _ (T.keep _ _ _ st5 k1) fun b hb o e => ?_
        exact (hs9.2 b (fpD b hb)).trans e
  exact codeAny_compStart_list (loop _) (T.self _ 0 _ _ _ (T.keep _ _ _ st fun b hb o e => old b o e) (loop _))

/-- [elt for tg in iter if ..] -/
theorem pe_lc {wi : TI} (hc : X.calm = true) (S : compOk X.env.scope sc X.N N' ix = true) (hi : PI X tg iter wi)
    (hg : ∀ C s H fp, PG (compCx X sc N' C s H fp) tg g) (ht : ∀ C s H fp, PTs (compCx X sc N' C s H fp) ifs tc) (he : ∀ C s H fp, PE (compCx X sc N' C s H fp) elt te)
    (hs : ∀ x, foldedSetIterable iter X.env x = pure x := by intro _; rfl) : PE X (.ListComp elt [⟨tg, iter, ifs, 0⟩] sc pos) (tLC ix wi g tc te) := by
  intro pins s σ H Q I h
  have S := compSc_of S
  have has : ∀ y ∈ sc.names, y.2 = .free → ∃ c, X.env.cells.lookup y.1 = some c := fun y hy e => I.ok.has y.1 (.inl (S.fre y hy e))
  rw [eval_ListComp]
  refine wpAny_comprehension_free (use := none) rfl hs (closureFor_of has) S.kind S.loc (thn (hi pins s σ H _ I h) fun v s1 h1 => thn h1 fun itv s2 h2 => ?_)
  obtain ⟨it, fp, tn, J, H2, e, I2, T, st2, f2, q⟩ := h2
  subst e
  refine comp_block (RR := fun acc C => compPost (model X.prog X.w) X.A X.xe none (EP X pins σ Q) acc C) hc S hg ht he I2 T st2 f2 q fun D C s' H' m I' q' hn hC hCl => ?_
  refine ⟨m, hn, fun h' hsb => ?_⟩
  have I'' : Inv X pins σ H' { s' with heap := h', toks := s'.toks } := I'.turned (it := C) (fun b o hb e => (hsb.2 b hb).trans e) hC (Nat.ne_of_gt (Nat.lt_of_lt_of_le I2.lt hCl)) (.inr (Nat.le_trans I2.sz hCl))
    (fun x c e => by obtain ⟨v, z'⟩ := I2.cell x c e; exact ltne z'.lt hCl) (fun p hp => ltne (Heap.lt_size (I2.pin p hp).1) hCl)
  exact ⟨.ref D, H', I'', rfl, q'⟩

/-- name = [elt for ..], the name a plain local one: the store comes ahead of the block's end -/
theorem ps_lc {wi : TI} {i : Nat} {y : Str} {py spos : Pos} (hc : X.calm = true) (S : compOk X.env.scope sc X.N N' ix = true) (hN : X.N.Nodup) (hy : X.N[i]? = some y) (hl : X.env.scope.names.lookup y = some .local) (hi : PI X tg iter wi)
    (hg : ∀ C s H fp, PG (compCx X sc N' C s H fp) tg g) (ht : ∀ C s H fp, PTs (compCx X sc N' C s H fp) ifs tc) (he : ∀ C s H fp, PE (compCx X sc N' C s H fp) elt te)
    (hsw : swapsWith (.ListComp elt [⟨tg, iter, ifs, 0⟩] sc pos) (some (.Name y py)) spos.line X.env = pure true := by rfl)
    (hs : ∀ x, foldedSetIterable iter X.env x = pure x := by intro _; rfl) : PS X (.Assign [.Name y py] (.ListComp elt [⟨tg, iter, ifs, 0⟩] sc pos) spos) (tAsg (tLC ix wi g tc te) (gName i)) := by
  intro pins s σ H D I h
  have S := compSc_of S
  have has : ∀ y ∈ sc.names, y.2 = .free → ∃ c, X.env.cells.lookup y.1 = some c := fun y hy e => I.ok.has y.1 (.inl (S.fre y hy e))
  rw [exec_Assign_Name_used _ _ _ _ hsw]
  refine wpAny_bind (wpAny_standAt (wpAny_bind ?_))
  show wpAny _ X.A (do let _ ← comprehension (.ListComp elt [⟨tg, iter, ifs, 0⟩] sc pos) sc X.env _ (newList []) false (eval iter X.env) (some (assign (.Name y py) X.env))) _ _ s
  refine wpAny_bind (wpAny_mono (wpAny_comprehension_free (use := some (assign (.Name y py) X.env)) (Q := fun _ s' => SP X pins D .next s') rfl hs (closureFor_of has) S.kind S.loc
    (thn (hi pins s σ H _ I h) fun v s1 h1 => thn h1 fun itv s2 h2 => ?_)) (fun _ s' hq => wpAny_pure (wpAny_pure hq)) fun _ _ e => e)
  obtain ⟨it, fp, tn, J, H2, e, I2, T, st2, f2, q⟩ := h2
  subst e
  refine comp_block (RR := fun acc C => compPost (model X.prog X.w) X.A X.xe (some (assign (.Name y py) X.env)) (fun _ s' => SP X pins D .next s') acc C) hc S hg ht he I2 T st2 f2 q fun D' C s' H' m I' q' hn hC hCl => ?_
  show wpAny _ X.A (assign (.Name y py) X.env (.ref D')) _ _ _
  refine wpAny_assign_Name (store_ok2 I' hN hy (.inl hl) (show RelV (.ref D') (.ref D') from rfl) (fun s2 I2' ⟨a, hsa, ha⟩ => ?_) (.inr hl))
  have haC : C ≠ a := by
    rcases ha with z | z
    · rw [z]; exact Nat.ne_of_gt (Nat.lt_of_lt_of_le I2.lt hCl)
    · intro z'
      obtain ⟨v, z2⟩ := I2.cell y a z
      exact ltne z2.lt hCl z'.symm
  refine ⟨m, hn.sameBut hsa haC, fun h' hsb => ?_⟩
  have I'' : Inv X pins (σ.set i (some (.ref D'))) H' { s2 with heap := h', toks := s2.toks } := I2'.turned (it := C) (fun b o hb e => (hsb.2 b hb).trans e) hC (Nat.ne_of_gt (Nat.lt_of_lt_of_le I2.lt hCl)) (.inr (Nat.le_trans I2.sz hCl))
    (fun x c e => by obtain ⟨v, z'⟩ := I2.cell x c e; exact ltne z'.lt hCl) (fun p hp => ltne (Heap.lt_size (I2.pin p hp).1) hCl)
  exact ⟨_, H', I'', q'⟩
end
end L2

set_option Elab.async false
set_option linter.all false
set_option maxRecDepth 100000
set_option maxHeartbeats 4000000
namespace L2
open PySem PySem.Spec PyProof.Rows

section
variable {X : Cx} {a b e o : Expr} {ta tb te to : TE} {pos : Pos}

/-! ### items, lengths, copies, slices -/
def rIxQ : R2 := fun x y H Q => ∃ p xs i v, x = .ref p ∧ y = .int i ∧ Sq H p xs ∧ atI xs i = some v ∧ Q v H
theorem ix_q : IxR X rIxQ := (ix_list.or ix_tup).imp fun x y H Q ⟨p, xs, i, v, h1, h2, h3, h4, h5⟩ => by
  rcases h3 with h3 | h3
  · exact .inl ⟨p, xs, i, v, h1, h2, .inl h3, h4, h5⟩
  · exact .inr ⟨p, xs, i, v, h1, h2, .inl h3, h4, h5⟩
def rLenQ : List V → Hp → VK → Prop := fun xs H Q => ∃ p ys, xs = [.ref p] ∧ Sq H p ys ∧ Q (.int ys.length) H
theorem len_q : CallR X (.builtin "len") rLenQ := call_len_seq.imp fun xs H Q ⟨p, ys, h1, h2, h3⟩ => ⟨p, ys, h1, h2.imp .inl .inl, h3⟩
def rListQ : List V → Hp → VK → Prop := fun xs H Q => ∃ p ys, xs = [.ref p] ∧ Sq H p ys ∧ ∀ l H2, New H l (.lst ys) H2 → Q (.ref l) H2
theorem list_q : CallR X (.type "list") rListQ := call_list_of.imp fun xs H Q ⟨p, ys, h1, h2, h3⟩ => ⟨p, ys, h1, h2.imp .inl .inl, fun l hl => h3 l _ (.upd hl)⟩
def rSlQ : V → Option Int → Option Int → Hp → VK → Prop := fun x lo hi H Q => ∃ a xs, x = .ref a ∧ Rd H a (.lst xs) ∧ ∀ p H2, New H p (.lst (cutV xs lo hi)) H2 → Q (.ref p) H2
theorem SlR.imp {r r' : V → Option Int → Option Int → Hp → VK → Prop} (h : SlR X r) (i : ∀ x lo hi H Q, r' x lo hi H Q → r x lo hi H Q) : SlR X r' := fun pins s σ H x v vl vu lo hi sl Q I rx hs pl pu q => h pins s σ H x v vl vu lo hi sl Q I rx hs pl pu (i x lo hi H Q q)
theorem sl_q : SlR X rSlQ := sl_list.imp fun x lo hi H Q ⟨a, xs, h1, h2, h3⟩ => ⟨a, xs, h1, .inl h2, fun p hp => h3 p _ (.upd hp)⟩

/-! ### displays, lists put together -/
def tTupN (t : TA) : TE := fun σ H Q => t σ H fun xs H1 => xs.length ≤ sizeLine ∧ ∀ p H2, New H1 p (.tup xs) H2 → Q (.ref p) H2
def tLstN (t : TA) : TE := fun σ H Q => t σ H fun xs H1 => xs.length ≤ sizeLine ∧ ∀ p H2, New H1 p (.lst xs) H2 → Q (.ref p) H2
variable {es : List Expr} {t : TA}
/-- an argument list's reading is monotone in its end -/
def MonA (t : TA) : Prop := ∀ σ H (Q Q' : List V → Hp → Prop), (∀ vs H1, Q vs H1 → Q' vs H1) → t σ H Q → t σ H Q'
theorem pe_tupN {x1} (h : PA X es t) : PE X (.Tuple es x1 pos) (tTupN t) := by
  intro pins s σ H Q I hq
  refine wpAny_Tuple_spliced (thn (h pos pins s σ H _ I hq) fun us s1 ⟨xs, H1, I1, r, z, q⟩ => ⟨by rw [← r.length]; exact z, ?_⟩)
  have hf : H1 s1.heap.objs.size = none := I1.hok.fresh (Nat.le_refl _)
  refine ⟨.ref s1.heap.objs.size, L2.upd H1 s1.heap.objs.size (.tup xs), I1.laid (t' := s1.toks) (fun b u e => Heap.get?_push_of_some _ e) (Nat.le_refl _) ?_, rfl, q _ _ (.upd hf)⟩
  exact ⟨z, us, r, ⟨_, Heap.get?_push_size _ rfl, rfl, _, rfl⟩⟩
theorem pe_lstN (h : PA X es t) : PE X (.List es pos) (tLstN t) := by
  intro pins s σ H Q I hq
  refine wpAny_List_spliced (thn (h pos pins s σ H _ I hq) fun us s1 ⟨xs, H1, I1, r, z, q⟩ => ⟨by rw [← r.length]; exact z, ?_⟩)
  have hf : H1 s1.heap.objs.size = none := I1.hok.fresh (Nat.le_refl _)
  refine ⟨.ref s1.heap.objs.size, L2.upd H1 s1.heap.objs.size (.lst xs), I1.laid (t' := s1.toks) (fun b u e => Heap.get?_push_of_some _ e) (Nat.le_refl _) ?_, rfl, q _ _ (.upd hf)⟩
  exact ⟨z, us, 0, r, Heap.get?_push_size _ rfl⟩
def rCatN : R2 := fun x y H Q => ∃ l b xs zs, x = .ref l ∧ y = .ref b ∧ H l = some (.lst xs) ∧ H b = some (.lst zs) ∧ xs.length + zs.length ≤ sizeLine ∧ ∀ p H2, New H p (.lst (xs ++ zs)) H2 → Q (.ref p) H2
theorem cat_q : OpR X (binaryOp .Add) rCatN := op_cat.imp fun x y H Q ⟨l, b, xs, zs, h1, h2, h3, h4, h5, h6⟩ => ⟨l, b, xs, zs, h1, h2, h3, h4, h5, fun p hp => h6 p _ (.upd hp)⟩

variable {tg elt iter : Expr} {ifs : List Expr} {sc : Scope} {N' : List Str} {ix : List (Option Nat)} {g : TG} {tc : TT} {wi : TI}
/-! ### what a loop walks -/
/-- the list at a -/
def ItQ (a : Addr) : It := ⟨fun i H => ∃ xs x, Rd H a (.lst xs) ∧ xs[i]? = some x, fun i H x H' => H' = H ∧ ∀ xs, Rd H a (.lst xs) → xs[i]? = some x, fun i H => ∃ xs, Rd H a (.lst xs) ∧ xs.length ≤ i⟩
/-- .. with the places -/
def ItE (a : Addr) : It := ⟨fun i H => ∃ xs x, Rd H a (.lst xs) ∧ xs[i]? = some x, fun i H x H' => ∃ p v, x = .ref p ∧ (∀ xs, Rd H a (.lst xs) → xs[i]? = some v) ∧ New H p (.tup [.int i, v]) H', fun i H => ∃ xs, Rd H a (.lst xs) ∧ xs.length ≤ i⟩
theorem turn_listQ {P : Program} {w : World} {K : PySem.W.Frag} (a it : Addr) : Turn P w K tg (ItQ a) [it] it (fun i h => h.IsListIter it a i) :=
  let T := turn_list (P := P) (w := w) (K := K) (tg := tg) a it
  ⟨T.mem, T.obj, T.keep, fun X hP hw hK hc i pins s σ H E I hf st hg => by
      obtain ⟨xs, x, h1, h2⟩ := hg
      refine thn (T.item X hP hw hK hc i pins s σ H E I hf st ⟨xs, x, .inl h1, h2⟩) fun r s1 ⟨u, hr, h4⟩ => ⟨u, hr, thn h4 fun _ s2 ⟨y, H', I', ry, ⟨e, yy⟩, st', fr⟩ => ⟨y, H', I', ry, ⟨e, fun zs hz => yy zs (.inl hz)⟩, st', fr⟩⟩,
    fun X hP hw hK hc i pins s σ H E I hf st hg => by
      obtain ⟨xs, h1, h2⟩ := hg
      exact T.done X hP hw hK hc i pins s σ H E I hf st ⟨xs, .inl h1, h2⟩, T.self⟩
def iListQ (tl : TE) : TI := fun σ H R => tl σ H fun x H1 => ∃ a xs, x = .ref a ∧ Rd H1 a (.lst xs) ∧ R (ItQ a) H1
theorem pi_listQ {l : Expr} {tl : TE} (hl : PE X l tl) : PI X tg l (iListQ tl) := by
  intro pins s σ H R I h
  refine thn (hl pins s σ H _ I h) fun v s1 ⟨x, H1, I1, r1, q1⟩ => ?_
  obtain ⟨a, xs, e, hq, q⟩ := q1
  subst e
  cases r1
  obtain ⟨its, rv, p, hz⟩ := I1.list (.inl hq)
  refine wpAny_pyIter_list p.isList ?_
  refine ⟨s1.heap.objs.size, [s1.heap.objs.size], _, _, H1, rfl, I1.kept (t' := s1.toks) fun b o e => Heap.get?_push_of_some _ e, turn_listQ a _, ⟨_, Heap.get?_push_size _ rfl, rfl, rfl⟩, fun b hb => ?_, q⟩
  have e : b = s1.heap.objs.size := by simpa using hb
  subst e
  exact I1.fpOk (Nat.le_refl _) (I1.hok.fresh (Nat.le_refl _))

/-- (a, b, ..) = a tuple that is tracked -/
def gTupQ (n : Nat) (t : TGs) : TG := fun v σ H Q => ∃ a xs, v = .ref a ∧ Rd H a (.tup xs) ∧ xs.length = n ∧ t xs σ H Q
theorem PG.imp {g g' : TG} (h : PG X tg g) (i : ∀ v σ H Q, g' v σ H Q → g v σ H Q) : PG X tg g' := fun pins s σ H v u Q I r q => h pins s σ H v u Q I r (i v σ H Q q)
theorem pg_tupQ {ts : List Expr} {k : Nat} {t : TGs} {n : Nat} (hc : X.calm = true) (h : PGs X ts t)
    (hn : (assignEach ts X.env).length = n := by rfl) (hst : (assignEach ts X.env).findIdx? (·.1) = none := by rfl) : PG X (.Tuple ts k pos) (gTupQ n t) :=
  (pg_tup hc h hn hst).imp fun v σ H Q ⟨a, xs, h1, h2, h3, h4⟩ => ⟨a, xs, h1, .inl h2, h3, h4⟩
end

/-! ### the loops one writes -/
/-- over a list that stays as it is -/
theorem for_listQ {a : Addr} {xs : List V} {g : TG} {tb : TS} {D : Ends} {σ : St} {H : Hp} (Pv : Nat → St → Hp → Prop) (h0 : Pv 0 σ H) (hl : ∀ i σ H, i ≤ xs.length → Pv i σ H → Rd H a (.lst xs))
    (hs : ∀ i x σ H, xs[i]? = some x → Pv i σ H → g x σ H fun σ2 H2 => tb { D with nx := Pv (i + 1), ct := Pv (i + 1), bk := D.nx } σ2 H2) (hd : ∀ σ H, Pv xs.length σ H → D.nx σ H) :
    ∃ W : Nat → Nat → St → Hp → Prop, (∃ m, W 0 m σ H) ∧ ∀ i m σ H, W i m σ H →
      ((ItQ a).stop i H ∧ D.nx σ H) ∨ ((ItQ a).go i H ∧ ∃ N : St → Hp → Prop, (∀ σ' H', N σ' H' → ∃ m', m' < m ∧ W (i + 1) m' σ' H') ∧ ∀ x H', (ItQ a).yld i H x H' → g x σ H' fun σ2 H2 => tb { D with nx := N, ct := N, bk := D.nx } σ2 H2) := by
  refine ⟨fun i m σ H => m = xs.length - i ∧ i ≤ xs.length ∧ Pv i σ H, ⟨xs.length, by simp, Nat.zero_le _, h0⟩, ?_⟩
  rintro i m σ H ⟨rfl, hi, p⟩
  have q := hl i σ H hi p
  by_cases hlt : i < xs.length
  · refine .inr ⟨⟨xs, xs[i], q, by simp [hlt]⟩, Pv (i + 1), fun σ' H' p' => ⟨xs.length - (i + 1), by omega, rfl, hlt, p'⟩, fun x H' y => ?_⟩
    obtain ⟨e, y⟩ := y
    subst e
    exact hs i x σ _ (y xs q) p
  · have e : i = xs.length := by omega
    subst e
    exact .inl ⟨⟨xs, q, Nat.le_refl _⟩, hd σ H p⟩
theorem for_listE {a : Addr} {xs : List V} {g : TG} {tb : TS} {D : Ends} {σ : St} {H : Hp} (Pv : Nat → St → Hp → Prop) (h0 : Pv 0 σ H) (hl : ∀ i σ H, i ≤ xs.length → Pv i σ H → Rd H a (.lst xs))
    (hs : ∀ i x σ H p H', xs[i]? = some x → Pv i σ H → New H p (.tup [.int i, x]) H' → g (.ref p) σ H' fun σ2 H2 => tb { D with nx := Pv (i + 1), ct := Pv (i + 1), bk := D.nx } σ2 H2) (hd : ∀ σ H, Pv xs.length σ H → D.nx σ H) :
    ∃ W : Nat → Nat → St → Hp → Prop, (∃ m, W 0 m σ H) ∧ ∀ i m σ H, W i m σ H →
      ((ItE a).stop i H ∧ D.nx σ H) ∨ ((ItE a).go i H ∧ ∃ N : St → Hp → Prop, (∀ σ' H', N σ' H' → ∃ m', m' < m ∧ W (i + 1) m' σ' H') ∧ ∀ x H', (ItE a).yld i H x H' → g x σ H' fun σ2 H2 => tb { D with nx := N, ct := N, bk := D.nx } σ2 H2) := by
  refine ⟨fun i m σ H => m = xs.length - i ∧ i ≤ xs.length ∧ Pv i σ H, ⟨xs.length, by simp, Nat.zero_le _, h0⟩, ?_⟩
  rintro i m σ H ⟨rfl, hi, p⟩
  have q := hl i σ H hi p
  by_cases hlt : i < xs.length
  · refine .inr ⟨⟨xs, xs[i], q, by simp [hlt]⟩, Pv (i + 1), fun σ' H' p' => ⟨xs.length - (i + 1), by omega, rfl, hlt, p'⟩, fun x H' y => ?_⟩
    obtain ⟨pa, v, e, y, nw⟩ := y
    subst e
    exact hs i v σ H pa H' (y xs q) p nw
  · have e : i = xs.length := by omega
    subst e
    exact .inl ⟨⟨xs, q, Nat.le_refl _⟩, hd σ H p⟩
/-- a comprehension over a list, over a range: Pv by the turn, the slots, the heap, the list so far -/
theorem lc_list {a : Addr} {xs : List V} {g : TG} {tc : TT} {te : TE} {σ0 : St} {H : Hp} {Q : VK} (Pv : Nat → St → Hp → List V → Prop) (h0 : Pv 0 σ0 H []) (hl : ∀ i σ H ys, i ≤ xs.length → Pv i σ H ys → Rd H a (.lst xs) ∧ ys.length ≤ i) (hz : xs.length ≤ sizeLine)
    (hs : ∀ i x σ H ys (N : St → Hp → List V → Prop), (∀ σ H ys, Pv (i + 1) σ H ys → N σ H ys) → xs[i]? = some x → Pv i σ H ys → g x σ H fun σ2 H2 => tc σ2 H2 fun b H3 => if b = true then te σ2 H3 fun v H4 => N σ2 H4 (ys ++ [v]) else N σ2 H3 ys)
    (hd : ∀ σ H ys, Pv xs.length σ H ys → ∀ D H2, New H D (.lst ys) H2 → Q (.ref D) H2) :
    ∃ W : Nat → Nat → St → Hp → List V → Prop, (∃ m, W 0 m σ0 H []) ∧ ∀ i m σ H ys, W i m σ H ys →
      ((ItQ a).stop i H ∧ ys.length ≤ sizeLine ∧ ∀ D H2, New H D (.lst ys) H2 → Q (.ref D) H2) ∨
      ((ItQ a).go i H ∧ ys.length < sizeLine ∧ ∀ x H', (ItQ a).yld i H x H' → g x σ H' fun σ2 H2 => tc σ2 H2 fun b H3 => if b = true then te σ2 H3 fun v H4 => ∃ m', m' < m ∧ W (i + 1) m' σ2 H4 (ys ++ [v]) else ∃ m', m' < m ∧ W (i + 1) m' σ2 H3 ys) := by
  refine ⟨fun i m σ H ys => m = xs.length - i ∧ i ≤ xs.length ∧ Pv i σ H ys, ⟨xs.length, by simp, Nat.zero_le _, h0⟩, ?_⟩
  rintro i m σ H ys ⟨rfl, hi, p⟩
  obtain ⟨q, hy⟩ := hl i σ H ys hi p
  by_cases hlt : i < xs.length
  · refine .inr ⟨⟨xs, xs[i], q, by simp [hlt]⟩, by omega, fun x H' y => ?_⟩
    obtain ⟨e, y⟩ := y
    subst e
    exact hs i x σ _ ys (fun σ H ys => ∃ m', m' < xs.length - i ∧ (m' = xs.length - (i + 1) ∧ i + 1 ≤ xs.length ∧ Pv (i + 1) σ H ys)) (fun σ H ys q4 => ⟨xs.length - (i + 1), by omega, rfl, hlt, q4⟩) (y xs q) p
  · have e : i = xs.length := by omega
    subst e
    exact .inl ⟨⟨xs, q, Nat.le_refl _⟩, by omega, hd σ H ys p⟩
theorem lc_range {lo : Int} {n : Nat} {g : TG} {tc : TT} {te : TE} {σ0 : St} {H : Hp} {Q : VK} (Pv : Nat → St → Hp → List V → Prop) (h0 : Pv 0 σ0 H []) (hl : ∀ i σ H ys, i ≤ n → Pv i σ H ys → ys.length ≤ i) (hz : n ≤ sizeLine)
    (hs : ∀ i σ H ys (N : St → Hp → List V → Prop), (∀ σ H ys, Pv (i + 1) σ H ys → N σ H ys) → i < n → Pv i σ H ys → g (.int (lo + i)) σ H fun σ2 H2 => tc σ2 H2 fun b H3 => if b = true then te σ2 H3 fun v H4 => N σ2 H4 (ys ++ [v]) else N σ2 H3 ys)
    (hd : ∀ σ H ys, Pv n σ H ys → ∀ D H2, New H D (.lst ys) H2 → Q (.ref D) H2) :
    ∃ W : Nat → Nat → St → Hp → List V → Prop, (∃ m, W 0 m σ0 H []) ∧ ∀ i m σ H ys, W i m σ H ys →
      ((Itr lo n).stop i H ∧ ys.length ≤ sizeLine ∧ ∀ D H2, New H D (.lst ys) H2 → Q (.ref D) H2) ∨
      ((Itr lo n).go i H ∧ ys.length < sizeLine ∧ ∀ x H', (Itr lo n).yld i H x H' → g x σ H' fun σ2 H2 => tc σ2 H2 fun b H3 => if b = true then te σ2 H3 fun v H4 => ∃ m', m' < m ∧ W (i + 1) m' σ2 H4 (ys ++ [v]) else ∃ m', m' < m ∧ W (i + 1) m' σ2 H3 ys) := by
  refine ⟨fun i m σ H ys => m = n - i ∧ i ≤ n ∧ Pv i σ H ys, ⟨n, by simp, Nat.zero_le _, h0⟩, ?_⟩
  rintro i m σ H ys ⟨rfl, hi, p⟩
  have hy := hl i σ H ys hi p
  by_cases hlt : i < n
  · refine .inr ⟨hlt, by omega, fun x H' y => ?_⟩
    obtain ⟨e, y⟩ := y
    subst e y
    exact hs i σ _ ys (fun σ H ys => ∃ m', m' < n - i ∧ (m' = n - (i + 1) ∧ i + 1 ≤ n ∧ Pv (i + 1) σ H ys)) (fun σ H ys q4 => ⟨n - (i + 1), by omega, rfl, hlt, q4⟩) hlt p
  · have e : i = n := by omega
    subst e
    exact .inl ⟨Nat.le_refl _, by omega, hd σ H ys p⟩
end L2

set_option Elab.async false
set_option linter.all false
set_option maxRecDepth 100000
set_option maxHeartbeats 4000000
namespace L2
open PySem PySem.Spec PyProof.Rows

theorem bt_len : bootBuiltins "len" = some (.builtin "len") := by decide +kernel
theorem bt_list : bootBuiltins "list" = some (.type "list") := by decide +kernel
theorem bt_int : bootBuiltins "int" = some (.type "int") := by decide +kernel
theorem bt_bool : bootBuiltins "bool" = some (.type "bool") := by decide +kernel
theorem bt_tuple : bootBuiltins "tuple" = some (.type "tuple") := by decide +kernel
theorem bt_str : bootBuiltins "str" = some (.type "str") := by decide +kernel
theorem bt_sum : bootBuiltins "sum" = some (.builtin "sum") := by decide +kernel
theorem bt_sorted : bootBuiltins "sorted" = some (.builtin "sorted") := by decide +kernel
theorem bt_max : bootBuiltins "max" = some (.builtin "max") := by decide +kernel
theorem bt_min : bootBuiltins "min" = some (.builtin "min") := by decide +kernel
theorem bt_isinstance : bootBuiltins "isinstance" = some (.builtin "isinstance") := by decide +kernel
theorem bt_enumerate : bootBuiltins "enumerate" = some (.type "enumerate") := by decide +kernel
theorem bt_set : bootBuiltins "set" = some (.type "set") := by decide +kernel
theorem bt_ValueError : bootBuiltins "ValueError" = some (.type "ValueError") := by decide +kernel




/-! ### enumerate -/
theorem turn_enum {P : Program} {w : World} {K : PySem.W.Frag} {ts : List Expr} {k : Nat} {tp : Pos} (a it e : Addr) (hne : e ≠ it) :
    Turn P w K (.Tuple ts k tp) (ItE a) [e, it] e (fun i h => (∃ old, IsEnum h e it ((i : Nat) : Int) old) ∧ h.IsListIter it a i) where
  mem := by simp
  obj := fun i h st b hb => by
    obtain ⟨⟨old, h1⟩, o, h2, c, d⟩ := st
    rcases List.mem_cons.mp hb with rfl | hb
    · exact ⟨_, h1, fun v z => by cases z⟩
    · have e' : b = it := by simpa using hb
      subst e'
      exact ⟨o, h2, fun v z => by rw [d] at z; cases z⟩
  keep := fun i h h' st kk => by
    obtain ⟨⟨old, h1⟩, h2⟩ := st
    exact ⟨⟨old, kk e (by simp) _ h1⟩, h2.at fun o q => kk it (by simp) o q⟩
  item := by
    intro X hP hw hK hc i pins s σ H E I hf st hg
    subst hP hw hK
    obtain ⟨xs, x, hq, hx⟩ := hg
    obtain ⟨its, rv, p, hz⟩ := I.list (.inl hq)
    obtain ⟨u, hu, ru⟩ := rv.get hx
    obtain ⟨⟨old, h1⟩, h2⟩ := st
    obtain ⟨f0, f1, f2, f3, f4, f5⟩ := hf e (by simp)
    obtain ⟨g0, g1, g2, g3, g4, g5⟩ := hf it (by simp)
    refine wpAny_pyNext_enum_item h1 h2 p.isList (x := u) (by simpa using hu) hne fun h' o1 l1 t1 z1 k1 => ?_
    refine ⟨_, rfl, wpAny_letOwnedTupleGo_enum o1 fun h'' e2 sb => ?_⟩
    have hlt : ∀ b o, s.heap.get? b = some o → b ≠ s.heap.objs.size := fun b o q => Nat.ne_of_lt (Heap.lt_size q)
    have hes : e < s.heap.objs.size := Heap.lt_size h1
    have t2 : h''.get? s.heap.objs.size = some { cls := .type "tuple", data := .seq #[.int i s.toks, u] } := (sb.2 _ (Nat.ne_of_gt hes)).trans t1
    have k2 : ∀ b o, b ≠ e → b ≠ it → s.heap.get? b = some o → h''.get? b = some o := fun b o q1 q2 q => (sb.2 b q1).trans (k1 b o q1 q2 q)
    -- the two records turn, then the pair is laid
    have I1 : Inv X pins σ H { s with heap := h'', toks := s.toks + 1 } := by
      refine I.step (g' := s.gens) (d' := s.drawn) (ch := [e, it]) (fun b hb => ?_) (fun b o _ _ hc' q _ => k2 b o (fun z => hc' (by simp [z])) (fun z => hc' (by simp [z])) q)
        (fun b o _ _ hc' q _ => ⟨o.slots, k2 b o (fun z => hc' (by simp [z])) (fun z => hc' (by simp [z])) q⟩) (fun _ _ _ _ n => n) (fun b o hc' q => ⟨o, k2 b o (fun z => hc' (by simp [z])) (fun z => hc' (by simp [z])) q⟩)
        (fun _ _ q => q) (fun _ _ _ q => q) (fun b ps q => ⟨#[], by rw [q]; simp⟩) (fun m hm => ?_) (fun b u' q => ?_) I.bare
      · rcases List.mem_cons.mp hb with rfl | hb
        · exact ⟨f3, f1, f4, f5⟩
        · have e' : b = it := by simpa using hb
          subst e'
          exact ⟨g3, g1, g4, g5⟩
      · obtain ⟨o, es, ep, ho, r⟩ := hm
        exact ⟨o, es, ep, k2 _ o (Ne.symm f1) (Ne.symm g1) ho, r⟩
      · have nb : ∀ c y, H c = some y → c ≠ e ∧ c ≠ it := fun c y z => ⟨(fun q' => by rw [q', f0] at z; cases z), (fun q' => by rw [q', g0] at z; cases z)⟩
        refine (I.hok b u' q).stay (fun c v hc' q' => k2 c v ?_ ?_ q') (fun _ q' => q') fun _ _ q' => q'
        · rcases hc' with z | z
          · rw [z]; exact (nb b u' q).1
          · exact (nb c _ z).1
        · rcases hc' with z | z
          · rw [z]; exact (nb b u' q).2
          · exact (nb c _ z).2
    have hn : H s.heap.objs.size = none := I.hok.fresh (Nat.le_refl _)
    have I2 : Inv X pins σ (upd H s.heap.objs.size (.tup [.int i, x])) { s with heap := h'', toks := s.toks + 1 } :=
      I1.track hn (.inr I.sz) (Nat.ne_of_gt I.lt) (fun y c q z => by obtain ⟨v, z'⟩ := I.cell y c q; exact absurd (z ▸ z'.lt) (Nat.lt_irrefl _)) (fun q hq' z => absurd (z ▸ Heap.lt_size (I.pin q hq').1) (Nat.lt_irrefl _))
        ⟨by show 2 ≤ sizeLine; decide, [.int i s.toks, u], .cons ⟨_, rfl⟩ (.cons ru .nil), ⟨_, t2, rfl, _, rfl⟩⟩
    refine ⟨.ref s.heap.objs.size, _, I2, rfl, ⟨_, x, rfl, fun ys hy => ?_, .upd hn⟩, ⟨⟨u, ?_⟩, ?_⟩, fun b hb => ?_⟩
    · rw [I.list_inj (.inl hy) (.inl hq)]; exact hx
    · have := e2
      rwa [show ((i + 1 : Nat) : Int) = (i : Int) + 1 by omega]
    · exact l1.at fun o q => (sb.2 it (Ne.symm hne)).trans q
    · have hb' : b < s.heap.objs.size := by
        rcases List.mem_cons.mp hb with rfl | hb
        · exact hes
        · have e' : b = it := by simpa using hb
          subst e'
          obtain ⟨o, q, _⟩ := h2
          exact Heap.lt_size q
      rw [upd_ne (Nat.ne_of_lt hb')]
      exact (hf b hb).1
  done := by
    intro X hP hw hK hc i pins s σ H E I hf st hg
    subst hP hw hK
    obtain ⟨xs, hq, hx⟩ := hg
    obtain ⟨its, rv, p, hz⟩ := I.list (.inl hq)
    obtain ⟨⟨old, h1⟩, h2⟩ := st
    obtain ⟨f0, f1, f2, f3, f4, f5⟩ := hf it (by simp)
    have hl := rv.length
    exact wpAny_pyNext_enum_end (I.ok.hd hc) h1 h2 p.isList (by simp; omega) fun h' eb => ⟨rfl, I.turned (t' := s.toks) (fun b o hb q => eb b o hb q) f0 f1 f3 f4 f5⟩
  self := fun _ _ _ _ _ st h => by
    obtain ⟨⟨old, h1⟩, _⟩ := st
    exact wpAny_pyIter_enum h1 h




section
variable {X : Cx} {tg : Expr} {ts : List Expr} {k : Nat} {tp : Pos}
def iEnumQ (tl : TE) : TI := fun σ H R => tl σ H fun x H1 => ∃ a xs, x = .ref a ∧ Rd H1 a (.lst xs) ∧ R (ItE a) H1
theorem pi_enumQ {l : Expr} {tl : TE} {p pos : Pos} (hg : Gl X "enumerate") (hm : X.mg "enumerate" = none) (hl : PE X l tl) (hs : starEach [l] X.env = [(false, eval l X.env)] := by rfl) :
    PI X (.Tuple ts k tp) (.Call (.Name "enumerate" p) [l] [] pos) (iEnumQ tl) := by
  intro pins s σ H R I h
  have ha : PA X [l] (tCons tl tNil) := pa_cons hl pa_nil hs
  refine Call_ (ld_blt I hg hm bt_enumerate (PyProof.Rows.callWith_type1 (thn (ha pos pins s σ H (fun vs H1 => match vs with | [x] => ∃ a xs, x = .ref a ∧ Rd H1 a (.lst xs) ∧ R (ItE a) H1 | _ => False) I h) fun us s1 ⟨vs, H1, I1, r1, q1⟩ => ?_) hs rfl))
  obtain ⟨a, xs, e, hq, q⟩ : ∃ a xs, vs = [.ref a] ∧ Rd H1 a (.lst xs) ∧ R (ItE a) H1 := by
    match vs, q1 with
    | [x], q1 => obtain ⟨a, xs, e, hq, q⟩ := q1; exact ⟨a, xs, by rw [e], hq, q⟩
  subst e
  cases r1 with
  | cons r rr =>
    cases rr
    cases (show _ = Value.ref a from r)
    obtain ⟨its, rv, pl, hz⟩ := I1.list (.inl hq)
    refine call_enumerate_list pl.isList fun h2 he hit hsz hk => ?_
    have I2 : Inv X pins σ H1 { s1 with heap := h2, toks := s1.toks } := I1.kept hk
    refine wpAny_pyIter_enum he ?_
    refine ⟨s1.heap.objs.size + 1, [s1.heap.objs.size + 1, s1.heap.objs.size], _, _, H1, rfl, I2, turn_enum a s1.heap.objs.size (s1.heap.objs.size + 1) (Nat.succ_ne_self _), ⟨⟨.none, he⟩, hit⟩, fun b hb => ?_, q⟩
    have hb' : s1.heap.objs.size ≤ b := by
      rcases List.mem_cons.mp hb with e' | hb
      · rw [e']; exact Nat.le_succ _
      · have e' : b = s1.heap.objs.size := by simpa using hb
        rw [e']; exact Nat.le_refl _
    exact I1.fpOk hb' (I1.hok.fresh hb')


end



section
variable {X : Cx} {tg : Expr} {ts : List Expr} {k : Nat} {tp : Pos}
/-! ### a def of the text, called -/
structure Callee (P : Program) (w : World) (K : PySem.W.Frag) (mg : Str → Option Value) (base : Heap) (k : Nat) (x : Str) (ps : List Str) (sp : Sp) : Prop where
  ex : ∃ f fd, FnOk P w K mg base CX0 k f fd ps sp ∧ mg x = some (.ref f) ∧ PySem.W.keepIn K (.ref f) = true ∧ Binds K fd ps []
theorem pe_callee {x : Str} {e : Expr} {es : List Expr} {t : TA} {sp : Sp} {ps : List Str} {kk : Nat} {p pos : Pos} (c : Callee X.prog X.w X.K X.mg X.base kk x ps sp) (hr : Room kk X.A) (hg : Gl X x) (ha : PA X (e :: es) t)
    (hdb : (x == ("__debug__" : Str)) = false := by decide) (he : starEach (e :: es) X.env = (false, eval e X.env) :: starEach es X.env := by rfl) (hpl : (backTo pos (starEach es X.env)).any (·.1) = false := by rfl) :
    PE X (.Call (.Name x p) (e :: es) [] pos) (tCall sp [] E0 t) := by
  obtain ⟨f, fd, F, hm, hk, hb⟩ := c.ex
  exact pe_call F hr hg hm hk hb .nil pass0 ha hdb he hpl


end



section
variable {X : Cx} {tg : Expr} {ts : List Expr} {k : Nat} {tp : Pos}
/-! ### lists that grow and shrink -/
def tAppQ (to te : TE) : TE := fun σ H Q => to σ H fun x H1 => ∃ l xs0, x = .ref l ∧ H1 l = some (.lst xs0) ∧ te σ H1 fun y H2 => ∃ xs, H2 l = some (.lst xs) ∧ xs.length < sizeLine ∧ ∀ H3, Chg H2 l (.lst (xs ++ [y])) H3 → Q .non H3
theorem pe_appQ {o e : Expr} {to te : TE} {apos cpos : Pos} (ho : PE X o to) (he : PE X e te)
    (hbase : attributeBase o "append" X.env (eval o X.env) = eval o X.env := by rfl)
    (hfew : ((backTo cpos (starEach [e] X.env)).all (fun x => !x.1) && (backToKw cpos (keywordEach [] X.env)).all (fun x => x.1.isSome)
      && decide ([e].length + ([] : List Keyword).length + (if ([] : List Keyword).isEmpty then 0 else 1) < 30)) = true := by rfl)
    (hline : (apos.endLine == cpos.line) = true := by rfl) (hs : starEach [e] X.env = [(false, eval e X.env)] := by rfl) :
    PE X (.Call (.Attribute o "append" apos) [e] [] cpos) (tAppQ to te) := by
  intro pins s σ H Q I h
  refine wpAny_Call_method_late hbase hfew hline rfl (thn (ho pins s σ H _ I h) fun v s1 ⟨x, H1, I1, r1, l, xs0, ex, hl, q1⟩ => ?_)
  subst ex
  obtain ⟨h1, h2⟩ := tyV_is (T := "list") I1 r1 (.inl ⟨rfl, xs0, SqL.of hl⟩)
  refine ⟨"list", "list.append", PySem.F.plainAttrs_list, PySem.F.slot_list_append, PySem.F.type_list_append, h1, h2, ?_⟩
  have hA := (pa_cons he pa_nil hs : PA X [e] (tCons te tNil)) cpos pins s1 σ H1 (fun vs H2 => match vs with | [y] => ∃ xs, H2 l = some (.lst xs) ∧ xs.length < sizeLine ∧ ∀ H3, Chg H2 l (.lst (xs ++ [y])) H3 → Q .non H3 | _ => False) I1 q1
  rw [hs] at hA ⊢
  refine Calls.callWith_builtin rfl (Calls.evalArgs_plain ?_)
  refine thn hA fun us s2 ⟨vs, H2, I2, r2, q2⟩ => ?_
  match vs, q2, r2 with
  | [y], ⟨xs, e1, e2, e3⟩, r2 => exact mt_append pins s2 σ H2 (.ref l) [y] v us Q I2 r1 r2 ⟨l, xs, y, rfl, rfl, e1, e2, e3 _ .upd⟩
theorem ps_appQ {o e : Expr} {to te : TE} {apos cpos pos : Pos} (ho : PE X o to) (he : PE X e te)
    (hbase : attributeBase o "append" X.env (eval o X.env) = eval o X.env := by rfl)
    (hfew : ((backTo cpos (starEach [e] X.env)).all (fun x => !x.1) && (backToKw cpos (keywordEach [] X.env)).all (fun x => x.1.isSome)
      && decide ([e].length + ([] : List Keyword).length + (if ([] : List Keyword).isEmpty then 0 else 1) < 30)) = true := by rfl)
    (hline : (apos.endLine == cpos.line) = true := by rfl) (hs : starEach [e] X.env = [(false, eval e X.env)] := by rfl) (hw : swapsWith (.Call (.Attribute o "append" apos) [e] [] cpos) none pos.line X.env = pure false := by rfl) :
    PS X (.Expr (.Call (.Attribute o "append" apos) [e] [] cpos) pos) (tDrop (tAppQ to te)) := ps_expr (pe_appQ ho he hbase hfew hline hs) hw
def tPopQ (to : TE) : TE := fun σ H Q => to σ H fun x H1 => ∃ l xs y, x = .ref l ∧ H1 l = some (.lst xs) ∧ xs[xs.length - 1]? = some y ∧ ∀ H2, Chg H1 l (.lst xs.dropLast) H2 → Q y H2
theorem pe_popQ {o : Expr} {to : TE} {apos cpos : Pos} (ho : PE X o to) (hbase : attributeBase o "pop" X.env (eval o X.env) = eval o X.env := by rfl) (hline : (apos.endLine == cpos.line) = true := by rfl) :
    PE X (.Call (.Attribute o "pop" apos) [] [] cpos) (tPopQ to) := by
  intro pins s σ H Q I h
  refine wpAny_Call_method0_late hbase hline (thn (ho pins s σ H _ I h) fun v s1 ⟨x, H1, I1, r1, l, xs, y, ex, hl, hy, q1⟩ => ?_)
  subst ex
  obtain ⟨h1, h2⟩ := tyV_is (T := "list") I1 r1 (.inl ⟨rfl, xs, SqL.of hl⟩)
  exact ⟨"list", "list.pop", PySem.F.plainAttrs_list, PySem.F.slot_list_pop, PySem.F.type_list_pop, h1, h2, Calls.callWith_builtin rfl (PySem.evalArgs_none (mt_pop pins s1 σ H1 (.ref l) [] v [] Q I1 r1 .nil ⟨l, xs, y, rfl, rfl, hl, hy, q1 _ .upd⟩))⟩


end



section
variable {X : Cx} {tg : Expr} {ts : List Expr} {k : Nat} {tp : Pos}
/-! ### dicts -/
def tDNewQ : TE := fun _ H Q => ∀ p H2, New H p (.dK []) H2 → Q (.ref p) H2
theorem pe_dnewQ {pos : Pos} : PE X (.Dict [] [] pos) tDNewQ := pe_dnewK.imp fun σ H Q h p hp => h p _ (.upd hp)
def sDPutQ (td ty tv : TE) : TS := fun D σ H => tv σ H fun v H1 => td σ H1 fun x H2 => ty σ H2 fun y H3 => ∃ (a : Addr) (kvs : List (Key × V)) (k : Key), x = .ref a ∧ H3 a = some (.dK kvs) ∧ y = kV k ∧ kvs.length < sizeLine ∧ ∀ H4, Chg H3 a (.dK (putK kvs k v)) H4 → D.nx σ H4
theorem ps_dputQ {o i value : Expr} {td ty tv : TE} {pos pos' : Pos} (hu : X.A.units + 1 < cLine) (ho : PE X o td) (hi : PE X i ty) (hv : PE X value tv) (hs : swapsWith value (some (.Subscript o i pos')) pos.line X.env = pure false) :
    PS X (.Assign [.Subscript o i pos'] value pos) (sDPutQ td ty tv) := by
  intro pins s σ H D I h
  refine wpAny_Assign_Subscript (thn (hv pins s σ H _ I h) fun r s1 ⟨v, H1, I1, rv, q1⟩ => thn (ho pins s1 σ H1 _ I1 q1) fun u s2 ⟨x, H2, I2, rx, q2⟩ => thn (hi pins s2 σ H2 _ I2 q2) fun iv s3 ⟨y, H3, I3, ry, a, kvs, k, ex, hd, ey, hl, q3⟩ => ?_) hs
  subst ex
  subst ey
  obtain rfl : u = Value.ref a := rx
  exact d_setItem hu I3 (DPut.k hd hl) ry rv fun s4 I4 => ⟨σ, _, I4, q3 _ .upd⟩
/-- {k: v} -/
def tDisp1 (tk tv : TE) : TE := fun σ H Q => ∀ p H1, New H p (.dK []) H1 → tk σ H1 fun x H2 => tv σ H2 fun v H3 => ∃ k : Key, x = kV k ∧ H3 p = some (.dK []) ∧ ∀ H4, Chg H3 p (.dK [(k, v)]) H4 → Q (.ref p) H4
theorem pe_disp1 {ke ve : Expr} {tk tv : TE} {pos : Pos} (hk : PE X ke tk) (hv : PE X ve tv) : PE X (.Dict [some ke] [ve] pos) (tDisp1 tk tv) := by
  intro pins s σ H Q I q
  have hn := I.hok.fresh (Nat.le_refl s.heap.objs.size)
  have I1 := I.laid (a := s.heap.objs.size) (o := .dK []) (h' := s.heap.push { cls := .type "dict", data := .dict #[] }) (t' := s.toks) (fun _ _ q => Heap.get?_push_of_some _ q) (Nat.le_refl _) (dk_empty s.heap I.big)
  have hp : PPs X pos [some ke] [ve] [(tk, tv)] := pps_cons hk hv pps_nil
  refine wpAny_Dict_walk (knd := mixKind X.prog X.w) rfl rfl (by simp) (by simp) (thn (hp pins _ σ _ (fun ps H2 => match ps with | [(x, v)] => ∃ k : Key, x = kV k ∧ H2 s.heap.objs.size = some (.dK []) ∧ ∀ H4, Chg H2 s.heap.objs.size (.dK [(k, v)]) H4 → Q (.ref s.heap.objs.size) H4 | _ => False) I1 (q _ _ (.upd hn))) fun ws s2 ⟨ps, H2, I2, rel, qq⟩ => ?_)
  match ps, qq, rel with
  | [(x, v)], ⟨k, ex, e, q2⟩, rel =>
    subst ex
    obtain ⟨rs, c, rk⟩ := carries_of (P := X.prog) (w := X.w) (kvs := [(k, v)]) rel
    obtain ⟨z, hd, vs0, r0, dd⟩ := dk_of I2.hok e
    cases r0
    refine ⟨rs, c, dd, fun h' dd' hs => ⟨.ref s.heap.objs.size, _, ?_, rfl, q2 _ .upd⟩⟩
    have he : ∃ q, h'.get? s.heap.objs.size = some q := let ⟨q, _, _, hq, _⟩ := dd'; ⟨q, hq⟩
    exact d_write I2 (by rw [e]; exact True.intro) hs he (dk_new (by rw [sizeLine_eq]; simp) hd (rk.merge .nil) dd')


end



section
variable {X : Cx} {tg : Expr} {ts : List Expr} {k : Nat} {tp : Pos}
/-! ### isinstance -/
/-- what is known of a value's type -/
def tIsi (K : PySem.W.Frag) (c : Value) (te : TE) : TE := fun σ H Q => te σ H fun x H1 => ∃ t b, TyOf K H1 x t ∧ PySem.W.kitOne K t c = some b ∧ Q (.bl b) H1
theorem pe_isi {e : Expr} {te : TE} {x : Str} {T : String} {p p2 pos : Pos} (hm : X.mg "isinstance" = none) (hm2 : X.mg x = none) (hv2 : bootBuiltins x = some (.type T)) (hg : Gl X "isinstance") (hg2 : Gl X x) (he : PE X e te)
    (hn2 : x ≠ "__name__" := by decide) (hd2 : (x == ("__debug__" : Str)) = false := by decide)
    (hs : starEach [e, .Name x p2] X.env = (false, eval e X.env) :: starEach [.Name x p2] X.env := by rfl) (hs2 : starEach [.Name x p2] X.env = [(false, eval (.Name x p2) X.env)] := by rfl) (hpl : (backTo pos (starEach [.Name x p2] X.env)).any (·.1) = false := by rfl) :
    PE X (.Call (.Name "isinstance" p) [e, .Name x p2] [] pos) (tIsi X.K (.type T) te) := by
  intro pins s σ H Q I h
  refine wpAny_Call_Name_kw (ld_blt I hg hm bt_isinstance ?_)
  refine PyProof.Rows.callWith_builtin1 ?_ hs hpl
  rw [hs]
  show wpAny _ _ (spliced ((false, eval e X.env) :: backTo pos (starEach [.Name x p2] X.env))) _ _ s
  refine Calls.spliced_cons (thn (he pins s σ H _ I h) fun u s1 ⟨y, H1, I1, r1, t, b, ty, k, q⟩ => ?_)
  rw [hs2]
  show wpAny _ _ (spliced ((false, eval (.Name x p2) X.env) :: backTo pos [])) _ _ s1
  refine Calls.spliced_cons (ld_blt I1 hg2 hm2 hv2 ?_ hn2 hd2)
  refine Calls.spliced_nil ?_
  exact isinst_ok I1 r1 ty k fun tk => ⟨.bl b, H1, I1.tok tk, rfl, q⟩
end




/-! ### == that holds, however deep -/
def flatT : V → Bool
  | .non => true
  | .bl _ => true
  | .int _ => true
  | .str _ => true
  | _ => false
def EqT (H : Hp) : Nat → V → V → Prop
  | 0, x, y => x = y ∧ flatT x = true
  | n + 1, x, y => (x = y ∧ flatT x = true) ∨ ∃ a b xs ys, x = .ref a ∧ y = .ref b ∧ xs.length = ys.length ∧ ((Rd H a (.tup xs) ∧ Rd H b (.tup ys)) ∨ (Rd H a (.lst xs) ∧ Rd H b (.lst ys))) ∧ ∀ (i : Nat) (x y : V), xs[i]? = some x → ys[i]? = some y → EqT H n x y
theorem EqT.flat {H : Hp} {n : Nat} {x : V} (h : flatT x = true) : EqT H n x x := by
  cases n with
  | zero => exact ⟨rfl, h⟩
  | succ n => exact Or.inl ⟨rfl, h⟩
theorem units_in1 (A : Around) : A.in1.units = A.units + 1 := rfl
section
variable {X : Cx} {pins : List (Addr × Obj)} {σ : St} {H : Hp} {s : Shared}
theorem eqT_flat {A : Around} {x : V} {u v : Value} (h : flatT x = true) (ru : RelV x u) (rv : RelV x v) : SeqAt.EqAt A s u v true := by
  cases x with
  | non => cases (show u = _ from ru); cases (show v = _ from rv); exact SeqAt.EqAt.same _
  | bl b => cases (show u = _ from ru); cases (show v = _ from rv); exact SeqAt.EqAt.same _
  | int i =>
    obtain ⟨t, rfl⟩ := (show ∃ t, u = Value.int i t from ru)
    obtain ⟨t', rfl⟩ := (show ∃ t, v = Value.int i t from rv)
    have q := SeqAt.EqAt.int_int (A := A) (s := s) i t i t'
    rwa [show (i == i) = true by simp] at q
  | str x =>
    obtain ⟨t, rfl⟩ := (show ∃ t, u = Value.str x t from ru)
    obtain ⟨t', rfl⟩ := (show ∃ t, v = Value.str x t from rv)
    have q := SeqAt.EqAt.str_str (A := A) (s := s) x t x t'
    rwa [show (x == x) = true by simp] at q
  | _ => cases h
theorem all_true (n : Nat) : (List.range n).all (fun _ => true) = true := by simp
theorem vals_nth {xs : List V} {us : List Value} (r : Vals xs us) {j : Nat} (h : j < us.toArray.size) : ∃ x, xs[j]? = some x ∧ RelV x us.toArray[j] := by
  have hl := r.length
  have hj : j < us.length := by simpa using h
  have hx : j < xs.length := by omega
  obtain ⟨u, e1, e2⟩ := r.get (List.getElem?_eq_getElem hx)
  refine ⟨xs[j], List.getElem?_eq_getElem hx, ?_⟩
  rw [List.getElem?_eq_getElem hj] at e1
  cases e1
  simpa using e2
/-- the two items' answers -/
theorem eqT_at (I : Inv X pins σ H s) : ∀ (n : Nat) (A : Around) {x y : V} {u v : Value}, A.units + n < cLine → EqT H n x y → RelV x u → RelV y v → SeqAt.EqAt A s u v true
  | 0, A, x, y, u, v, hu, h, ru, rv => by
    obtain ⟨rfl, hf⟩ := h
    exact eqT_flat hf ru rv
  | n + 1, A, x, y, u, v, hu, h, ru, rv => by
    rcases h with ⟨rfl, hf⟩ | ⟨a, b, xs, ys, rfl, rfl, hl, hh, hi⟩
    · exact eqT_flat hf ru rv
    · cases (show u = Value.ref a from ru)
      cases (show v = Value.ref b from rv)
      by_cases e : a = b
      · subst e; exact SeqAt.EqAt.same _
      · refine SeqAt.EqAt.of_refs e ?_
        rcases hh with ⟨h1, h2⟩ | ⟨h1, h2⟩
        · obtain ⟨its, r1, p1, z1⟩ := I.tuple (.inl h1)
          obtain ⟨its', r2, p2, z2⟩ := I.tuple (.inl h2)
          have q := SeqAt.RcAt.tuples (A := A) (s := s) (e := fun _ => true) (show s.heap.IsTuple a its.toArray from p1) (show s.heap.IsTuple b its'.toArray from p2) (by omega) fun j h1 h2 => by
            obtain ⟨x, ex, rx⟩ := vals_nth r1 h1
            obtain ⟨y, ey, ry⟩ := vals_nth r2 h2
            exact eqT_at I n A.in1 (by rw [units_in1]; omega) (hi j x y ex ey) rx ry
          have l1 := r1.length
          have l2 := r2.length
          rw [all_true, show (its.toArray.size == its'.toArray.size) = true by simp; omega] at q
          exact q
        · obtain ⟨its, r1, p1, z1⟩ := I.list (.inl h1)
          obtain ⟨its', r2, p2, z2⟩ := I.list (.inl h2)
          have l1 := r1.length
          have l2 := r2.length
          have q := SeqAt.RcAt.lists (A := A) (s := s) (e := fun _ => true) p1.isList p2.isList (by simp; omega) (by omega) fun j h1 h2 => by
            obtain ⟨x, ex, rx⟩ := vals_nth r1 h1
            obtain ⟨y, ey, ry⟩ := vals_nth r2 h2
            exact eqT_at I n A.in1 (by rw [units_in1]; omega) (hi j x y ex ey) rx ry
          rw [all_true] at q
          exact q
/-- two lists or tuples that are equal: ==, != -/
def EqR (H : Hp) (n : Nat) (x y : V) : Prop := ∃ a b xs ys, x = .ref a ∧ y = .ref b ∧ xs.length = ys.length ∧ ((Rd H a (.tup xs) ∧ Rd H b (.tup ys)) ∨ (Rd H a (.lst xs) ∧ Rd H b (.lst ys))) ∧ ∀ (i : Nat) (x y : V), xs[i]? = some x → ys[i]? = some y → EqT H n x y
theorem op_eqT (hu : X.A.units + 8 < cLine) : OpR X (compareOp .Eq) (fun x y H Q => EqR H 6 x y ∧ Q (.bl true) H) := by
  intro pins s σ H x y u v Q I ru rv h
  obtain ⟨⟨a, b, xs, ys, rfl, rfl, hl, hh, hi⟩, q⟩ := h
  cases (show u = Value.ref a from ru)
  cases (show v = Value.ref b from rv)
  rcases hh with ⟨h1, h2⟩ | ⟨h1, h2⟩
  · obtain ⟨its, r1, p1, z1⟩ := I.tuple (.inl h1)
    obtain ⟨its', r2, p2, z2⟩ := I.tuple (.inl h2)
    have l1 := r1.length
    have l2 := r2.length
    refine SeqAt.eq_tupleAt (e := fun _ => true) (show s.heap.IsTuple a its.toArray from p1) (show s.heap.IsTuple b its'.toArray from p2) (by omega) (fun j h1 h2 => ?_) ?_
    · obtain ⟨x, ex, rx⟩ := vals_nth r1 h1
      obtain ⟨y, ey, ry⟩ := vals_nth r2 h2
      exact eqT_at I 6 X.A.in1 (by rw [units_in1]; omega) (hi j x y ex ey) rx ry
    · rw [all_true, show (its.toArray.size == its'.toArray.size) = true by simp; omega]
      exact ⟨.bl true, H, I, rfl, q⟩
  · obtain ⟨its, r1, p1, z1⟩ := I.list (.inl h1)
    obtain ⟨its', r2, p2, z2⟩ := I.list (.inl h2)
    have l1 := r1.length
    have l2 := r2.length
    refine SeqAt.eq_listAt (e := fun _ => true) p1.isList p2.isList (by simp; omega) (by omega) (fun j h1 h2 => ?_) ?_
    · obtain ⟨x, ex, rx⟩ := vals_nth r1 h1
      obtain ⟨y, ey, ry⟩ := vals_nth r2 h2
      exact eqT_at I 6 X.A.in1 (by rw [units_in1]; omega) (hi j x y ex ey) rx ry
    · rw [all_true]
      exact ⟨.bl true, H, I, rfl, q⟩
theorem op_neT (hu : X.A.units + 8 < cLine) : OpR X (compareOp .NotEq) (fun x y H Q => EqR H 6 x y ∧ Q (.bl false) H) := by
  intro pins s σ H x y u v Q I ru rv h
  obtain ⟨⟨a, b, xs, ys, rfl, rfl, hl, hh, hi⟩, q⟩ := h
  cases (show u = Value.ref a from ru)
  cases (show v = Value.ref b from rv)
  rcases hh with ⟨h1, h2⟩ | ⟨h1, h2⟩
  · obtain ⟨its, r1, p1, z1⟩ := I.tuple (.inl h1)
    obtain ⟨its', r2, p2, z2⟩ := I.tuple (.inl h2)
    have l1 := r1.length
    have l2 := r2.length
    refine SeqAt.RcNeAt.tuples (e := fun _ => true) (show s.heap.IsTuple a its.toArray from p1) (show s.heap.IsTuple b its'.toArray from p2) (by omega) (fun j h1 h2 => ?_) X.prog X.w _ _ ?_
    · obtain ⟨x, ex, rx⟩ := vals_nth r1 h1
      obtain ⟨y, ey, ry⟩ := vals_nth r2 h2
      exact eqT_at I 6 X.A.in1 (by rw [units_in1]; omega) (hi j x y ex ey) rx ry
    · rw [all_true, show (its.toArray.size == its'.toArray.size) = true by simp; omega]
      exact ⟨.bl false, H, I, rfl, q⟩
  · obtain ⟨its, r1, p1, z1⟩ := I.list (.inl h1)
    obtain ⟨its', r2, p2, z2⟩ := I.list (.inl h2)
    have l1 := r1.length
    have l2 := r2.length
    refine SeqAt.RcNeAt.lists (e := fun _ => true) p1.isList p2.isList (by simp; omega) (by omega) (fun j h1 h2 => ?_) X.prog X.w _ _ ?_
    · obtain ⟨x, ex, rx⟩ := vals_nth r1 h1
      obtain ⟨y, ey, ry⟩ := vals_nth r2 h2
      exact eqT_at I 6 X.A.in1 (by rw [units_in1]; omega) (hi j x y ex ey) rx ry
    · rw [all_true]
      exact ⟨.bl false, H, I, rfl, q⟩
/-- a list against the empty one -/
def rNil (k : Bool → Bool) : R2 := fun x y H Q => ∃ a b xs, x = .ref a ∧ y = .ref b ∧ Rd H a (.lst xs) ∧ Rd H b (.lst []) ∧ Q (.bl (k xs.isEmpty)) H
theorem op_eqNil (hu : X.A.units + 8 < cLine) : OpR X (compareOp .Eq) (rNil id) := by
  intro pins s σ H x y u v Q I ru rv h
  obtain ⟨a, b, xs, rfl, rfl, h1, h2, q⟩ := h
  cases (show u = Value.ref a from ru)
  cases (show v = Value.ref b from rv)
  obtain ⟨its, r1, p1, z1⟩ := I.list (.inl h1)
  obtain ⟨its', r2, p2, z2⟩ := I.list (.inl h2)
  have l1 := r1.length
  cases r2
  cases xs with
  | nil =>
    cases r1
    refine SeqAt.eq_listAt (e := fun _ => true) p1.isList p2.isList rfl (by omega) (fun j h1 h2 => by simp at h1) ?_
    exact ⟨.bl true, H, I, rfl, q⟩
  | cons x xs =>
    refine SeqAt.eq_list_lengthsAt p1.isList p2.isList ?_ (by omega) ⟨.bl false, H, I, rfl, q⟩
    simp only [List.length_cons] at l1
    have : its.toArray.size ≠ 0 := by simp; intro e; rw [e] at l1; simp at l1
    simpa using this
theorem op_neNil (hu : X.A.units + 8 < cLine) : OpR X (compareOp .NotEq) (rNil not) := by
  intro pins s σ H x y u v Q I ru rv h
  obtain ⟨a, b, xs, rfl, rfl, h1, h2, q⟩ := h
  cases (show u = Value.ref a from ru)
  cases (show v = Value.ref b from rv)
  obtain ⟨its, r1, p1, z1⟩ := I.list (.inl h1)
  obtain ⟨its', r2, p2, z2⟩ := I.list (.inl h2)
  have l1 := r1.length
  cases r2
  cases xs with
  | nil =>
    cases r1
    refine SeqAt.RcNeAt.lists (e := fun _ => true) p1.isList p2.isList rfl (by omega) (fun j h1 h2 => by simp at h1) X.prog X.w _ _ ?_
    exact ⟨.bl false, H, I, rfl, q⟩
  | cons x xs =>
    refine SeqAt.RcNeAt.lists_lengths p1.isList p2.isList ?_ (by omega) X.prog X.w _ _ ⟨.bl true, H, I, rfl, q⟩
    simp only [List.length_cons] at l1
    have : its.toArray.size ≠ 0 := by simp; intro e; rw [e] at l1; simp at l1
    simpa using this
end


end L2

set_option maxRecDepth 100000
set_option maxHeartbeats 4000000
namespace TS
open PySem PyProof.Rows
def gallop' : Bool → Keyed → Array Keyed → Nat → Nat → Nat → StateT SortSt Sem (Option Nat) := sortPriv% PySem.Builtin.gallop
def mergeLo' : Array Keyed → Array Keyed → StateT SortSt Sem (Array Keyed) := sortPriv% PySem.Builtin.mergeLo
def mergeHi' : Array Keyed → Array Keyed → StateT SortSt Sem (Array Keyed) := sortPriv% PySem.Builtin.mergeHi
def setMinGallop' : Nat → StateT SortSt Sem Unit := sortPriv% PySem.Builtin.setMinGallop

/-- a comparison that answers at once, a total preorder -/
structure Cmp (κ : SortKind) (prog : Program) (w : World) (A : Around) (s : Shared) where
  ok : Keyed → Prop
  r : Keyed → Keyed → Bool
  ask : ∀ {E : Value → Shared → Prop} {st : SortSt} {x y : Keyed} {Q : Option Bool → SortSt → Prop}, kindOf st = κ → ok x → ok y → Q (some (r x y)) st → wpS (model prog w) A E s (lt' x y) Q st
  irrefl : ∀ a, r a a = false
  trans : ∀ a b c, r a b = true → r b c = true → r a c = true
  neg : ∀ a b c, r a c = true → r a b = true ∨ r b c = true

def G (xs : Array Keyed) (i : Nat) : Keyed := xs.getD i (Value.none, Value.none)
theorem G_get {xs : Array Keyed} {i : Nat} (h : i < xs.size) : xs[i]? = some (G xs i) := by simp [G, Array.getD, h]
theorem G_eq {xs ys : Array Keyed} {i j : Nat} (h : xs[i]? = ys[j]?) : G xs i = G ys j := by
  have a : ∀ (zs : Array Keyed) (k : Nat), G zs k = (zs[k]?).getD (Value.none, Value.none) := fun zs k => by simp [G]
  rw [a, a, h]

section
variable {κ : SortKind} {prog : Program} {w : World} {A : Around} {E : Value → Shared → Prop} {s : Shared}
def Cmp.le (O : Cmp κ prog w A s) (a b : Keyed) : Prop := O.r b a = false
variable (O : Cmp κ prog w A s)
theorem Cmp.le_refl (a : Keyed) : O.le a a := O.irrefl a
variable {O}
theorem Cmp.le_of_lt {a b : Keyed} (h : O.r a b = true) : O.le a b := by
  unfold Cmp.le
  cases e : O.r b a with
  | false => rfl
  | true => have := O.trans _ _ _ h e; rw [O.irrefl] at this; cases this
theorem Cmp.le_trans {a b c : Keyed} (h1 : O.le a b) (h2 : O.le b c) : O.le a c := by
  unfold Cmp.le at *
  cases e : O.r c a with
  | false => rfl
  | true =>
    rcases O.neg c b a e with z | z
    · rw [h2] at z; cases z
    · rw [h1] at z; cases z
theorem Cmp.lt_of_lt_of_le {a b c : Keyed} (h1 : O.r a b = true) (h2 : O.le b c) : O.r a c = true := by
  rcases O.neg a c b h1 with z | z
  · exact z
  · unfold Cmp.le at h2; rw [h2] at z; cases z
theorem Cmp.lt_of_le_of_lt {a b c : Keyed} (h1 : O.le a b) (h2 : O.r b c = true) : O.r a c = true := by
  rcases O.neg b a c h2 with z | z
  · unfold Cmp.le at h1; rw [h1] at z; cases z
  · exact z
theorem Cmp.le_of_not {a b : Keyed} (h : O.r a b = false) : O.le b a := h

theorem wpS_elem {arr : Array Keyed} {i : Nat} {st : SortSt} {Q : Keyed → SortSt → Prop} (hi : i < arr.size) (h : Q (G arr i) st) : wpS (model prog w) A E s (elem' arr i) Q st := by
  rw [elem'_eq, G_get hi]
  exact wpS_pure h

/-! ### gallop -/
def gal (beyond : Nat → StateT SortSt Sem (Option Bool)) (n hint : Nat) : StateT SortSt Sem (Option Nat) := do
  let mut lastofs := 0
  let mut ofs := 1
  let mut lo := 0
  let mut hi := 0
  let some right ← beyond hint | return none
  if right then
    let maxofs := n - hint
    for _ in [0:n] do
      if ofs ≥ maxofs then break
      let some more ← beyond (hint + ofs) | return none
      if !more then break
      lastofs := ofs
      ofs := 2 * ofs + 1
    lo := hint + lastofs + 1
    hi := hint + min ofs maxofs
  else
    let maxofs := hint + 1
    for _ in [0:n] do
      if ofs ≥ maxofs then break
      let some found ← beyond (hint - ofs) | return none
      if found then break
      lastofs := ofs
      ofs := 2 * ofs + 1
    lo := hint + 1 - min ofs maxofs
    hi := hint - lastofs
  for _ in [0:n] do
    if lo ≥ hi then break
    let m := lo + (hi - lo) / 2
    let some more ← beyond m | return none
    if more then lo := m + 1 else hi := m
  return some hi
def galTail (beyond : Nat → StateT SortSt Sem (Option Bool)) (n lo0 hi0 : Nat) : StateT SortSt Sem (Option Nat) := do
  let mut lo := lo0
  let mut hi := hi0
  for _ in [0:n] do
    if lo ≥ hi then break
    let m := lo + (hi - lo) / 2
    let some more ← beyond m | return none
    if more then lo := m + 1 else hi := m
  return some hi
theorem gallop'_eq (left : Bool) (key : Keyed) (arr : Array Keyed) (base n hint : Nat) : gallop' left key arr base n hint = gal (fun i => do
    let x ← elem' arr (base + i)
    if left then lt' x key else return (← lt' key x).map (!·)) n hint := rfl

theorem wpS_gal {beyond : Nat → StateT SortSt Sem (Option Bool)} {n hint : Nat} {st : SortSt} {P : Nat → Bool} {Q : Option Nat → SortSt → Prop}
    (hb : ∀ i (Q : Option Bool → SortSt → Prop), i < n → Q (some (P i)) st → wpS (model prog w) A E s (beyond i) Q st) (hh : hint < n) (hm : ∀ i j, i ≤ j → j < n → P j = true → P i = true)
    (h : ∀ k, k ≤ n → (∀ i, i < k → P i = true) → (∀ i, k ≤ i → i < n → P i = false) → Q (some k) st) : wpS (model prog w) A E s (gal beyond n hint) Q st := by
  have hm' : ∀ i j, i ≤ j → j < n → P i = false → P j = false := fun i j h1 h2 h3 => by
    cases e : P j with
    | false => rfl
    | true => rw [hm i j h1 h2 e] at h3; cases h3
  have fin : ∀ lo hi : Nat, lo ≤ hi → hi ≤ n → (∀ i, i < lo → P i = true) → (∀ i, hi ≤ i → i < n → P i = false) → wpS (model prog w) A E s (galTail beyond n lo hi) Q st := by
    intro lo hi hlh hhn h1 h2
    unfold galTail
    dsimp only
    refine wpS_bind (wpS_mono (wpS_forRange (I := fun x c st' => st' = st ∧ ∃ l r, c = (none, l, r) ∧ l ≤ r ∧ r ≤ n ∧ r - l ≤ n - x ∧ (∀ i, i < l → P i = true) ∧ ∀ i, r ≤ i → i < n → P i = false)
      (Q := fun c st' => st' = st ∧ ∃ l, c = (none, l, l) ∧ l ≤ n ∧ (∀ i, i < l → P i = true) ∧ ∀ i, l ≤ i → i < n → P i = false) ?step ?fin ⟨rfl, lo, hi, rfl, hlh, hhn, by omega, h1, h2⟩) ?post)
    case fin =>
      rintro c st' ⟨rfl, l, r, rfl, a1, a2, a3, a4, a5⟩
      have e : l = r := by omega
      subst e
      exact ⟨rfl, l, rfl, a2, a4, a5⟩
    case step =>
      rintro x c st' _ hx ⟨rfl, l, r, rfl, a1, a2, a3, a4, a5⟩
      dsimp only
      by_cases hge : l ≥ r
      · rw [if_pos hge]
        have e : l = r := by omega
        subst e
        exact wpS_pure ⟨rfl, l, rfl, a2, a4, a5⟩
      · rw [if_neg hge]
        refine wpS_bind (hb _ _ (by omega) ?_)
        cases hp : P (l + (r - l) / 2) with
        | true =>
          dsimp only
          rw [if_pos rfl]
          exact wpS_pure ⟨rfl, _, _, rfl, by omega, a2, by omega, fun i hi => hm i (l + (r - l) / 2) (by omega) (by omega) hp, a5⟩
        | false =>
          dsimp only
          rw [if_neg Bool.false_ne_true]
          exact wpS_pure ⟨rfl, _, _, rfl, by omega, by omega, by omega, a4, fun i h1 h2 => hm' (l + (r - l) / 2) i (by omega) h2 hp⟩
    case post =>
      rintro c st' ⟨rfl, l, rfl, a2, a4, a5⟩
      exact wpS_pure (h l a2 a4 a5)
  unfold gal
  dsimp only
  refine wpS_bind (hb hint _ hh ?_)
  cases hp : P hint with
  | true =>
    dsimp only
    rw [if_pos rfl]
    refine wpS_bind (wpS_mono (wpS_forRange (I := fun x c st' => st' = st ∧ ∃ l o, c = (none, l, o) ∧ l < o ∧ x + 1 ≤ o ∧ hint + l < n ∧ P (hint + l) = true)
      (Q := fun c st' => st' = st ∧ ∃ l o, c = (none, l, o) ∧ l < o ∧ hint + l < n ∧ P (hint + l) = true ∧ (n - hint ≤ o ∨ (hint + o < n ∧ P (hint + o) = false))) ?step ?fin ⟨rfl, 0, 1, rfl, by omega, by omega, by omega, hp⟩) ?post)
    case fin =>
      rintro c st' ⟨rfl, l, o, rfl, a1, a2, a3, a4⟩
      exact ⟨rfl, l, o, rfl, a1, a3, a4, .inl (by omega)⟩
    case step =>
      rintro x c st' _ hx ⟨rfl, l, o, rfl, a1, a2, a3, a4⟩
      dsimp only
      by_cases hge : o ≥ n - hint
      · rw [if_pos hge]
        exact wpS_pure ⟨rfl, l, o, rfl, a1, a3, a4, .inl hge⟩
      · rw [if_neg hge]
        refine wpS_bind (hb _ _ (by omega) ?_)
        cases hp2 : P (hint + o) with
        | true =>
          dsimp only
          rw [if_neg (by simp)]
          exact wpS_pure ⟨rfl, _, _, rfl, by omega, by omega, by omega, hp2⟩
        | false =>
          dsimp only
          rw [if_pos (by simp)]
          exact wpS_pure ⟨rfl, l, o, rfl, a1, a3, a4, .inr ⟨by omega, hp2⟩⟩
    case post =>
      rintro c st' ⟨rfl, l, o, rfl, a1, a3, a4, a5⟩
      dsimp only
      change wpS _ _ _ _ (galTail beyond n _ _) _ _
      refine fin (hint + l + 1) (hint + min o (n - hint)) (by omega) (by omega) (fun i hi => hm i (hint + l) (by omega) a3 a4) (fun i h1 h2 => ?_)
      rcases a5 with z | ⟨z1, z2⟩
      · omega
      · exact hm' (hint + o) i (by omega) h2 z2
  | false =>
    dsimp only
    rw [if_neg Bool.false_ne_true]
    refine wpS_bind (wpS_mono (wpS_forRange (I := fun x c st' => st' = st ∧ ∃ l o, c = (none, l, o) ∧ l < o ∧ x + 1 ≤ o ∧ l ≤ hint ∧ P (hint - l) = false)
      (Q := fun c st' => st' = st ∧ ∃ l o, c = (none, l, o) ∧ l < o ∧ l ≤ hint ∧ P (hint - l) = false ∧ (hint + 1 ≤ o ∨ (o ≤ hint ∧ P (hint - o) = true))) ?step ?fin ⟨rfl, 0, 1, rfl, by omega, by omega, by omega, hp⟩) ?post)
    case fin =>
      rintro c st' ⟨rfl, l, o, rfl, a1, a2, a3, a4⟩
      exact ⟨rfl, l, o, rfl, a1, a3, a4, .inl (by omega)⟩
    case step =>
      rintro x c st' _ hx ⟨rfl, l, o, rfl, a1, a2, a3, a4⟩
      dsimp only
      by_cases hge : o ≥ hint + 1
      · rw [if_pos hge]
        exact wpS_pure ⟨rfl, l, o, rfl, a1, a3, a4, .inl hge⟩
      · rw [if_neg hge]
        refine wpS_bind (hb _ _ (by omega) ?_)
        cases hp2 : P (hint - o) with
        | false =>
          dsimp only
          rw [if_neg (by simp)]
          exact wpS_pure ⟨rfl, _, _, rfl, by omega, by omega, by omega, hp2⟩
        | true =>
          dsimp only
          rw [if_pos (by simp)]
          exact wpS_pure ⟨rfl, l, o, rfl, a1, a3, a4, .inr ⟨by omega, hp2⟩⟩
    case post =>
      rintro c st' ⟨rfl, l, o, rfl, a1, a3, a4, a5⟩
      dsimp only
      change wpS _ _ _ _ (galTail beyond n _ _) _ _
      refine fin (hint + 1 - min o (hint + 1)) (hint - l) (by omega) (by omega) (fun i hi => ?_) (fun i h1 h2 => hm' (hint - l) i h1 h2 a4)
      rcases a5 with z | ⟨z1, z2⟩
      · omega
      · exact hm i (hint - o) (by omega) (by omega) z2

/-- all of a stretch is known to the comparison, and it rises -/
structure Run (O : Cmp κ prog w A s) (xs : Array Keyed) (a b : Nat) : Prop where
  sz : b ≤ xs.size
  ok : ∀ i, a ≤ i → i < b → O.ok (G xs i)
  srt : ∀ i j, a ≤ i → i ≤ j → j < b → O.le (G xs i) (G xs j)
theorem Run.sub {xs : Array Keyed} {a b c d : Nat} (h : Run O xs a b) (h1 : a ≤ c) (h2 : d ≤ b) : Run O xs c d :=
  ⟨Nat.le_trans h2 h.sz, fun i x y => h.ok i (by omega) (by omega), fun i j x y z => h.srt i j (by omega) y (by omega)⟩

theorem wpS_gallopL {key : Keyed} {arr : Array Keyed} {base n hint : Nat} {st : SortSt} {Q : Option Nat → SortSt → Prop} (hk : kindOf st = κ) (hkey : O.ok key) (hr : Run O arr base (base + n)) (hh : hint < n)
    (h : ∀ k, k ≤ n → (∀ i, base ≤ i → i < base + k → O.r (G arr i) key = true) → (∀ i, base + k ≤ i → i < base + n → O.le key (G arr i)) → Q (some k) st) :
    wpS (model prog w) A E s (gallop' true key arr base n hint) Q st := by
  rw [gallop'_eq]
  refine wpS_gal (P := fun i => O.r (G arr (base + i)) key) (fun i Q hi q => ?_) hh (fun i j h1 h2 h3 => Cmp.lt_of_le_of_lt (hr.srt _ _ (by omega) (by omega) (by omega)) h3) fun k h1 h2 h3 => h k h1 (fun i x y => ?_) (fun i x y => ?_)
  · refine wpS_bind (wpS_elem (by have := hr.sz; omega) ?_)
    rw [if_pos rfl]
    exact O.ask hk (hr.ok _ (by omega) (by omega)) hkey q
  · have := h2 (i - base) (by omega); rwa [show base + (i - base) = i by omega] at this
  · have := h3 (i - base) (by omega) (by omega); rwa [show base + (i - base) = i by omega] at this
theorem wpS_gallopR {key : Keyed} {arr : Array Keyed} {base n hint : Nat} {st : SortSt} {Q : Option Nat → SortSt → Prop} (hk : kindOf st = κ) (hkey : O.ok key) (hr : Run O arr base (base + n)) (hh : hint < n)
    (h : ∀ k, k ≤ n → (∀ i, base ≤ i → i < base + k → O.le (G arr i) key) → (∀ i, base + k ≤ i → i < base + n → O.r key (G arr i) = true) → Q (some k) st) :
    wpS (model prog w) A E s (gallop' false key arr base n hint) Q st := by
  rw [gallop'_eq]
  refine wpS_gal (P := fun i => !O.r key (G arr (base + i))) (fun i Q hi q => ?_) hh (fun i j h1 h2 h3 => ?_) fun k h1 h2 h3 => h k h1 (fun i x y => ?_) (fun i x y => ?_)
  · refine wpS_bind (wpS_elem (by have := hr.sz; omega) ?_)
    rw [if_neg Bool.false_ne_true]
    refine wpS_bind (O.ask hk hkey (hr.ok _ (by omega) (by omega)) (wpS_pure ?_))
    exact q
  · have h3' : O.le (G arr (base + j)) key := by unfold Cmp.le; simpa using h3
    have := Cmp.le_trans (hr.srt (base + i) (base + j) (by omega) (by omega) (by omega)) h3'
    unfold Cmp.le at this; simpa using this
  · have := h2 (i - base) (by omega); rw [show base + (i - base) = i by omega] at this; unfold Cmp.le; simpa using this
  · have := h3 (i - base) (by omega) (by omega); rw [show base + (i - base) = i by omega] at this; simpa using this
end
end TS

set_option maxRecDepth 100000
set_option maxHeartbeats 4000000
set_option autoImplicit false
namespace TS
open PySem PyProof.Rows
section
variable {κ : SortKind} {prog : Program} {w : World} {A : Around} {E : Value → Shared → Prop} {s : Shared} {O : Cmp κ prog w A s}

/-- but for the gallop's count -/
structure Like (st st' : SortSt) : Prop where
  kind : kindOf st' = kindOf st
  arr : arrOf st' = arrOf st
  pend : pendingOf st' = pendingOf st
  failed : failedOf st' = failedOf st
theorem Like.refl (st : SortSt) : Like st st := ⟨rfl, rfl, rfl, rfl⟩
theorem setMinGallop'_eq (g : Nat) : setMinGallop' g = modify (fun s => SortSt.mk' (kindOf s) (arrOf s) (pendingOf s) g (failedOf s)) := rfl
theorem wpS_setMin {st0 st : SortSt} {g : Nat} {Q : Unit → SortSt → Prop} (l : Like st0 st) (h : ∀ st', Like st0 st' → Q () st') : wpS (model prog w) A E s (setMinGallop' g) Q st := by
  rw [setMinGallop'_eq]
  exact wpS_modify (h _ ⟨l.kind, l.arr, l.pend, l.failed⟩)

/-! ### a merge, half done: out is told, ra and rb are left -/
structure Mrg (R : Keyed → Keyed → Prop) (all out ra rb : List Keyed) : Prop where
  perm : (out ++ ra ++ rb).Perm all
  srt : out.Pairwise R
  sa : ra.Pairwise R
  sb : rb.Pairwise R
  lo : ∀ x ∈ out, ∀ y ∈ ra ++ rb, R x y
def Good (R : Keyed → Keyed → Prop) (all res : List Keyed) : Prop := res.Perm all ∧ res.Pairwise R

theorem pw_append {l m : List Keyed} {R : Keyed → Keyed → Prop} (h1 : l.Pairwise R) (h2 : m.Pairwise R) (h3 : ∀ x ∈ l, ∀ y ∈ m, R x y) : (l ++ m).Pairwise R := List.pairwise_append.mpr ⟨h1, h2, h3⟩
variable {R : Keyed → Keyed → Prop} {all out ra rb : List Keyed}
theorem Mrg.doneA (M : Mrg R all out ra []) : Good R all (out ++ ra) := by
  refine ⟨by simpa using M.perm, pw_append M.srt M.sa fun x hx y hy => M.lo x hx y (by simpa using hy)⟩
theorem Mrg.doneB (M : Mrg R all out [] rb) : Good R all (out ++ rb) := by
  refine ⟨by simpa using M.perm, pw_append M.srt M.sb fun x hx y hy => M.lo x hx y (by simpa using hy)⟩
/-- all of rb is below all of ra -/
theorem Mrg.last (M : Mrg R all out ra rb) (h : ∀ x ∈ rb, ∀ y ∈ ra, R x y) : Good R all (out ++ rb ++ ra) := by
  refine ⟨?_, pw_append (pw_append M.srt M.sb fun x hx y hy => M.lo x hx y (List.mem_append_right _ hy)) M.sa fun x hx y hy => ?_⟩
  · refine List.Perm.trans ?_ M.perm
    rw [List.append_assoc, List.append_assoc]
    exact List.Perm.append_left _ List.perm_append_comm
  · rcases List.mem_append.mp hx with z | z
    · exact M.lo x z y (List.mem_append_left _ hy)
    · exact h x z y hy
theorem Mrg.moveA {t rest : List Keyed} (M : Mrg R all out (t ++ rest) rb) (h : ∀ x ∈ t, ∀ y ∈ rb, R x y) : Mrg R all (out ++ t) rest rb := by
  obtain ⟨p1, p2, p3⟩ := List.pairwise_append.mp M.sa
  refine ⟨by simpa [List.append_assoc] using M.perm, pw_append M.srt p1 fun x hx y hy => M.lo x hx y (by simp [hy]), p2, M.sb, fun x hx y hy => ?_⟩
  rcases List.mem_append.mp hx with z | z
  · exact M.lo x z y (by rcases List.mem_append.mp hy with q | q <;> simp [q])
  · rcases List.mem_append.mp hy with q | q
    · exact p3 x z y q
    · exact h x z y q
theorem Mrg.moveB {t rest : List Keyed} (M : Mrg R all out ra (t ++ rest)) (h : ∀ x ∈ t, ∀ y ∈ ra, R x y) : Mrg R all (out ++ t) ra rest := by
  obtain ⟨p1, p2, p3⟩ := List.pairwise_append.mp M.sb
  refine ⟨?_, pw_append M.srt p1 fun x hx y hy => M.lo x hx y (by simp [hy]), M.sa, p2, fun x hx y hy => ?_⟩
  · refine List.Perm.trans ?_ M.perm
    simp only [List.append_assoc]
    refine List.Perm.append_left _ ?_
    rw [← List.append_assoc, ← List.append_assoc]
    exact List.Perm.append_right _ List.perm_append_comm
  · rcases List.mem_append.mp hx with z | z
    · exact M.lo x z y (by rcases List.mem_append.mp hy with q | q <;> simp [q])
    · rcases List.mem_append.mp hy with q | q
      · exact h x z y q
      · exact p3 x z y q
theorem Mrg.len (M : Mrg R all out ra rb) : out.length + ra.length + rb.length = all.length := by
  have := M.perm.length_eq
  simp only [List.length_append] at this
  omega

/-! ### arrays as lists -/
theorem drop_cons {xs : Array Keyed} {i : Nat} (h : i < xs.size) : xs.toList.drop i = G xs i :: xs.toList.drop (i + 1) := by
  have e : xs.toList[i]? = some (G xs i) := by rw [Array.getElem?_toList]; exact G_get h
  rw [List.drop_eq_getElem_cons (by simpa using h)]
  congr 1
  rw [List.getElem?_eq_getElem (by simpa using h)] at e
  exact Option.some.inj e
theorem mem_drop {xs : Array Keyed} {i : Nat} {x : Keyed} (h : x ∈ xs.toList.drop i) : ∃ j, i ≤ j ∧ j < xs.size ∧ x = G xs j := by
  obtain ⟨k, hk, e⟩ := List.getElem_of_mem h
  simp only [List.length_drop, Array.length_toList] at hk
  refine ⟨i + k, by omega, by omega, ?_⟩
  rw [List.getElem_drop] at e
  have e2 : xs.toList[i + k]? = some (G xs (i + k)) := by rw [Array.getElem?_toList]; exact G_get (by omega)
  rw [List.getElem?_eq_getElem (by simp; omega)] at e2
  rw [← e]; exact Option.some.inj e2
theorem mem_take_drop {xs : Array Keyed} {i k : Nat} {x : Keyed} (h : x ∈ (xs.toList.drop i).take k) : ∃ j, i ≤ j ∧ j < i + k ∧ j < xs.size ∧ x = G xs j := by
  obtain ⟨n, hn, e⟩ := List.getElem_of_mem h
  simp only [List.length_take, List.length_drop, Array.length_toList] at hn
  refine ⟨i + n, by omega, by omega, by omega, ?_⟩
  rw [List.getElem_take, List.getElem_drop] at e
  have e2 : xs.toList[i + n]? = some (G xs (i + n)) := by rw [Array.getElem?_toList]; exact G_get (by omega)
  rw [List.getElem?_eq_getElem (by simp; omega)] at e2
  rw [← e]; exact Option.some.inj e2
theorem ext_list (xs : Array Keyed) (i j : Nat) : (xs.extract i j).toList = (xs.toList.drop i).take (j - i) := by
  rw [Array.toList_extract, List.extract_eq_take_drop]
theorem ext_end (xs : Array Keyed) (i : Nat) : (xs.extract i xs.size).toList = xs.toList.drop i := by
  rw [ext_list]; exact List.take_of_length_le (by simp)
theorem srt_list {xs : Array Keyed} (h : Run O xs 0 xs.size) : xs.toList.Pairwise O.le := by
  rw [List.pairwise_iff_getElem]
  intro i j hi hj hij
  simp only [Array.length_toList] at hi hj
  have e1 : xs.toList[i]? = some (G xs i) := by rw [Array.getElem?_toList]; exact G_get hi
  have e2 : xs.toList[j]? = some (G xs j) := by rw [Array.getElem?_toList]; exact G_get hj
  rw [List.getElem?_eq_getElem (by simpa using hi)] at e1
  rw [List.getElem?_eq_getElem (by simpa using hj)] at e2
  rw [Option.some.inj e1, Option.some.inj e2]
  exact h.srt i j (by omega) (by omega) hj

theorem mergeLo'_eq (a b : Array Keyed) : mergeLo' a b = (do
  rule "list.sort.merge-lo"
  let total := a.size + b.size
  let done (out : Array Keyed) (ia ib : Nat) := out ++ a.extract ia a.size ++ b.extract ib b.size
  let lastOfA (out : Array Keyed) (ia ib : Nat) := out ++ b.extract ib b.size ++ a.extract ia a.size
  let mut out : Array Keyed := #[← elem' b 0]
  let mut ia := 0
  let mut ib := 1
  if ib == b.size then return done out ia ib
  if ia + 1 == a.size then return lastOfA out ia ib
  let mut minGallop := gallopOf (← get)
  for _ in [0:total] do
    let mut acount := 0
    let mut bcount := 0
    for _ in [0:total] do
      let some bWins ← lt' (← elem' b ib) (← elem' a ia) | return done out ia ib
      if bWins then
        out := out.push (← elem' b ib); ib := ib + 1; bcount := bcount + 1; acount := 0
        if ib == b.size then return done out ia ib
        if bcount ≥ minGallop then break
      else
        out := out.push (← elem' a ia); ia := ia + 1; acount := acount + 1; bcount := 0
        if ia + 1 == a.size then return lastOfA out ia ib
        if acount ≥ minGallop then break
    rule "list.sort.gallop"
    minGallop := minGallop + 1
    for _ in [0:total] do
      if minGallop > 1 then minGallop := minGallop - 1
      setMinGallop' minGallop
      let some k ← gallop' false (← elem' b ib) a ia (a.size - ia) 0 | return done out ia ib
      acount := k
      if k > 0 then
        out := out ++ a.extract ia (ia + k); ia := ia + k
        if ia + 1 == a.size then return lastOfA out ia ib
        if ia == a.size then return done out ia ib
      out := out.push (← elem' b ib); ib := ib + 1
      if ib == b.size then return done out ia ib
      let some k ← gallop' true (← elem' a ia) b ib (b.size - ib) 0 | return done out ia ib
      bcount := k
      if k > 0 then
        out := out ++ b.extract ib (ib + k); ib := ib + k
        if ib == b.size then return done out ia ib
      out := out.push (← elem' a ia); ia := ia + 1
      if ia + 1 == a.size then return lastOfA out ia ib
      if acount < 7 && bcount < 7 then break
    minGallop := minGallop + 1
    setMinGallop' minGallop
  unsupported "internal:list.sort.merge-bound") := rfl

/-- between two turns: something of b is left, two or more of a -/
structure MLo (O : Cmp κ prog w A s) (a b out : Array Keyed) (ia ib : Nat) : Prop where
  m : Mrg O.le (a.toList ++ b.toList) out.toList (a.toList.drop ia) (b.toList.drop ib)
  ha : ia + 1 < a.size
  hb : ib < b.size

variable {a b out' : Array Keyed} {ia ib k : Nat}
theorem MLo.le (M : MLo O a b out' ia ib) : out'.size + 3 ≤ a.size + b.size := by
  have := M.m.len
  simp only [Array.length_toList, List.length_drop, List.length_append] at this
  have := M.ha; have := M.hb
  omega

theorem wpS_mergeLo {st : SortSt} {Q : Array Keyed → SortSt → Prop} (hk : kindOf st = κ) (ra : Run O a 0 a.size) (rb : Run O b 0 b.size) (ha : 0 < a.size) (hb : 0 < b.size) (h0 : O.r (G b 0) (G a 0) = true)
    (hl : ∀ i, i < b.size → O.r (G b i) (G a (a.size - 1)) = true) (h : ∀ res st', Like st st' → Good O.le (a.toList ++ b.toList) res.toList → Q res st') : wpS (model prog w) A E s (mergeLo' a b) Q st := by
  -- the ends
  have endB : ∀ {out : Array Keyed} {ia ib : Nat}, Mrg O.le (a.toList ++ b.toList) out.toList (a.toList.drop ia) (b.toList.drop ib) → ib = b.size → Good O.le (a.toList ++ b.toList) (out ++ a.extract ia a.size ++ b.extract ib b.size).toList := by
    intro out ia ib M e
    have eb : b.toList.drop ib = [] := by rw [e]; exact List.drop_eq_nil_of_le (by simp)
    rw [eb] at M
    rw [Array.toList_append, Array.toList_append, ext_end, ext_end, eb, List.append_nil]
    exact M.doneA
  have endA : ∀ {out : Array Keyed} {ia ib : Nat}, Mrg O.le (a.toList ++ b.toList) out.toList (a.toList.drop ia) (b.toList.drop ib) → ia + 1 = a.size → Good O.le (a.toList ++ b.toList) (out ++ b.extract ib b.size ++ a.extract ia a.size).toList := by
    intro out ia ib M e
    rw [Array.toList_append, Array.toList_append, ext_end, ext_end]
    refine M.last fun x hx y hy => ?_
    obtain ⟨j, _, hj, rfl⟩ := mem_drop hx
    obtain ⟨i, hi, hi2, rfl⟩ := mem_drop hy
    have : i = a.size - 1 := by omega
    subst this
    exact Cmp.le_of_lt (hl j hj)
  -- one element of b, of a
  have oneB : ∀ {out : Array Keyed} {ia ib : Nat}, Mrg O.le (a.toList ++ b.toList) out.toList (a.toList.drop ia) (b.toList.drop ib) → ib < b.size → (∀ j, ia ≤ j → j < a.size → O.le (G b ib) (G a j)) →
      Mrg O.le (a.toList ++ b.toList) (out.push (G b ib)).toList (a.toList.drop ia) (b.toList.drop (ib + 1)) := by
    intro out ia ib M hib hle
    rw [drop_cons hib] at M
    rw [Array.toList_push]
    refine M.moveB (t := [G b ib]) fun x hx y hy => ?_
    have e : x = G b ib := by simpa using hx
    subst e
    obtain ⟨j, h1, h2, rfl⟩ := mem_drop hy
    exact hle j h1 h2
  have oneA : ∀ {out : Array Keyed} {ia ib : Nat}, Mrg O.le (a.toList ++ b.toList) out.toList (a.toList.drop ia) (b.toList.drop ib) → ia < a.size → (∀ j, ib ≤ j → j < b.size → O.le (G a ia) (G b j)) →
      Mrg O.le (a.toList ++ b.toList) (out.push (G a ia)).toList (a.toList.drop (ia + 1)) (b.toList.drop ib) := by
    intro out ia ib M hia hle
    rw [drop_cons hia] at M
    rw [Array.toList_push]
    refine M.moveA (t := [G a ia]) fun x hx y hy => ?_
    have e : x = G a ia := by simpa using hx
    subst e
    obtain ⟨j, h1, h2, rfl⟩ := mem_drop hy
    exact hle j h1 h2
  have manyA : ∀ {out : Array Keyed} {ia ib k : Nat}, Mrg O.le (a.toList ++ b.toList) out.toList (a.toList.drop ia) (b.toList.drop ib) → ib < b.size → (∀ i, ia ≤ i → i < ia + k → O.le (G a i) (G b ib)) →
      Mrg O.le (a.toList ++ b.toList) (out ++ a.extract ia (ia + k)).toList (a.toList.drop (ia + k)) (b.toList.drop ib) := by
    intro out ia ib k M hib hle
    rw [← List.take_append_drop k (a.toList.drop ia), List.drop_drop] at M
    rw [Array.toList_append, ext_list, show ia + k - ia = k by omega]
    refine M.moveA fun x hx y hy => ?_
    obtain ⟨i, h1, h2, h3, rfl⟩ := mem_take_drop hx
    obtain ⟨j, h4, h5, rfl⟩ := mem_drop hy
    exact Cmp.le_trans (hle i h1 h2) (rb.srt _ _ (by omega) h4 h5)
  have manyB : ∀ {out : Array Keyed} {ia ib k : Nat}, Mrg O.le (a.toList ++ b.toList) out.toList (a.toList.drop ia) (b.toList.drop ib) → ia < a.size → (∀ i, ib ≤ i → i < ib + k → O.r (G b i) (G a ia) = true) →
      Mrg O.le (a.toList ++ b.toList) (out ++ b.extract ib (ib + k)).toList (a.toList.drop ia) (b.toList.drop (ib + k)) := by
    intro out ia ib k M hia hle
    rw [← List.take_append_drop k (b.toList.drop ib), List.drop_drop] at M
    rw [Array.toList_append, ext_list, show ib + k - ib = k by omega]
    refine M.moveB fun x hx y hy => ?_
    obtain ⟨i, h1, h2, h3, rfl⟩ := mem_take_drop hx
    obtain ⟨j, h4, h5, rfl⟩ := mem_drop hy
    exact Cmp.le_trans (Cmp.le_of_lt (hle i h1 h2)) (ra.srt _ _ (by omega) h4 h5)
  rw [mergeLo'_eq]
  refine wpS_bind (wpS_lift (wpAny_rule ⟨rfl, ?_⟩))
  dsimp only
  refine wpS_bind (wpS_elem hb ?_)
  have M0 : Mrg O.le (a.toList ++ b.toList) (#[] : Array Keyed).toList (a.toList.drop 0) (b.toList.drop 0) := by
    refine ⟨by simp, by simp, by simpa using srt_list ra, by simpa using srt_list rb, fun x hx => by simp at hx⟩
  have M1 : Mrg O.le (a.toList ++ b.toList) (#[G b 0] : Array Keyed).toList (a.toList.drop 0) (b.toList.drop 1) :=
    oneB (out := #[]) M0 hb fun j h1 h2 => Cmp.le_of_lt (Cmp.lt_of_lt_of_le h0 (ra.srt 0 j (by omega) (by omega) h2))
  by_cases c1 : (1 == b.size) = true
  · rw [if_pos c1]
    exact wpS_pure (h _ _ (.refl _) (endB M1 (by simpa using c1)))
  rw [if_neg c1]
  by_cases c2 : (0 + 1 == a.size) = true
  · rw [if_pos c2]
    exact wpS_pure (h _ _ (.refl _) (endA M1 (by simpa using c2)))
  rw [if_neg c2]
  have c1' : ¬ 1 = b.size := by simpa using c1
  have c2' : ¬ 1 = a.size := by simpa using c2
  refine wpS_bind (wpS_get ?_)
  refine wpS_bind (wpS_mono (wpS_forRange
    (I := fun x c st' => Like st st' ∧ ∃ out ia ib mg, c = (none, out, ia, ib, mg) ∧ MLo O a b out ia ib ∧ x + 1 ≤ out.size)
    (Q := fun c st' => Like st st' ∧ ∃ res, c.1 = some res ∧ Good O.le (a.toList ++ b.toList) res.toList) ?step ?fin ⟨.refl _, _, 0, 1, _, rfl, ⟨M1, by omega, by omega⟩, by simp⟩) ?post)
  case post =>
    rintro ⟨c1, c2⟩ st' ⟨L, res, e, g⟩
    have e' : c1 = some res := e
    subst e'
    exact wpS_pure (h res st' L g)
  case fin =>
    rintro c st' ⟨L, out, ia, ib, mg, rfl, M, hx⟩
    have := M.le
    exfalso; omega
  case step =>
    rintro x c st' _ hxt ⟨L, out, ia, ib, mg, rfl, M, hx⟩
    dsimp only
    refine wpS_bind (wpS_mono (wpS_forRange
      (I := fun y c st' => Like st st' ∧ ∃ o2 ia ib ac bc, c = (none, o2, ia, ib, ac, bc) ∧ MLo O a b o2 ia ib ∧ out.size + y ≤ o2.size)
      (Q := fun c st' => Like st st' ∧ ((∃ res, c.1 = some res ∧ Good O.le (a.toList ++ b.toList) res.toList) ∨ ∃ o2 ia ib ac bc, c = (none, o2, ia, ib, ac, bc) ∧ MLo O a b o2 ia ib ∧ out.size + 1 ≤ o2.size)) ?s1 ?f1 ⟨L, out, ia, ib, 0, 0, rfl, M, by omega⟩) ?p1)
    case f1 =>
      rintro c st2 ⟨L2, o2, i2, j2, ac, bc, rfl, M2, h2⟩
      exact ⟨L2, .inr ⟨o2, i2, j2, ac, bc, rfl, M2, by omega⟩⟩
    case s1 =>
      rintro y c st2 _ hy ⟨L2, o2, i2, j2, ac, bc, rfl, M2, h2⟩
      dsimp only
      have hk2 : kindOf st2 = κ := L2.kind.trans hk
      refine wpS_bind (wpS_elem M2.hb (wpS_bind (wpS_elem (by have := M2.ha; omega) ?_)))
      refine wpS_bind (O.ask hk2 (rb.ok _ (by omega) M2.hb) (ra.ok _ (by omega) (by have := M2.ha; omega)) ?_)
      cases hw : O.r (G b j2) (G a i2) with
      | true =>
        dsimp only
        rw [if_pos rfl]
        refine wpS_bind (wpS_elem M2.hb ?_)
        have N := oneB M2.m M2.hb fun j q1 q2 => Cmp.le_of_lt (Cmp.lt_of_lt_of_le hw (ra.srt i2 j (by omega) q1 q2))
        by_cases c3 : (j2 + 1 == b.size) = true
        · rw [if_pos c3]
          exact wpS_pure ⟨L2, .inl ⟨_, rfl, endB N (by simpa using c3)⟩⟩
        rw [if_neg c3]
        have c3' : ¬ j2 + 1 = b.size := by simpa using c3
        have N' : MLo O a b (o2.push (G b j2)) i2 (j2 + 1) := ⟨N, M2.ha, by have := M2.hb; omega⟩
        split
        · exact wpS_pure ⟨L2, .inr ⟨_, _, _, _, _, rfl, N', by rw [Array.size_push]; omega⟩⟩
        · exact wpS_pure ⟨L2, _, _, _, _, _, rfl, N', by rw [Array.size_push]; omega⟩
      | false =>
        dsimp only
        rw [if_neg Bool.false_ne_true]
        refine wpS_bind (wpS_elem (by have := M2.ha; omega) ?_)
        have N := oneA M2.m (by have := M2.ha; omega) fun j q1 q2 => Cmp.le_trans (Cmp.le_of_not hw) (rb.srt j2 j (by omega) q1 q2)
        by_cases c3 : (i2 + 1 + 1 == a.size) = true
        · rw [if_pos c3]
          exact wpS_pure ⟨L2, .inl ⟨_, rfl, endA N (by simpa using c3)⟩⟩
        rw [if_neg c3]
        have c3' : ¬ i2 + 1 + 1 = a.size := by simpa using c3
        have N' : MLo O a b (o2.push (G a i2)) (i2 + 1) j2 := ⟨N, by have := M2.ha; omega, M2.hb⟩
        split
        · exact wpS_pure ⟨L2, .inr ⟨_, _, _, _, _, rfl, N', by rw [Array.size_push]; omega⟩⟩
        · exact wpS_pure ⟨L2, _, _, _, _, _, rfl, N', by rw [Array.size_push]; omega⟩
    case p1 =>
      rintro ⟨c1, c2⟩ st2 ⟨L2, hc⟩
      rcases hc with ⟨res, e, g⟩ | ⟨o2, i2, j2, ac, bc, e, M2, h2⟩
      · have e' : c1 = some res := e
        subst e'
        exact wpS_pure ⟨L2, res, rfl, g⟩
      cases e
      dsimp only
      refine wpS_bind (wpS_lift (wpAny_rule ⟨rfl, ?_⟩))
      refine wpS_bind (wpS_mono (wpS_forRange
        (I := fun y c st' => Like st st' ∧ ∃ o3 ia ib mg ac bc, c = (none, o3, ia, ib, mg, ac, bc) ∧ MLo O a b o3 ia ib ∧ out.size + 1 ≤ o3.size)
        (Q := fun c st' => Like st st' ∧ ((∃ res, c.1 = some res ∧ Good O.le (a.toList ++ b.toList) res.toList) ∨ ∃ o3 ia ib mg ac bc, c = (none, o3, ia, ib, mg, ac, bc) ∧ MLo O a b o3 ia ib ∧ out.size + 1 ≤ o3.size)) ?s2 ?f2 ⟨L2, o2, i2, j2, _, ac, bc, rfl, M2, h2⟩) ?p2)
      case f2 =>
        rintro c st3 ⟨L3, o3, i3, j3, mg3, ac3, bc3, rfl, M3, h3⟩
        exact ⟨L3, .inr ⟨o3, i3, j3, mg3, ac3, bc3, rfl, M3, h3⟩⟩
      case p2 =>
        rintro ⟨c1, c2⟩ st3 ⟨L3, hc⟩
        rcases hc with ⟨res, e, g⟩ | ⟨o3, i3, j3, mg3, ac3, bc3, e, M3, h3⟩
        · have e' : c1 = some res := e
          subst e'
          exact wpS_pure ⟨L3, res, rfl, g⟩
        cases e
        dsimp only
        exact wpS_bind (wpS_setMin L3 fun st4 L4 => wpS_pure ⟨L4, _, _, _, _, rfl, M3, by omega⟩)
      case s2 =>
        rintro y c st3 _ hy ⟨L3, o3, i3, j3, mg3, ac3, bc3, rfl, M3, h3⟩
        dsimp only
        have hka : i3 < a.size := by have := M3.ha; omega
        by_cases hmg : mg3 > 1
        · rw [if_pos hmg]
          refine wpS_bind (wpS_setMin L3 fun st4 L4 => ?_)
          refine wpS_bind (wpS_elem M3.hb ?_)
          refine wpS_bind (wpS_gallopR (O := O) (L4.kind.trans hk) (rb.ok _ (by omega) M3.hb) (ra.sub (by omega) (by omega)) (by omega) fun k k1 k2 k3 => ?_)
          have hk4 : i3 + k + 1 ≤ a.size := by
            rcases Nat.lt_or_ge (i3 + k) a.size with z | z
            · omega
            · have q := k2 (a.size - 1) (by omega) (by omega)
              have q2 := hl j3 M3.hb
              unfold Cmp.le at q
              rw [q] at q2; cases q2
          dsimp only
          by_cases hk0 : k > 0
          · rw [if_pos hk0]
            have N := manyA (k := k) M3.m M3.hb k2
            by_cases c4 : (i3 + k + 1 == a.size) = true
            · rw [if_pos c4]
              exact wpS_pure ⟨L4, .inl ⟨_, rfl, endA N (by simpa using c4)⟩⟩
            rw [if_neg c4]
            have c4' : ¬ i3 + k + 1 = a.size := by simpa using c4
            rw [if_neg (by simp; omega)]
            have ho4 : out.size + 1 ≤ (o3 ++ a.extract i3 (i3 + k)).size := by rw [Array.size_append]; omega
            have hlt : ∀ i, i3 + k ≤ i → i < a.size → O.r (G b j3) (G a i) = true := fun i q1 q2 => k3 i q1 (by omega)
            have hi4 : i3 + k + 1 < a.size := by omega
            clear hk4 c4 c4' k1 k2 k3
            revert ho4 hlt hi4 N
            generalize o3 ++ a.extract i3 (i3 + k) = o4
            generalize i3 + k = i4
            intro M4 ho4 hlt hi4
            refine wpS_bind (wpS_elem M3.hb ?_)
            have N := oneB M4 M3.hb fun j q1 q2 => Cmp.le_of_lt (hlt j q1 q2)
            by_cases c3 : (j3 + 1 == b.size) = true
            · rw [if_pos c3]
              exact wpS_pure ⟨L4, .inl ⟨_, rfl, endB N (by simpa using c3)⟩⟩
            rw [if_neg c3]
            have c3' : ¬ j3 + 1 = b.size := by simpa using c3
            have hj3 := M3.hb
            refine wpS_bind (wpS_elem (by omega) ?_)
            refine wpS_bind (wpS_gallopL (O := O) (L4.kind.trans hk) (ra.ok _ (by omega) (by omega)) (rb.sub (by omega) (by omega)) (by omega) fun k2 k21 k22 k23 => ?_)
            dsimp only
            by_cases hk0 : k2 > 0
            · rw [if_pos hk0]
              have N2 := manyB (k := k2) N (by omega) k22
              by_cases c4 : (j3 + 1 + k2 == b.size) = true
              · rw [if_pos c4]
                exact wpS_pure ⟨L4, .inl ⟨_, rfl, endB N2 (by simpa using c4)⟩⟩
              rw [if_neg c4]
              have c4' : ¬ j3 + 1 + k2 = b.size := by simpa using c4
              refine wpS_bind (wpS_elem (by omega) ?_)
              have N5 := oneA N2 (by omega) (fun j q1 q2 => k23 j q1 (by omega))
              by_cases c5 : (i4 + 1 + 1 == a.size) = true
              · rw [if_pos c5]
                exact wpS_pure ⟨L4, .inl ⟨_, rfl, endA N5 (by simpa using c5)⟩⟩
              rw [if_neg c5]
              have c5' : ¬ i4 + 1 + 1 = a.size := by simpa using c5
              have N5' : MLo O a b _ (i4 + 1) _ := ⟨N5, by omega, by omega⟩
              by_cases c6 : (decide (k < 7) && decide (k2 < 7)) = true
              · rw [if_pos c6]
                exact wpS_pure ⟨L4, .inr ⟨_, _, _, _, _, _, rfl, N5', by rw [Array.size_push]; rw [Array.size_append, Array.size_push]; omega⟩⟩
              · rw [if_neg c6]
                exact wpS_pure ⟨L4, _, _, _, _, _, _, rfl, N5', by rw [Array.size_push]; rw [Array.size_append, Array.size_push]; omega⟩
            · rw [if_neg hk0]
              have e0 : k2 = 0 := by omega
              skip
              refine wpS_bind (wpS_elem (by omega) ?_)
              have N5 := oneA N (by omega) (fun j q1 q2 => k23 j (by omega) (by omega))
              by_cases c5 : (i4 + 1 + 1 == a.size) = true
              · rw [if_pos c5]
                exact wpS_pure ⟨L4, .inl ⟨_, rfl, endA N5 (by simpa using c5)⟩⟩
              rw [if_neg c5]
              have c5' : ¬ i4 + 1 + 1 = a.size := by simpa using c5
              have N5' : MLo O a b _ (i4 + 1) _ := ⟨N5, by omega, by omega⟩
              by_cases c6 : (decide (k < 7) && decide (k2 < 7)) = true
              · rw [if_pos c6]
                exact wpS_pure ⟨L4, .inr ⟨_, _, _, _, _, _, rfl, N5', by rw [Array.size_push]; rw [Array.size_push]; omega⟩⟩
              · rw [if_neg c6]
                exact wpS_pure ⟨L4, _, _, _, _, _, _, rfl, N5', by rw [Array.size_push]; rw [Array.size_push]; omega⟩
          · rw [if_neg hk0]
            have e0 : k = 0 := by omega
            have M4 := M3.m
            have hi4 := M3.ha
            have ho4 := h3
            have hlt : ∀ i, i3 ≤ i → i < a.size → O.r (G b j3) (G a i) = true := fun i q1 q2 => k3 i (by omega) (by omega)
            clear hk4 k1 k2 k3 e0 hk0
            refine wpS_bind (wpS_elem M3.hb ?_)
            have N := oneB M4 M3.hb fun j q1 q2 => Cmp.le_of_lt (hlt j q1 q2)
            by_cases c3 : (j3 + 1 == b.size) = true
            · rw [if_pos c3]
              exact wpS_pure ⟨L4, .inl ⟨_, rfl, endB N (by simpa using c3)⟩⟩
            rw [if_neg c3]
            have c3' : ¬ j3 + 1 = b.size := by simpa using c3
            have hj3 := M3.hb
            refine wpS_bind (wpS_elem (by omega) ?_)
            refine wpS_bind (wpS_gallopL (O := O) (L4.kind.trans hk) (ra.ok _ (by omega) (by omega)) (rb.sub (by omega) (by omega)) (by omega) fun k2 k21 k22 k23 => ?_)
            dsimp only
            by_cases hk0 : k2 > 0
            · rw [if_pos hk0]
              have N2 := manyB (k := k2) N (by omega) k22
              by_cases c4 : (j3 + 1 + k2 == b.size) = true
              · rw [if_pos c4]
                exact wpS_pure ⟨L4, .inl ⟨_, rfl, endB N2 (by simpa using c4)⟩⟩
              rw [if_neg c4]
              have c4' : ¬ j3 + 1 + k2 = b.size := by simpa using c4
              refine wpS_bind (wpS_elem (by omega) ?_)
              have N5 := oneA N2 (by omega) (fun j q1 q2 => k23 j q1 (by omega))
              by_cases c5 : (i3 + 1 + 1 == a.size) = true
              · rw [if_pos c5]
                exact wpS_pure ⟨L4, .inl ⟨_, rfl, endA N5 (by simpa using c5)⟩⟩
              rw [if_neg c5]
              have c5' : ¬ i3 + 1 + 1 = a.size := by simpa using c5
              have N5' : MLo O a b _ (i3 + 1) _ := ⟨N5, by omega, by omega⟩
              by_cases c6 : (decide (k < 7) && decide (k2 < 7)) = true
              · rw [if_pos c6]
                exact wpS_pure ⟨L4, .inr ⟨_, _, _, _, _, _, rfl, N5', by rw [Array.size_push]; rw [Array.size_append, Array.size_push]; omega⟩⟩
              · rw [if_neg c6]
                exact wpS_pure ⟨L4, _, _, _, _, _, _, rfl, N5', by rw [Array.size_push]; rw [Array.size_append, Array.size_push]; omega⟩
            · rw [if_neg hk0]
              have e0 : k2 = 0 := by omega
              skip
              refine wpS_bind (wpS_elem (by omega) ?_)
              have N5 := oneA N (by omega) (fun j q1 q2 => k23 j (by omega) (by omega))
              by_cases c5 : (i3 + 1 + 1 == a.size) = true
              · rw [if_pos c5]
                exact wpS_pure ⟨L4, .inl ⟨_, rfl, endA N5 (by simpa using c5)⟩⟩
              rw [if_neg c5]
              have c5' : ¬ i3 + 1 + 1 = a.size := by simpa using c5
              have N5' : MLo O a b _ (i3 + 1) _ := ⟨N5, by omega, by omega⟩
              by_cases c6 : (decide (k < 7) && decide (k2 < 7)) = true
              · rw [if_pos c6]
                exact wpS_pure ⟨L4, .inr ⟨_, _, _, _, _, _, rfl, N5', by rw [Array.size_push]; rw [Array.size_push]; omega⟩⟩
              · rw [if_neg c6]
                exact wpS_pure ⟨L4, _, _, _, _, _, _, rfl, N5', by rw [Array.size_push]; rw [Array.size_push]; omega⟩
        · rw [if_neg hmg]
          refine wpS_bind (wpS_setMin L3 fun st4 L4 => ?_)
          refine wpS_bind (wpS_elem M3.hb ?_)
          refine wpS_bind (wpS_gallopR (O := O) (L4.kind.trans hk) (rb.ok _ (by omega) M3.hb) (ra.sub (by omega) (by omega)) (by omega) fun k k1 k2 k3 => ?_)
          have hk4 : i3 + k + 1 ≤ a.size := by
            rcases Nat.lt_or_ge (i3 + k) a.size with z | z
            · omega
            · have q := k2 (a.size - 1) (by omega) (by omega)
              have q2 := hl j3 M3.hb
              unfold Cmp.le at q
              rw [q] at q2; cases q2
          dsimp only
          by_cases hk0 : k > 0
          · rw [if_pos hk0]
            have N := manyA (k := k) M3.m M3.hb k2
            by_cases c4 : (i3 + k + 1 == a.size) = true
            · rw [if_pos c4]
              exact wpS_pure ⟨L4, .inl ⟨_, rfl, endA N (by simpa using c4)⟩⟩
            rw [if_neg c4]
            have c4' : ¬ i3 + k + 1 = a.size := by simpa using c4
            rw [if_neg (by simp; omega)]
            have ho4 : out.size + 1 ≤ (o3 ++ a.extract i3 (i3 + k)).size := by rw [Array.size_append]; omega
            have hlt : ∀ i, i3 + k ≤ i → i < a.size → O.r (G b j3) (G a i) = true := fun i q1 q2 => k3 i q1 (by omega)
            have hi4 : i3 + k + 1 < a.size := by omega
            clear hk4 c4 c4' k1 k2 k3
            revert ho4 hlt hi4 N
            generalize o3 ++ a.extract i3 (i3 + k) = o4
            generalize i3 + k = i4
            intro M4 ho4 hlt hi4
            refine wpS_bind (wpS_elem M3.hb ?_)
            have N := oneB M4 M3.hb fun j q1 q2 => Cmp.le_of_lt (hlt j q1 q2)
            by_cases c3 : (j3 + 1 == b.size) = true
            · rw [if_pos c3]
              exact wpS_pure ⟨L4, .inl ⟨_, rfl, endB N (by simpa using c3)⟩⟩
            rw [if_neg c3]
            have c3' : ¬ j3 + 1 = b.size := by simpa using c3
            have hj3 := M3.hb
            refine wpS_bind (wpS_elem (by omega) ?_)
            refine wpS_bind (wpS_gallopL (O := O) (L4.kind.trans hk) (ra.ok _ (by omega) (by omega)) (rb.sub (by omega) (by omega)) (by omega) fun k2 k21 k22 k23 => ?_)
            dsimp only
            by_cases hk0 : k2 > 0
            · rw [if_pos hk0]
              have N2 := manyB (k := k2) N (by omega) k22
              by_cases c4 : (j3 + 1 + k2 == b.size) = true
              · rw [if_pos c4]
                exact wpS_pure ⟨L4, .inl ⟨_, rfl, endB N2 (by simpa using c4)⟩⟩
              rw [if_neg c4]
              have c4' : ¬ j3 + 1 + k2 = b.size := by simpa using c4
              refine wpS_bind (wpS_elem (by omega) ?_)
              have N5 := oneA N2 (by omega) (fun j q1 q2 => k23 j q1 (by omega))
              by_cases c5 : (i4 + 1 + 1 == a.size) = true
              · rw [if_pos c5]
                exact wpS_pure ⟨L4, .inl ⟨_, rfl, endA N5 (by simpa using c5)⟩⟩
              rw [if_neg c5]
              have c5' : ¬ i4 + 1 + 1 = a.size := by simpa using c5
              have N5' : MLo O a b _ (i4 + 1) _ := ⟨N5, by omega, by omega⟩
              by_cases c6 : (decide (k < 7) && decide (k2 < 7)) = true
              · rw [if_pos c6]
                exact wpS_pure ⟨L4, .inr ⟨_, _, _, _, _, _, rfl, N5', by rw [Array.size_push]; rw [Array.size_append, Array.size_push]; omega⟩⟩
              · rw [if_neg c6]
                exact wpS_pure ⟨L4, _, _, _, _, _, _, rfl, N5', by rw [Array.size_push]; rw [Array.size_append, Array.size_push]; omega⟩
            · rw [if_neg hk0]
              have e0 : k2 = 0 := by omega
              skip
              refine wpS_bind (wpS_elem (by omega) ?_)
              have N5 := oneA N (by omega) (fun j q1 q2 => k23 j (by omega) (by omega))
              by_cases c5 : (i4 + 1 + 1 == a.size) = true
              · rw [if_pos c5]
                exact wpS_pure ⟨L4, .inl ⟨_, rfl, endA N5 (by simpa using c5)⟩⟩
              rw [if_neg c5]
              have c5' : ¬ i4 + 1 + 1 = a.size := by simpa using c5
              have N5' : MLo O a b _ (i4 + 1) _ := ⟨N5, by omega, by omega⟩
              by_cases c6 : (decide (k < 7) && decide (k2 < 7)) = true
              · rw [if_pos c6]
                exact wpS_pure ⟨L4, .inr ⟨_, _, _, _, _, _, rfl, N5', by rw [Array.size_push]; rw [Array.size_push]; omega⟩⟩
              · rw [if_neg c6]
                exact wpS_pure ⟨L4, _, _, _, _, _, _, rfl, N5', by rw [Array.size_push]; rw [Array.size_push]; omega⟩
          · rw [if_neg hk0]
            have e0 : k = 0 := by omega
            have M4 := M3.m
            have hi4 := M3.ha
            have ho4 := h3
            have hlt : ∀ i, i3 ≤ i → i < a.size → O.r (G b j3) (G a i) = true := fun i q1 q2 => k3 i (by omega) (by omega)
            clear hk4 k1 k2 k3 e0 hk0
            refine wpS_bind (wpS_elem M3.hb ?_)
            have N := oneB M4 M3.hb fun j q1 q2 => Cmp.le_of_lt (hlt j q1 q2)
            by_cases c3 : (j3 + 1 == b.size) = true
            · rw [if_pos c3]
              exact wpS_pure ⟨L4, .inl ⟨_, rfl, endB N (by simpa using c3)⟩⟩
            rw [if_neg c3]
            have c3' : ¬ j3 + 1 = b.size := by simpa using c3
            have hj3 := M3.hb
            refine wpS_bind (wpS_elem (by omega) ?_)
            refine wpS_bind (wpS_gallopL (O := O) (L4.kind.trans hk) (ra.ok _ (by omega) (by omega)) (rb.sub (by omega) (by omega)) (by omega) fun k2 k21 k22 k23 => ?_)
            dsimp only
            by_cases hk0 : k2 > 0
            · rw [if_pos hk0]
              have N2 := manyB (k := k2) N (by omega) k22
              by_cases c4 : (j3 + 1 + k2 == b.size) = true
              · rw [if_pos c4]
                exact wpS_pure ⟨L4, .inl ⟨_, rfl, endB N2 (by simpa using c4)⟩⟩
              rw [if_neg c4]
              have c4' : ¬ j3 + 1 + k2 = b.size := by simpa using c4
              refine wpS_bind (wpS_elem (by omega) ?_)
              have N5 := oneA N2 (by omega) (fun j q1 q2 => k23 j q1 (by omega))
              by_cases c5 : (i3 + 1 + 1 == a.size) = true
              · rw [if_pos c5]
                exact wpS_pure ⟨L4, .inl ⟨_, rfl, endA N5 (by simpa using c5)⟩⟩
              rw [if_neg c5]
              have c5' : ¬ i3 + 1 + 1 = a.size := by simpa using c5
              have N5' : MLo O a b _ (i3 + 1) _ := ⟨N5, by omega, by omega⟩
              by_cases c6 : (decide (k < 7) && decide (k2 < 7)) = true
              · rw [if_pos c6]
                exact wpS_pure ⟨L4, .inr ⟨_, _, _, _, _, _, rfl, N5', by rw [Array.size_push]; rw [Array.size_append, Array.size_push]; omega⟩⟩
              · rw [if_neg c6]
                exact wpS_pure ⟨L4, _, _, _, _, _, _, rfl, N5', by rw [Array.size_push]; rw [Array.size_append, Array.size_push]; omega⟩
            · rw [if_neg hk0]
              have e0 : k2 = 0 := by omega
              skip
              refine wpS_bind (wpS_elem (by omega) ?_)
              have N5 := oneA N (by omega) (fun j q1 q2 => k23 j (by omega) (by omega))
              by_cases c5 : (i3 + 1 + 1 == a.size) = true
              · rw [if_pos c5]
                exact wpS_pure ⟨L4, .inl ⟨_, rfl, endA N5 (by simpa using c5)⟩⟩
              rw [if_neg c5]
              have c5' : ¬ i3 + 1 + 1 = a.size := by simpa using c5
              have N5' : MLo O a b _ (i3 + 1) _ := ⟨N5, by omega, by omega⟩
              by_cases c6 : (decide (k < 7) && decide (k2 < 7)) = true
              · rw [if_pos c6]
                exact wpS_pure ⟨L4, .inr ⟨_, _, _, _, _, _, rfl, N5', by rw [Array.size_push]; rw [Array.size_push]; omega⟩⟩
              · rw [if_neg c6]
                exact wpS_pure ⟨L4, _, _, _, _, _, _, rfl, N5', by rw [Array.size_push]; rw [Array.size_push]; omega⟩
end
end TS

set_option maxRecDepth 100000
set_option maxHeartbeats 4000000
set_option autoImplicit false
namespace TS
open PySem PyProof.Rows
section
variable {κ : SortKind} {prog : Program} {w : World} {A : Around} {E : Value → Shared → Prop} {s : Shared} {O : Cmp κ prog w A s}

theorem mergeHi'_eq (a b : Array Keyed) : mergeHi' a b = (do
  rule "list.sort.merge-hi"
  let total := a.size + b.size
  let done (out : Array Keyed) (na nb : Nat) := a.extract 0 na ++ b.extract 0 nb ++ out.reverse
  let firstOfB (out : Array Keyed) (na nb : Nat) := b.extract 0 nb ++ a.extract 0 na ++ out.reverse
  let mut na := a.size - 1
  let mut nb := b.size
  let mut out : Array Keyed := #[← elem' a na]
  if na == 0 then return done out na nb
  if nb == 1 then return firstOfB out na nb
  let mut minGallop := gallopOf (← get)
  for _ in [0:total] do
    let mut acount := 0
    let mut bcount := 0
    for _ in [0:total] do
      let some aWins ← lt' (← elem' b (nb - 1)) (← elem' a (na - 1)) | return done out na nb
      if aWins then
        na := na - 1; out := out.push (← elem' a na); acount := acount + 1; bcount := 0
        if na == 0 then return done out na nb
        if acount ≥ minGallop then break
      else
        nb := nb - 1; out := out.push (← elem' b nb); bcount := bcount + 1; acount := 0
        if nb == 1 then return firstOfB out na nb
        if bcount ≥ minGallop then break
    rule "list.sort.gallop"
    minGallop := minGallop + 1
    for _ in [0:total] do
      if minGallop > 1 then minGallop := minGallop - 1
      setMinGallop' minGallop
      let some at_ ← gallop' false (← elem' b (nb - 1)) a 0 na (na - 1) | return done out na nb
      let k := na - at_
      acount := k
      if k > 0 then
        out := out ++ (a.extract at_ na).reverse; na := at_
        if na == 0 then return done out na nb
      nb := nb - 1; out := out.push (← elem' b nb)
      if nb == 1 then return firstOfB out na nb
      let some at_ ← gallop' true (← elem' a (na - 1)) b 0 nb (nb - 1) | return done out na nb
      let k := nb - at_
      bcount := k
      if k > 0 then
        out := out ++ (b.extract at_ nb).reverse; nb := at_
        if nb == 1 then return firstOfB out na nb
        if nb == 0 then return done out na nb
      na := na - 1; out := out.push (← elem' a na)
      if na == 0 then return done out na nb
      if acount < 7 && bcount < 7 then break
    minGallop := minGallop + 1
    setMinGallop' minGallop
  unsupported "internal:list.sort.merge-bound") := rfl

theorem take_snoc {xs : Array Keyed} {i : Nat} (h : i < xs.size) : (xs.toList.take (i + 1)).reverse = G xs i :: (xs.toList.take i).reverse := by
  have e : xs.toList[i]? = some (G xs i) := by rw [Array.getElem?_toList]; exact G_get h
  rw [List.take_add_one, e, List.reverse_append]
  rfl
theorem mem_takeR {xs : Array Keyed} {i : Nat} {x : Keyed} (h : x ∈ (xs.toList.take i).reverse) : ∃ j, j < i ∧ j < xs.size ∧ x = G xs j := by
  have h := List.mem_reverse.mp h
  obtain ⟨n, hn, e⟩ := List.getElem_of_mem h
  simp only [List.length_take, Array.length_toList] at hn
  refine ⟨n, by omega, by omega, ?_⟩
  rw [List.getElem_take] at e
  have e2 : xs.toList[n]? = some (G xs n) := by rw [Array.getElem?_toList]; exact G_get (by omega)
  rw [List.getElem?_eq_getElem (by simp; omega)] at e2
  rw [← e]; exact Option.some.inj e2
theorem ext_front (xs : Array Keyed) (i : Nat) : (xs.extract 0 i).toList = xs.toList.take i := by rw [ext_list]; simp
theorem take_split (xs : Array Keyed) (i j : Nat) (h : i ≤ j) : (xs.toList.take j).reverse = (xs.extract i j).reverse.toList ++ (xs.toList.take i).reverse := by
  rw [Array.toList_reverse, ext_list, ← List.reverse_append]
  congr 1
  rw [← List.drop_take]
  have := List.take_append_drop i (xs.toList.take j)
  rw [List.take_take, Nat.min_eq_left h] at this
  exact this.symm
theorem mem_extR {xs : Array Keyed} {i j : Nat} {x : Keyed} (h : x ∈ (xs.extract i j).reverse.toList) : ∃ k, i ≤ k ∧ k < j ∧ k < xs.size ∧ x = G xs k := by
  rw [Array.toList_reverse, List.mem_reverse, ext_list] at h
  obtain ⟨k, h1, h2, h3, h4⟩ := mem_take_drop h
  exact ⟨k, h1, by omega, h3, h4⟩
theorem srt_rev {xs : Array Keyed} (h : Run O xs 0 xs.size) : xs.toList.reverse.Pairwise (fun x y => O.le y x) := List.pairwise_reverse.mpr (srt_list h)

abbrev geO (O : Cmp κ prog w A s) : Keyed → Keyed → Prop := fun x y => O.le y x
/-- between two turns: something of a is left, two or more of b -/
structure MHi (O : Cmp κ prog w A s) (a b out : Array Keyed) (na nb : Nat) : Prop where
  m : Mrg (geO O) (a.toList ++ b.toList) out.toList (a.toList.take na).reverse (b.toList.take nb).reverse
  ha : 1 ≤ na
  hb : 2 ≤ nb
  ha2 : na ≤ a.size
  hb2 : nb ≤ b.size

variable {a b out' : Array Keyed} {na nb k : Nat}
theorem MHi.le (M : MHi O a b out' na nb) : out'.size + 3 ≤ a.size + b.size := by
  have := M.m.len
  simp only [Array.length_toList, List.length_reverse, List.length_take, List.length_append] at this
  have := M.ha; have := M.hb; have := M.ha2; have := M.hb2
  omega
theorem good_rev {all res : List Keyed} (g : Good (geO O) all res) : Good O.le all res.reverse := ⟨(List.reverse_perm res).trans g.1, List.pairwise_reverse.mpr g.2⟩

theorem wpS_mergeHi {st : SortSt} {Q : Array Keyed → SortSt → Prop} (hk : kindOf st = κ) (ra : Run O a 0 a.size) (rb : Run O b 0 b.size) (ha : 0 < a.size) (hb : 0 < b.size) (h0 : ∀ i, i < a.size → O.r (G b 0) (G a i) = true)
    (hl : ∀ i, i < b.size → O.r (G b i) (G a (a.size - 1)) = true) (h : ∀ res st', Like st st' → Good O.le (a.toList ++ b.toList) res.toList → Q res st') : wpS (model prog w) A E s (mergeHi' a b) Q st := by
  have endA : ∀ {out : Array Keyed} {na nb : Nat}, Mrg (geO O) (a.toList ++ b.toList) out.toList (a.toList.take na).reverse (b.toList.take nb).reverse → na = 0 → Good O.le (a.toList ++ b.toList) (a.extract 0 na ++ b.extract 0 nb ++ out.reverse).toList := by
    intro out na nb M e
    subst e
    rw [Array.toList_append, Array.toList_append, ext_front, ext_front, Array.toList_reverse, List.take_zero, List.nil_append]
    have g := good_rev (Mrg.doneB (by simpa using M))
    simpa using g
  have endB : ∀ {out : Array Keyed} {na nb : Nat}, Mrg (geO O) (a.toList ++ b.toList) out.toList (a.toList.take na).reverse (b.toList.take nb).reverse → nb = 1 → Good O.le (a.toList ++ b.toList) (b.extract 0 nb ++ a.extract 0 na ++ out.reverse).toList := by
    intro out na nb M e
    subst e
    rw [Array.toList_append, Array.toList_append, ext_front, ext_front, Array.toList_reverse]
    -- b's one is below all of a: in the order turned round, all of a come ahead of it
    have sw : Good (geO O) (a.toList ++ b.toList) (out.toList ++ (a.toList.take na).reverse ++ (b.toList.take 1).reverse) := by
      refine ⟨M.perm, pw_append (pw_append M.srt M.sa fun x hx y hy => M.lo x hx y (List.mem_append_left _ hy)) M.sb fun x hx y hy => ?_⟩
      rcases List.mem_append.mp hx with z | z
      · exact M.lo x z y (List.mem_append_right _ hy)
      · obtain ⟨i, _, hi, rfl⟩ := mem_takeR z
        obtain ⟨j, hj, _, rfl⟩ := mem_takeR hy
        have : j = 0 := by omega
        subst this
        exact Cmp.le_of_lt (h0 i hi)
    have g := good_rev sw
    simpa [List.append_assoc] using g
  have oneA : ∀ {out : Array Keyed} {na nb : Nat}, Mrg (geO O) (a.toList ++ b.toList) out.toList (a.toList.take (na + 1)).reverse (b.toList.take nb).reverse → na < a.size → (∀ j, j < nb → j < b.size → O.le (G b j) (G a na)) →
      Mrg (geO O) (a.toList ++ b.toList) (out.push (G a na)).toList (a.toList.take na).reverse (b.toList.take nb).reverse := by
    intro out na nb M hna hle
    rw [take_snoc hna] at M
    rw [Array.toList_push]
    refine M.moveA (t := [G a na]) fun x hx y hy => ?_
    have e : x = G a na := by simpa using hx
    subst e
    obtain ⟨j, h1, h2, rfl⟩ := mem_takeR hy
    exact hle j h1 h2
  have oneB : ∀ {out : Array Keyed} {na nb : Nat}, Mrg (geO O) (a.toList ++ b.toList) out.toList (a.toList.take na).reverse (b.toList.take (nb + 1)).reverse → nb < b.size → (∀ j, j < na → j < a.size → O.le (G a j) (G b nb)) →
      Mrg (geO O) (a.toList ++ b.toList) (out.push (G b nb)).toList (a.toList.take na).reverse (b.toList.take nb).reverse := by
    intro out na nb M hnb hle
    rw [take_snoc hnb] at M
    rw [Array.toList_push]
    refine M.moveB (t := [G b nb]) fun x hx y hy => ?_
    have e : x = G b nb := by simpa using hx
    subst e
    obtain ⟨j, h1, h2, rfl⟩ := mem_takeR hy
    exact hle j h1 h2
  have manyA : ∀ {out : Array Keyed} {na nb at_ : Nat}, Mrg (geO O) (a.toList ++ b.toList) out.toList (a.toList.take na).reverse (b.toList.take nb).reverse → at_ ≤ na → 1 ≤ nb → nb ≤ b.size → (∀ i, at_ ≤ i → i < na → O.r (G b (nb - 1)) (G a i) = true) →
      Mrg (geO O) (a.toList ++ b.toList) (out ++ (a.extract at_ na).reverse).toList (a.toList.take at_).reverse (b.toList.take nb).reverse := by
    intro out na nb at_ M hat h1 h2 hle
    rw [take_split a at_ na hat] at M
    rw [Array.toList_append]
    refine M.moveA fun x hx y hy => ?_
    obtain ⟨i, q1, q2, q3, rfl⟩ := mem_extR hx
    obtain ⟨j, q4, q5, rfl⟩ := mem_takeR hy
    exact Cmp.le_trans (rb.srt j (nb - 1) (by omega) (by omega) (by omega)) (Cmp.le_of_lt (hle i q1 q2))
  have manyB : ∀ {out : Array Keyed} {na nb at_ : Nat}, Mrg (geO O) (a.toList ++ b.toList) out.toList (a.toList.take na).reverse (b.toList.take nb).reverse → at_ ≤ nb → 1 ≤ na → na ≤ a.size → (∀ i, at_ ≤ i → i < nb → O.le (G a (na - 1)) (G b i)) →
      Mrg (geO O) (a.toList ++ b.toList) (out ++ (b.extract at_ nb).reverse).toList (a.toList.take na).reverse (b.toList.take at_).reverse := by
    intro out na nb at_ M hat h1 h2 hle
    rw [take_split b at_ nb hat] at M
    rw [Array.toList_append]
    refine M.moveB fun x hx y hy => ?_
    obtain ⟨i, q1, q2, q3, rfl⟩ := mem_extR hx
    obtain ⟨j, q4, q5, rfl⟩ := mem_takeR hy
    exact Cmp.le_trans (ra.srt j (na - 1) (by omega) (by omega) (by omega)) (hle i q1 q2)
  rw [mergeHi'_eq]
  refine wpS_bind (wpS_lift (wpAny_rule ⟨rfl, ?_⟩))
  dsimp only
  refine wpS_bind (wpS_elem (by omega) ?_)
  have M0 : Mrg (geO O) (a.toList ++ b.toList) (#[] : Array Keyed).toList (a.toList.take (a.size - 1 + 1)).reverse (b.toList.take b.size).reverse := by
    have e1 : a.toList.take (a.size - 1 + 1) = a.toList := List.take_of_length_le (by simp; omega)
    have e2 : b.toList.take b.size = b.toList := List.take_of_length_le (by simp)
    rw [e1, e2]
    refine ⟨?_, by simp, srt_rev ra, srt_rev rb, fun x hx => by simp at hx⟩
    simp only [List.nil_append]
    exact List.Perm.append (List.reverse_perm _) (List.reverse_perm _)
  have M1 : Mrg (geO O) (a.toList ++ b.toList) (#[G a (a.size - 1)] : Array Keyed).toList (a.toList.take (a.size - 1)).reverse (b.toList.take b.size).reverse :=
    oneA (out := #[]) M0 (by omega) fun j h1 h2 => Cmp.le_of_lt (hl j h2)
  by_cases c1 : (a.size - 1 == 0) = true
  · rw [if_pos c1]
    exact wpS_pure (h _ _ (.refl _) (endA M1 (by simpa using c1)))
  rw [if_neg c1]
  by_cases c2 : (b.size == 1) = true
  · rw [if_pos c2]
    exact wpS_pure (h _ _ (.refl _) (endB M1 (by simpa using c2)))
  rw [if_neg c2]
  have c1' : ¬ a.size - 1 = 0 := by simpa using c1
  have c2' : ¬ b.size = 1 := by simpa using c2
  refine wpS_bind (wpS_get ?_)
  refine wpS_bind (wpS_mono (wpS_forRange
    (I := fun x c st' => Like st st' ∧ ∃ out na nb mg, c = (none, na, nb, out, mg) ∧ MHi O a b out na nb ∧ x + 1 ≤ out.size)
    (Q := fun c st' => Like st st' ∧ ∃ res, c.1 = some res ∧ Good O.le (a.toList ++ b.toList) res.toList) ?step ?fin ⟨.refl _, _, _, _, _, rfl, ⟨M1, by omega, by omega, by omega, by omega⟩, by simp⟩) ?post)
  case post =>
    rintro ⟨c1, c2⟩ st' ⟨L, res, e, g⟩
    have e' : c1 = some res := e
    subst e'
    exact wpS_pure (h res st' L g)
  case fin =>
    rintro c st' ⟨L, out, na, nb, mg, rfl, M, hx⟩
    have := M.le
    exfalso; omega
  case step =>
    rintro x c st' _ hxt ⟨L, out, na, nb, mg, rfl, M, hx⟩
    dsimp only
    refine wpS_bind (wpS_mono (wpS_forRange
      (I := fun y c st' => Like st st' ∧ ∃ o2 na nb ac bc, c = (none, na, nb, o2, ac, bc) ∧ MHi O a b o2 na nb ∧ out.size + y ≤ o2.size)
      (Q := fun c st' => Like st st' ∧ ((∃ res, c.1 = some res ∧ Good O.le (a.toList ++ b.toList) res.toList) ∨ ∃ o2 na nb ac bc, c = (none, na, nb, o2, ac, bc) ∧ MHi O a b o2 na nb ∧ out.size + 1 ≤ o2.size)) ?s1 ?f1 ⟨L, out, na, nb, 0, 0, rfl, M, by omega⟩) ?p1)
    case f1 =>
      rintro c st2 ⟨L2, o2, i2, j2, ac, bc, rfl, M2, h2⟩
      exact ⟨L2, .inr ⟨o2, i2, j2, ac, bc, rfl, M2, by omega⟩⟩
    case s1 =>
      rintro y c st2 _ hy ⟨L2, o2, i2, j2, ac, bc, rfl, M2, h2⟩
      dsimp only
      have hk2 : kindOf st2 = κ := L2.kind.trans hk
      have b1 := M2.ha; have b2 := M2.hb; have b3 := M2.ha2; have b4 := M2.hb2
      refine wpS_bind (wpS_elem (by omega) (wpS_bind (wpS_elem (by omega) ?_)))
      refine wpS_bind (O.ask hk2 (rb.ok _ (by omega) (by omega)) (ra.ok _ (by omega) (by omega)) ?_)
      have ei : i2 - 1 + 1 = i2 := by omega
      have ej : j2 - 1 + 1 = j2 := by omega
      cases hw : O.r (G b (j2 - 1)) (G a (i2 - 1)) with
      | true =>
        dsimp only
        rw [if_pos rfl]
        refine wpS_bind (wpS_elem (by omega) ?_)
        have N := oneA (na := i2 - 1) (by rw [ei]; exact M2.m) (by omega) fun j q1 q2 => Cmp.le_trans (rb.srt j (j2 - 1) (by omega) (by omega) (by omega)) (Cmp.le_of_lt hw)
        by_cases c3 : (i2 - 1 == 0) = true
        · rw [if_pos c3]
          exact wpS_pure ⟨L2, .inl ⟨_, rfl, endA N (by simpa using c3)⟩⟩
        rw [if_neg c3]
        have c3' : ¬ i2 - 1 = 0 := by simpa using c3
        have N' : MHi O a b (o2.push (G a (i2 - 1))) (i2 - 1) j2 := ⟨N, by omega, by omega, by omega, by omega⟩
        split
        · exact wpS_pure ⟨L2, .inr ⟨_, _, _, _, _, rfl, N', by rw [Array.size_push]; omega⟩⟩
        · exact wpS_pure ⟨L2, _, _, _, _, _, rfl, N', by rw [Array.size_push]; omega⟩
      | false =>
        dsimp only
        rw [if_neg Bool.false_ne_true]
        refine wpS_bind (wpS_elem (by omega) ?_)
        have N := oneB (nb := j2 - 1) (by rw [ej]; exact M2.m) (by omega) fun j q1 q2 => Cmp.le_trans (ra.srt j (i2 - 1) (by omega) (by omega) (by omega)) (Cmp.le_of_not hw)
        by_cases c3 : (j2 - 1 == 1) = true
        · rw [if_pos c3]
          exact wpS_pure ⟨L2, .inl ⟨_, rfl, endB N (by simpa using c3)⟩⟩
        rw [if_neg c3]
        have c3' : ¬ j2 - 1 = 1 := by simpa using c3
        have N' : MHi O a b (o2.push (G b (j2 - 1))) i2 (j2 - 1) := ⟨N, by omega, by omega, by omega, by omega⟩
        split
        · exact wpS_pure ⟨L2, .inr ⟨_, _, _, _, _, rfl, N', by rw [Array.size_push]; omega⟩⟩
        · exact wpS_pure ⟨L2, _, _, _, _, _, rfl, N', by rw [Array.size_push]; omega⟩
    case p1 =>
      rintro ⟨c1, c2⟩ st2 ⟨L2, hc⟩
      rcases hc with ⟨res, e, g⟩ | ⟨o2, i2, j2, ac, bc, e, M2, h2⟩
      · have e' : c1 = some res := e
        subst e'
        exact wpS_pure ⟨L2, res, rfl, g⟩
      cases e
      dsimp only
      refine wpS_bind (wpS_lift (wpAny_rule ⟨rfl, ?_⟩))
      refine wpS_bind (wpS_mono (wpS_forRange
        (I := fun y c st' => Like st st' ∧ ∃ o3 na nb mg ac bc, c = (none, na, nb, o3, mg, ac, bc) ∧ MHi O a b o3 na nb ∧ out.size + 1 ≤ o3.size)
        (Q := fun c st' => Like st st' ∧ ((∃ res, c.1 = some res ∧ Good O.le (a.toList ++ b.toList) res.toList) ∨ ∃ o3 na nb mg ac bc, c = (none, na, nb, o3, mg, ac, bc) ∧ MHi O a b o3 na nb ∧ out.size + 1 ≤ o3.size)) ?s2 ?f2 ⟨L2, o2, i2, j2, _, ac, bc, rfl, M2, h2⟩) ?p2)
      case f2 =>
        rintro c st3 ⟨L3, o3, i3, j3, mg3, ac3, bc3, rfl, M3, h3⟩
        exact ⟨L3, .inr ⟨o3, i3, j3, mg3, ac3, bc3, rfl, M3, h3⟩⟩
      case p2 =>
        rintro ⟨c1, c2⟩ st3 ⟨L3, hc⟩
        rcases hc with ⟨res, e, g⟩ | ⟨o3, i3, j3, mg3, ac3, bc3, e, M3, h3⟩
        · have e' : c1 = some res := e
          subst e'
          exact wpS_pure ⟨L3, res, rfl, g⟩
        cases e
        dsimp only
        exact wpS_bind (wpS_setMin L3 fun st4 L4 => wpS_pure ⟨L4, _, _, _, _, rfl, M3, by omega⟩)
      case s2 =>
        rintro y c st3 _ hy ⟨L3, o3, i3, j3, mg3, ac3, bc3, rfl, M3, h3⟩
        dsimp only
        have b1 := M3.ha; have b2 := M3.hb; have b3 := M3.ha2; have b4 := M3.hb2
        have ej : j3 - 1 + 1 = j3 := by omega
        by_cases hmg : mg3 > 1
        · rw [if_pos hmg]
          refine wpS_bind (wpS_setMin L3 fun st4 L4 => ?_)
          refine wpS_bind (wpS_elem (by omega) ?_)
          refine wpS_bind (wpS_gallopR (O := O) (base := 0) (L4.kind.trans hk) (rb.ok _ (by omega) (by omega)) (ra.sub (by omega) (by omega)) (by omega) fun k k1 k2 k3 => ?_)
          dsimp only
          by_cases hk0 : i3 - k > 0
          · rw [if_pos hk0]
            have M4 := manyA (at_ := k) M3.m (by omega) (by omega) (by omega) fun i q1 q2 => k3 i (by omega) (by omega)
            by_cases c4 : (k == 0) = true
            · rw [if_pos c4]
              exact wpS_pure ⟨L4, .inl ⟨_, rfl, endA M4 (by simpa using c4)⟩⟩
            rw [if_neg c4]
            have c4' : ¬ k = 0 := by simpa using c4
            have ho4 : out.size + 1 ≤ (o3 ++ (a.extract k i3).reverse).size := by rw [Array.size_append]; omega
            have hle4 : ∀ j, j < k → j < a.size → O.le (G a j) (G b (j3 - 1)) := fun j q1 q2 => k2 j (by omega) (by omega)
            refine wpS_bind (wpS_elem (by omega) ?_)
            have N := oneB (nb := j3 - 1) (by rw [ej]; exact M4) (by omega) fun j q1 q2 => hle4 j q1 q2
            by_cases c3 : (j3 - 1 == 1) = true
            · rw [if_pos c3]
              exact wpS_pure ⟨L4, .inl ⟨_, rfl, endB N (by simpa using c3)⟩⟩
            rw [if_neg c3]
            have c3' : ¬ j3 - 1 = 1 := by simpa using c3
            have ei : k - 1 + 1 = k := by omega
            refine wpS_bind (wpS_elem (by omega) ?_)
            refine wpS_bind (wpS_gallopL (O := O) (base := 0) (L4.kind.trans hk) (ra.ok _ (by omega) (by omega)) (rb.sub (by omega) (by omega)) (by omega) fun k2 k21 k22 k23 => ?_)
            have kpos : 1 ≤ k2 := by
              rcases Nat.lt_or_ge 0 k2 with z | z
              · omega
              · have q := k23 0 (by omega) (by omega)
                have q2 := h0 (k - 1) (by omega)
                unfold Cmp.le at q
                rw [q] at q2; cases q2
            dsimp only
            by_cases hk0 : j3 - 1 - k2 > 0
            · rw [if_pos hk0]
              have N2 := manyB (at_ := k2) N (by omega) (by omega) (by omega) fun i q1 q2 => k23 i (by omega) (by omega)
              by_cases c4 : (k2 == 1) = true
              · rw [if_pos c4]
                exact wpS_pure ⟨L4, .inl ⟨_, rfl, endB N2 (by simpa using c4)⟩⟩
              rw [if_neg c4]
              have c4' : ¬ k2 = 1 := by simpa using c4
              rw [if_neg (by simp; omega)]
              refine wpS_bind (wpS_elem (by omega) ?_)
              have N5 := oneA (na := k - 1) (by rw [ei]; exact N2) (by omega) (fun j q1 q2 => Cmp.le_of_lt (k22 j (by omega) (by omega)))
              by_cases c5 : (k - 1 == 0) = true
              · rw [if_pos c5]
                exact wpS_pure ⟨L4, .inl ⟨_, rfl, endA N5 (by simpa using c5)⟩⟩
              rw [if_neg c5]
              have c5' : ¬ k - 1 = 0 := by simpa using c5
              have N5' : MHi O a b _ (k - 1) _ := ⟨N5, by omega, by omega, by omega, by omega⟩
              by_cases c6 : (decide (i3 - k < 7) && decide (j3 - 1 - k2 < 7)) = true
              · rw [if_pos c6]
                exact wpS_pure ⟨L4, .inr ⟨_, _, _, _, _, _, rfl, N5', by rw [Array.size_push]; rw [Array.size_append, Array.size_push]; omega⟩⟩
              · rw [if_neg c6]
                exact wpS_pure ⟨L4, _, _, _, _, _, _, rfl, N5', by rw [Array.size_push]; rw [Array.size_append, Array.size_push]; omega⟩
            · rw [if_neg hk0]
              refine wpS_bind (wpS_elem (by omega) ?_)
              have N5 := oneA (na := k - 1) (by rw [ei]; exact N) (by omega) (fun j q1 q2 => Cmp.le_of_lt (k22 j (by omega) (by omega)))
              by_cases c5 : (k - 1 == 0) = true
              · rw [if_pos c5]
                exact wpS_pure ⟨L4, .inl ⟨_, rfl, endA N5 (by simpa using c5)⟩⟩
              rw [if_neg c5]
              have c5' : ¬ k - 1 = 0 := by simpa using c5
              have N5' : MHi O a b _ (k - 1) _ := ⟨N5, by omega, by omega, by omega, by omega⟩
              by_cases c6 : (decide (i3 - k < 7) && decide (j3 - 1 - k2 < 7)) = true
              · rw [if_pos c6]
                exact wpS_pure ⟨L4, .inr ⟨_, _, _, _, _, _, rfl, N5', by rw [Array.size_push]; rw [Array.size_push]; omega⟩⟩
              · rw [if_neg c6]
                exact wpS_pure ⟨L4, _, _, _, _, _, _, rfl, N5', by rw [Array.size_push]; rw [Array.size_push]; omega⟩
          · rw [if_neg hk0]
            have ek : k = i3 := by omega
            have M4 := M3.m
            have ho4 := h3
            have hle4 : ∀ j, j < i3 → j < a.size → O.le (G a j) (G b (j3 - 1)) := fun j q1 q2 => k2 j (by omega) (by omega)
            refine wpS_bind (wpS_elem (by omega) ?_)
            have N := oneB (nb := j3 - 1) (by rw [ej]; exact M4) (by omega) fun j q1 q2 => hle4 j q1 q2
            by_cases c3 : (j3 - 1 == 1) = true
            · rw [if_pos c3]
              exact wpS_pure ⟨L4, .inl ⟨_, rfl, endB N (by simpa using c3)⟩⟩
            rw [if_neg c3]
            have c3' : ¬ j3 - 1 = 1 := by simpa using c3
            have ei : i3 - 1 + 1 = i3 := by omega
            refine wpS_bind (wpS_elem (by omega) ?_)
            refine wpS_bind (wpS_gallopL (O := O) (base := 0) (L4.kind.trans hk) (ra.ok _ (by omega) (by omega)) (rb.sub (by omega) (by omega)) (by omega) fun k2 k21 k22 k23 => ?_)
            have kpos : 1 ≤ k2 := by
              rcases Nat.lt_or_ge 0 k2 with z | z
              · omega
              · have q := k23 0 (by omega) (by omega)
                have q2 := h0 (i3 - 1) (by omega)
                unfold Cmp.le at q
                rw [q] at q2; cases q2
            dsimp only
            by_cases hk0 : j3 - 1 - k2 > 0
            · rw [if_pos hk0]
              have N2 := manyB (at_ := k2) N (by omega) (by omega) (by omega) fun i q1 q2 => k23 i (by omega) (by omega)
              by_cases c4 : (k2 == 1) = true
              · rw [if_pos c4]
                exact wpS_pure ⟨L4, .inl ⟨_, rfl, endB N2 (by simpa using c4)⟩⟩
              rw [if_neg c4]
              have c4' : ¬ k2 = 1 := by simpa using c4
              rw [if_neg (by simp; omega)]
              refine wpS_bind (wpS_elem (by omega) ?_)
              have N5 := oneA (na := i3 - 1) (by rw [ei]; exact N2) (by omega) (fun j q1 q2 => Cmp.le_of_lt (k22 j (by omega) (by omega)))
              by_cases c5 : (i3 - 1 == 0) = true
              · rw [if_pos c5]
                exact wpS_pure ⟨L4, .inl ⟨_, rfl, endA N5 (by simpa using c5)⟩⟩
              rw [if_neg c5]
              have c5' : ¬ i3 - 1 = 0 := by simpa using c5
              have N5' : MHi O a b _ (i3 - 1) _ := ⟨N5, by omega, by omega, by omega, by omega⟩
              by_cases c6 : (decide (i3 - k < 7) && decide (j3 - 1 - k2 < 7)) = true
              · rw [if_pos c6]
                exact wpS_pure ⟨L4, .inr ⟨_, _, _, _, _, _, rfl, N5', by rw [Array.size_push]; rw [Array.size_append, Array.size_push]; omega⟩⟩
              · rw [if_neg c6]
                exact wpS_pure ⟨L4, _, _, _, _, _, _, rfl, N5', by rw [Array.size_push]; rw [Array.size_append, Array.size_push]; omega⟩
            · rw [if_neg hk0]
              refine wpS_bind (wpS_elem (by omega) ?_)
              have N5 := oneA (na := i3 - 1) (by rw [ei]; exact N) (by omega) (fun j q1 q2 => Cmp.le_of_lt (k22 j (by omega) (by omega)))
              by_cases c5 : (i3 - 1 == 0) = true
              · rw [if_pos c5]
                exact wpS_pure ⟨L4, .inl ⟨_, rfl, endA N5 (by simpa using c5)⟩⟩
              rw [if_neg c5]
              have c5' : ¬ i3 - 1 = 0 := by simpa using c5
              have N5' : MHi O a b _ (i3 - 1) _ := ⟨N5, by omega, by omega, by omega, by omega⟩
              by_cases c6 : (decide (i3 - k < 7) && decide (j3 - 1 - k2 < 7)) = true
              · rw [if_pos c6]
                exact wpS_pure ⟨L4, .inr ⟨_, _, _, _, _, _, rfl, N5', by rw [Array.size_push]; rw [Array.size_push]; omega⟩⟩
              · rw [if_neg c6]
                exact wpS_pure ⟨L4, _, _, _, _, _, _, rfl, N5', by rw [Array.size_push]; rw [Array.size_push]; omega⟩
        · rw [if_neg hmg]
          refine wpS_bind (wpS_setMin L3 fun st4 L4 => ?_)
          refine wpS_bind (wpS_elem (by omega) ?_)
          refine wpS_bind (wpS_gallopR (O := O) (base := 0) (L4.kind.trans hk) (rb.ok _ (by omega) (by omega)) (ra.sub (by omega) (by omega)) (by omega) fun k k1 k2 k3 => ?_)
          dsimp only
          by_cases hk0 : i3 - k > 0
          · rw [if_pos hk0]
            have M4 := manyA (at_ := k) M3.m (by omega) (by omega) (by omega) fun i q1 q2 => k3 i (by omega) (by omega)
            by_cases c4 : (k == 0) = true
            · rw [if_pos c4]
              exact wpS_pure ⟨L4, .inl ⟨_, rfl, endA M4 (by simpa using c4)⟩⟩
            rw [if_neg c4]
            have c4' : ¬ k = 0 := by simpa using c4
            have ho4 : out.size + 1 ≤ (o3 ++ (a.extract k i3).reverse).size := by rw [Array.size_append]; omega
            have hle4 : ∀ j, j < k → j < a.size → O.le (G a j) (G b (j3 - 1)) := fun j q1 q2 => k2 j (by omega) (by omega)
            refine wpS_bind (wpS_elem (by omega) ?_)
            have N := oneB (nb := j3 - 1) (by rw [ej]; exact M4) (by omega) fun j q1 q2 => hle4 j q1 q2
            by_cases c3 : (j3 - 1 == 1) = true
            · rw [if_pos c3]
              exact wpS_pure ⟨L4, .inl ⟨_, rfl, endB N (by simpa using c3)⟩⟩
            rw [if_neg c3]
            have c3' : ¬ j3 - 1 = 1 := by simpa using c3
            have ei : k - 1 + 1 = k := by omega
            refine wpS_bind (wpS_elem (by omega) ?_)
            refine wpS_bind (wpS_gallopL (O := O) (base := 0) (L4.kind.trans hk) (ra.ok _ (by omega) (by omega)) (rb.sub (by omega) (by omega)) (by omega) fun k2 k21 k22 k23 => ?_)
            have kpos : 1 ≤ k2 := by
              rcases Nat.lt_or_ge 0 k2 with z | z
              · omega
              · have q := k23 0 (by omega) (by omega)
                have q2 := h0 (k - 1) (by omega)
                unfold Cmp.le at q
                rw [q] at q2; cases q2
            dsimp only
            by_cases hk0 : j3 - 1 - k2 > 0
            · rw [if_pos hk0]
              have N2 := manyB (at_ := k2) N (by omega) (by omega) (by omega) fun i q1 q2 => k23 i (by omega) (by omega)
              by_cases c4 : (k2 == 1) = true
              · rw [if_pos c4]
                exact wpS_pure ⟨L4, .inl ⟨_, rfl, endB N2 (by simpa using c4)⟩⟩
              rw [if_neg c4]
              have c4' : ¬ k2 = 1 := by simpa using c4
              rw [if_neg (by simp; omega)]
              refine wpS_bind (wpS_elem (by omega) ?_)
              have N5 := oneA (na := k - 1) (by rw [ei]; exact N2) (by omega) (fun j q1 q2 => Cmp.le_of_lt (k22 j (by omega) (by omega)))
              by_cases c5 : (k - 1 == 0) = true
              · rw [if_pos c5]
                exact wpS_pure ⟨L4, .inl ⟨_, rfl, endA N5 (by simpa using c5)⟩⟩
              rw [if_neg c5]
              have c5' : ¬ k - 1 = 0 := by simpa using c5
              have N5' : MHi O a b _ (k - 1) _ := ⟨N5, by omega, by omega, by omega, by omega⟩
              by_cases c6 : (decide (i3 - k < 7) && decide (j3 - 1 - k2 < 7)) = true
              · rw [if_pos c6]
                exact wpS_pure ⟨L4, .inr ⟨_, _, _, _, _, _, rfl, N5', by rw [Array.size_push]; rw [Array.size_append, Array.size_push]; omega⟩⟩
              · rw [if_neg c6]
                exact wpS_pure ⟨L4, _, _, _, _, _, _, rfl, N5', by rw [Array.size_push]; rw [Array.size_append, Array.size_push]; omega⟩
            · rw [if_neg hk0]
              refine wpS_bind (wpS_elem (by omega) ?_)
              have N5 := oneA (na := k - 1) (by rw [ei]; exact N) (by omega) (fun j q1 q2 => Cmp.le_of_lt (k22 j (by omega) (by omega)))
              by_cases c5 : (k - 1 == 0) = true
              · rw [if_pos c5]
                exact wpS_pure ⟨L4, .inl ⟨_, rfl, endA N5 (by simpa using c5)⟩⟩
              rw [if_neg c5]
              have c5' : ¬ k - 1 = 0 := by simpa using c5
              have N5' : MHi O a b _ (k - 1) _ := ⟨N5, by omega, by omega, by omega, by omega⟩
              by_cases c6 : (decide (i3 - k < 7) && decide (j3 - 1 - k2 < 7)) = true
              · rw [if_pos c6]
                exact wpS_pure ⟨L4, .inr ⟨_, _, _, _, _, _, rfl, N5', by rw [Array.size_push]; rw [Array.size_push]; omega⟩⟩
              · rw [if_neg c6]
                exact wpS_pure ⟨L4, _, _, _, _, _, _, rfl, N5', by rw [Array.size_push]; rw [Array.size_push]; omega⟩
          · rw [if_neg hk0]
            have ek : k = i3 := by omega
            have M4 := M3.m
            have ho4 := h3
            have hle4 : ∀ j, j < i3 → j < a.size → O.le (G a j) (G b (j3 - 1)) := fun j q1 q2 => k2 j (by omega) (by omega)
            refine wpS_bind (wpS_elem (by omega) ?_)
            have N := oneB (nb := j3 - 1) (by rw [ej]; exact M4) (by omega) fun j q1 q2 => hle4 j q1 q2
            by_cases c3 : (j3 - 1 == 1) = true
            · rw [if_pos c3]
              exact wpS_pure ⟨L4, .inl ⟨_, rfl, endB N (by simpa using c3)⟩⟩
            rw [if_neg c3]
            have c3' : ¬ j3 - 1 = 1 := by simpa using c3
            have ei : i3 - 1 + 1 = i3 := by omega
            refine wpS_bind (wpS_elem (by omega) ?_)
            refine wpS_bind (wpS_gallopL (O := O) (base := 0) (L4.kind.trans hk) (ra.ok _ (by omega) (by omega)) (rb.sub (by omega) (by omega)) (by omega) fun k2 k21 k22 k23 => ?_)
            have kpos : 1 ≤ k2 := by
              rcases Nat.lt_or_ge 0 k2 with z | z
              · omega
              · have q := k23 0 (by omega) (by omega)
                have q2 := h0 (i3 - 1) (by omega)
                unfold Cmp.le at q
                rw [q] at q2; cases q2
            dsimp only
            by_cases hk0 : j3 - 1 - k2 > 0
            · rw [if_pos hk0]
              have N2 := manyB (at_ := k2) N (by omega) (by omega) (by omega) fun i q1 q2 => k23 i (by omega) (by omega)
              by_cases c4 : (k2 == 1) = true
              · rw [if_pos c4]
                exact wpS_pure ⟨L4, .inl ⟨_, rfl, endB N2 (by simpa using c4)⟩⟩
              rw [if_neg c4]
              have c4' : ¬ k2 = 1 := by simpa using c4
              rw [if_neg (by simp; omega)]
              refine wpS_bind (wpS_elem (by omega) ?_)
              have N5 := oneA (na := i3 - 1) (by rw [ei]; exact N2) (by omega) (fun j q1 q2 => Cmp.le_of_lt (k22 j (by omega) (by omega)))
              by_cases c5 : (i3 - 1 == 0) = true
              · rw [if_pos c5]
                exact wpS_pure ⟨L4, .inl ⟨_, rfl, endA N5 (by simpa using c5)⟩⟩
              rw [if_neg c5]
              have c5' : ¬ i3 - 1 = 0 := by simpa using c5
              have N5' : MHi O a b _ (i3 - 1) _ := ⟨N5, by omega, by omega, by omega, by omega⟩
              by_cases c6 : (decide (i3 - k < 7) && decide (j3 - 1 - k2 < 7)) = true
              · rw [if_pos c6]
                exact wpS_pure ⟨L4, .inr ⟨_, _, _, _, _, _, rfl, N5', by rw [Array.size_push]; rw [Array.size_append, Array.size_push]; omega⟩⟩
              · rw [if_neg c6]
                exact wpS_pure ⟨L4, _, _, _, _, _, _, rfl, N5', by rw [Array.size_push]; rw [Array.size_append, Array.size_push]; omega⟩
            · rw [if_neg hk0]
              refine wpS_bind (wpS_elem (by omega) ?_)
              have N5 := oneA (na := i3 - 1) (by rw [ei]; exact N) (by omega) (fun j q1 q2 => Cmp.le_of_lt (k22 j (by omega) (by omega)))
              by_cases c5 : (i3 - 1 == 0) = true
              · rw [if_pos c5]
                exact wpS_pure ⟨L4, .inl ⟨_, rfl, endA N5 (by simpa using c5)⟩⟩
              rw [if_neg c5]
              have c5' : ¬ i3 - 1 = 0 := by simpa using c5
              have N5' : MHi O a b _ (i3 - 1) _ := ⟨N5, by omega, by omega, by omega, by omega⟩
              by_cases c6 : (decide (i3 - k < 7) && decide (j3 - 1 - k2 < 7)) = true
              · rw [if_pos c6]
                exact wpS_pure ⟨L4, .inr ⟨_, _, _, _, _, _, rfl, N5', by rw [Array.size_push]; rw [Array.size_push]; omega⟩⟩
              · rw [if_neg c6]
                exact wpS_pure ⟨L4, _, _, _, _, _, _, rfl, N5', by rw [Array.size_push]; rw [Array.size_push]; omega⟩
end
end TS

set_option maxRecDepth 100000
set_option maxHeartbeats 4000000
set_option autoImplicit false
namespace TS
open PySem PyProof.Rows
section
variable {κ : SortKind} {prog : Program} {w : World} {A : Around} {E : Value → Shared → Prop} {s : Shared} {O : Cmp κ prog w A s}

theorem G_mem {xs : Array Keyed} {i : Nat} (h : i < xs.size) : G xs i ∈ xs.toList := by
  have e : xs.toList[i]? = some (G xs i) := by rw [Array.getElem?_toList]; exact G_get h
  exact List.mem_of_getElem? e
theorem perm_ok {xs ys : Array Keyed} {P : Keyed → Prop} (hp : xs.Perm ys) (h : ∀ p ∈ ys.toList, P p) : ∀ p ∈ xs.toList, P p := fun p m => h p ((Array.perm_iff_toList_perm.mp hp).mem_iff.mp m)

/-- the array is changed between lo and hi alone -/
structure Bs (O : Cmp κ prog w A s) (st0 : SortSt) (lo hi : Nat) (st : SortSt) : Prop where
  kind : kindOf st = κ
  ok : ∀ p ∈ (arrOf st).toList, O.ok p
  pend : pendingOf st = pendingOf st0
  failed : failedOf st = none
  perm : (arrOf st).Perm (arrOf st0)
  oth : ∀ i, i < lo ∨ hi ≤ i → (arrOf st)[i]? = (arrOf st0)[i]?
variable {st0 st : SortSt} {lo hi : Nat}
theorem Bs.size (B : Bs O st0 lo hi st) : (arrOf st).size = (arrOf st0).size := B.perm.size_eq
theorem Bs.set (B : Bs O st0 lo hi st) {xs : Array Keyed} (hp : xs.Perm (arrOf st)) (ho : ∀ i, i < lo ∨ hi ≤ i → xs[i]? = (arrOf st)[i]?) : Bs O st0 lo hi (setArr st xs) :=
  ⟨B.kind, perm_ok hp B.ok, B.pend, B.failed, hp.trans B.perm, fun i h => (ho i h).trans (B.oth i h)⟩
theorem wpS_ltAtO {i j : Nat} {Q : Option Bool → SortSt → Prop} (B : Bs O st0 lo hi st) (hi' : i < (arrOf st).size) (hj : j < (arrOf st).size) (h : Q (some (O.r (G (arrOf st) i) (G (arrOf st) j))) st) : wpS (model prog w) A E s (ltAt' i j) Q st := by
  rw [ltAt'_eq]
  refine wpS_bind (wpS_get ?_)
  refine wpS_bind (wpS_elem hi' (wpS_bind (wpS_elem hj ?_)))
  exact O.ask B.kind (B.ok _ (G_mem hi')) (B.ok _ (G_mem hj)) h

theorem G_bubble {xs : Array Keyed} {src d : Nat} (hs : src < xs.size) (hd : d ≤ src) (k : Nat) :
    G (bubble xs src d) k = if k = src - d then G xs src else if src - d < k ∧ k ≤ src then G xs (k - 1) else G xs k := by
  have e := getElem?_bubble hs d hd k
  by_cases h1 : k = src - d
  · rw [if_pos h1] at e ⊢; exact G_eq e
  · rw [if_neg h1] at e ⊢
    by_cases h2 : src - d < k ∧ k ≤ src
    · rw [if_pos h2] at e ⊢; exact G_eq e
    · rw [if_neg h2] at e ⊢; exact G_eq e
theorem G_mirror {xs : Array Keyed} {i j : Nat} (hj : j ≤ xs.size) (k : Nat) : G (mirror xs i j ((j - i) / 2)) k = if i ≤ k ∧ k < j then G xs (i + j - 1 - k) else G xs k := by
  have e := getElem?_mirror_all (i := i) hj k
  by_cases h1 : i ≤ k ∧ k < j
  · rw [if_pos h1] at e ⊢; exact G_eq e
  · rw [if_neg h1] at e ⊢; exact G_eq e
theorem Bs.mirror (B : Bs O st0 lo hi st) {i j : Nat} (h1 : lo ≤ i) (h2 : j ≤ hi) (h3 : hi ≤ (arrOf st).size) : Bs O st0 lo hi (setArr st (mirror (arrOf st) i j ((j - i) / 2))) :=
  B.set (mirror_perm _ _ _ _) fun k hk => by rw [getElem?_mirror_all (by omega), if_neg (by omega)]

/-- rising from lo, n of them -/
def Up (O : Cmp κ prog w A s) (xs : Array Keyed) (lo n : Nat) : Prop := ∀ i j, i ≤ j → j < n → O.le (G xs (lo + i)) (G xs (lo + j))
def Down (O : Cmp κ prog w A s) (xs : Array Keyed) (lo n : Nat) : Prop := ∀ i j, i ≤ j → j < n → O.le (G xs (lo + j)) (G xs (lo + i))
/-- alike for the order -/
def Eqv (O : Cmp κ prog w A s) (a b : Keyed) : Prop := O.le a b ∧ O.le b a

theorem wpS_binarySortO {n ok : Nat} {Q : Bool → SortSt → Prop} (hn : lo + n ≤ (arrOf st0).size) (hok : ok ≤ n) (B : Bs O st0 lo (lo + n) st) (hs : Up O (arrOf st) lo ok)
    (h : ∀ st', Bs O st0 lo (lo + n) st' → Up O (arrOf st') lo n → Q true st') : wpS (model prog w) A E s (binarySort' lo n ok) Q st := by
  rw [binarySort'_eq]
  refine wpS_bind (wpS_mono (wpS_forRange (I := fun k c st' => c = (none, ()) ∧ Bs O st0 lo (lo + n) st' ∧ Up O (arrOf st') lo (min k n))
    (Q := fun c st' => c = (none, ()) ∧ Bs O st0 lo (lo + n) st' ∧ Up O (arrOf st') lo n) ?step ?fin ?init) ?post)
  case post =>
    rintro c st' ⟨rfl, B', hs'⟩
    exact wpS_pure (h st' B' hs')
  case init =>
    refine ⟨rfl, B, fun i j hij hj => ?_⟩
    by_cases h1 : ok = 0
    · have : i = j := by omega
      subst this; exact O.le_refl _
    · exact hs i j hij (by omega)
  case fin =>
    rintro c st' ⟨hc, B', hs'⟩
    refine ⟨hc, B', ?_⟩
    rwa [show min (max (max ok 1) n) n = n by omega] at hs'
  case step =>
    rintro k c st' hak hkn ⟨rfl, B', hs'⟩
    rw [show min k n = k by omega] at hs'
    have hsz := B'.size
    refine wpS_bind (wpS_mono (wpS_forRange (I := fun x c st'' => st'' = st' ∧ ∃ l r, c = (none, l, r) ∧ l ≤ r ∧ r ≤ k ∧ r - l ≤ k - x ∧
        (∀ i, i < l → O.le (G (arrOf st') (lo + i)) (G (arrOf st') (lo + k))) ∧ (∀ i, r ≤ i → i < k → O.r (G (arrOf st') (lo + k)) (G (arrOf st') (lo + i)) = true))
      (Q := fun c st'' => st'' = st' ∧ ∃ l r, c = (none, l, r) ∧ l ≤ k ∧
        (∀ i, i < l → O.le (G (arrOf st') (lo + i)) (G (arrOf st') (lo + k))) ∧ (∀ i, l ≤ i → i < k → O.r (G (arrOf st') (lo + k)) (G (arrOf st') (lo + i)) = true)) ?istep ?ifin ?iinit) ?ipost)
    case iinit => exact ⟨rfl, 0, k, rfl, by omega, by omega, by omega, fun i hi => by omega, fun i h1 h2 => by omega⟩
    case ifin =>
      rintro c st'' ⟨rfl, l, r, rfl, hlr, hrk, hm, hlo, hhi⟩
      have : l = r := by omega
      subst this
      exact ⟨rfl, l, l, rfl, hrk, hlo, hhi⟩
    case istep =>
      rintro x c st'' _ hxk ⟨rfl, l, r, rfl, hlr, hrk, hm, hlo, hhi⟩
      dsimp only
      by_cases hge : l ≥ r
      · rw [if_pos hge]
        have : l = r := by omega
        subst this
        exact wpS_pure ⟨rfl, l, l, rfl, hrk, hlo, hhi⟩
      · rw [if_neg hge]
        refine wpS_bind (wpS_ltAtO B' (by omega) (by omega) ?_)
        cases hless : O.r (G (arrOf st'') (lo + k)) (G (arrOf st'') (lo + (l + r) / 2))
        case true =>
          simp only [if_true]
          refine wpS_pure ⟨rfl, l, (l + r) / 2, rfl, by omega, by omega, by omega, hlo, fun i h1 h2 => ?_⟩
          exact Cmp.lt_of_lt_of_le hless (hs' _ _ h1 h2)
        case false =>
          simp only [Bool.false_eq_true, if_false]
          refine wpS_pure ⟨rfl, (l + r) / 2 + 1, r, rfl, by omega, by omega, by omega, fun i h1 => ?_, hhi⟩
          exact Cmp.le_trans (hs' i ((l + r) / 2) (by omega) (by omega)) (Cmp.le_of_not hless)
    case ipost =>
      rintro c st'' ⟨rfl, l, r, rfl, hlk, hlo, hhi⟩
      show wpS _ _ _ _ (do moveDown' (lo + k) (lo + l); pure (ForInStep.yield (none, ()))) _ _
      rw [moveDown'_eq]
      have hks : lo + k < (arrOf st'').size := by omega
      refine wpS_bind (wpS_modify (wpS_pure ⟨rfl, B'.set (bubble_perm _ _ _) (fun i hi => ?_), ?_⟩))
      · rw [getElem?_bubble hks _ (by omega), if_neg (by omega), if_neg (by omega)]
      rw [show min (k + 1) n = k + 1 by omega]
      intro i j hij hj
      show O.le (G (bubble (arrOf st'') (lo + k) (lo + k - (lo + l))) (lo + i)) (G (bubble (arrOf st'') (lo + k) (lo + k - (lo + l))) (lo + j))
      rw [G_bubble hks (by omega), G_bubble hks (by omega), show lo + k - (lo + k - (lo + l)) = lo + l by omega]
      have key : ∀ m : Nat, lo + m - 1 = lo + (m - 1) ∨ m = 0 := fun m => by omega
      repeat' split
      all_goals first
        | (exfalso; omega)
        | exact O.le_refl _
        | (rw [show lo + j - 1 = lo + (j - 1) by omega]; exact Cmp.le_of_lt (hhi _ (by omega) (by omega)))
        | exact Cmp.le_of_lt (hhi _ (by omega) (by omega))
        | exact hlo _ (by omega)
        | exact hs' _ _ (by omega) (by omega)
        | (rw [show lo + j - 1 = lo + (j - 1) by omega]; exact hs' _ _ (by omega) (by omega))
        | (rw [show lo + i - 1 = lo + (i - 1) by omega, show lo + j - 1 = lo + (j - 1) by omega]; exact hs' _ _ (by omega) (by omega))
        | (rw [show lo + i - 1 = lo + (i - 1) by omega]; exact hs' _ _ (by omega) (by omega))

/-! ### a run found -/
def ascL (lo a nrem : Nat) : StateT SortSt Sem AscSt :=
  forIn [a:nrem] ((none, a) : AscSt) fun _ __s => do
    let __x ← ltAt' (lo + __s.snd) (lo + __s.snd - 1)
    match __x with
    | some smaller => if smaller = true then pure (ForInStep.done (none, __s.snd)) else pure (ForInStep.yield (none, __s.snd + 1))
    | _ => pure (ForInStep.done (some none, __s.snd))
def tailL (lo n nrem : Nat) : StateT SortSt Sem (Option Nat) := do
  reverseSlice' lo (lo + n)
  let __s ← ascL lo n nrem
  match __s.fst with
  | some r => pure r
  | none => pure (some __s.snd)
def descL (lo n nrem : Nat) : StateT SortSt Sem DescSt :=
  forIn [n:nrem] ((none, n, 0) : DescSt) fun _ __s => do
    let __x ← ltAt' (lo + __s.snd.fst) (lo + __s.snd.fst - 1)
    match __x with
    | some smaller =>
      if smaller = true then
        if __s.snd.snd > 0 then do
          reverseSlice' (lo + __s.snd.fst - (__s.snd.snd + 1)) (lo + __s.snd.fst)
          pure (ForInStep.yield (none, __s.snd.fst + 1, 0))
        else pure (ForInStep.yield (none, __s.snd.fst + 1, 0))
      else do
        let __x ← ltAt' (lo + __s.snd.fst - 1) (lo + __s.snd.fst)
        match __x with
        | some larger =>
          if larger = true then pure (ForInStep.done (none, __s.snd.fst, __s.snd.snd))
          else pure (ForInStep.yield (none, __s.snd.fst + 1, __s.snd.snd + 1))
        | _ => pure (ForInStep.done (some none, __s.snd.fst, __s.snd.snd))
    | _ => pure (ForInStep.done (some none, __s.snd.fst, __s.snd.snd))
def descP (lo n nrem : Nat) : StateT SortSt Sem (Option Nat) := do
  liftM (rule "list.sort.descending-run")
  let __s ← descL lo (n + 1) nrem
  match __s.fst with
  | some r => pure r
  | none =>
    if __s.snd.snd > 0 then do
      reverseSlice' (lo + __s.snd.fst - (__s.snd.snd + 1)) (lo + __s.snd.fst)
      tailL lo __s.snd.fst nrem
    else tailL lo __s.snd.fst nrem

theorem countRunL_eq (lo nrem : Nat) : countRun' lo nrem = (do
    let __s ← ascL lo 1 nrem
    match __s.fst with
    | some r => pure r
    | none =>
      if (__s.snd == nrem) = true then pure (some __s.snd)
      else if __s.snd > 1 then do
        let __x ← ltAt' lo (lo + __s.snd - 1)
        match __x with
        | some rose => if rose = true then pure (some __s.snd) else do
            reverseSlice' lo (lo + __s.snd)
            descP lo __s.snd nrem
        | _ => pure none
      else descP lo __s.snd nrem) := by
  rw [countRun'_eq]
  dsimp only
  unfold descP tailL descL ascL
  congr 1
  funext __s
  obtain ⟨r, n⟩ := __s
  cases r with
  | some r => rfl
  | none =>
    dsimp only
    split
    · rfl
    · split
      · congr 1
        funext x
        cases x with
        | none => rfl
        | some rose =>
          dsimp only
          split
          · rfl
          · congr 1
            funext _r
            (congr 1; funext _u; congr 1; congr 1; funext s2; obtain ⟨r2, n2, q2⟩ := s2; cases r2 with
              | some r2 => rfl
              | none => (dsimp only; split; (congr 1; funext _v; (congr 1; funext _w; congr 1; (funext s3; obtain ⟨r3, n3⟩ := s3; cases r3 <;> rfl))); (congr 1; funext _w; congr 1; (funext s3; obtain ⟨r3, n3⟩ := s3; cases r3 <;> rfl))))
      · (congr 1; funext _u; congr 1; congr 1; funext s2; obtain ⟨r2, n2, q2⟩ := s2; cases r2 with
          | some r2 => rfl
          | none => (dsimp only; split; (congr 1; funext _v; (congr 1; funext _w; congr 1; (funext s3; obtain ⟨r3, n3⟩ := s3; cases r3 <;> rfl))); (congr 1; funext _w; congr 1; (funext s3; obtain ⟨r3, n3⟩ := s3; cases r3 <;> rfl))))
end
end TS

set_option maxRecDepth 100000
set_option maxHeartbeats 4000000
set_option autoImplicit false
namespace TS
open PySem PyProof.Rows
section
variable {κ : SortKind} {prog : Program} {w : World} {A : Around} {E : Value → Shared → Prop} {s : Shared} {O : Cmp κ prog w A s} {st0 st : SortSt} {lo hi : Nat}

theorem Eqv.refl (a : Keyed) : Eqv O a a := ⟨O.le_refl a, O.le_refl a⟩
theorem Eqv.trans {a b c : Keyed} (h : Eqv O a b) (h' : Eqv O b c) : Eqv O a c := ⟨Cmp.le_trans h.1 h'.1, Cmp.le_trans h'.2 h.2⟩
theorem Eqv.symm {a b : Keyed} (h : Eqv O a b) : Eqv O b a := ⟨h.2, h.1⟩
theorem mirror_eqv {xs : Array Keyed} {i j : Nat} (hj : j ≤ xs.size) (heq : ∀ k, i ≤ k → k < j → Eqv O (G xs k) (G xs (j - 1))) (k : Nat) : Eqv O (G (mirror xs i j ((j - i) / 2)) k) (G xs k) := by
  rw [G_mirror hj]
  split
  · exact (heq _ (by omega) (by omega)).trans (heq k (by omega) (by omega)).symm
  · exact .refl _
theorem Down.eqv {xs ys : Array Keyed} {n : Nat} (h : Down O xs lo n) (e : ∀ k, Eqv O (G ys k) (G xs k)) : Down O ys lo n := fun i j hij hj => Cmp.le_trans (e _).1 (Cmp.le_trans (h i j hij hj) (e _).2)
theorem Down.mirror {xs : Array Keyed} {n : Nat} (h : Down O xs lo n) (hn : lo + n ≤ xs.size) : Up O (mirror xs lo (lo + n) ((lo + n - lo) / 2)) lo n := by
  intro i j hij hj
  rw [G_mirror hn, G_mirror hn, if_pos (by omega), if_pos (by omega), show lo + (lo + n) - 1 - (lo + i) = lo + (n - 1 - i) by omega, show lo + (lo + n) - 1 - (lo + j) = lo + (n - 1 - j) by omega]
  exact h _ _ (by omega) (by omega)

theorem wpS_reverseO {i j : Nat} {Q : Unit → SortSt → Prop} (h : Q () (setArr st (mirror (arrOf st) i j ((j - i) / 2)))) : wpS (model prog w) A E s (reverseSlice' i j) Q st := by
  rw [reverseSlice'_eq]; exact wpS_modify h

theorem wpS_ascL {a nrem : Nat} {Q : AscSt → SortSt → Prop} (hn : lo + nrem ≤ (arrOf st0).size) (ha : 1 ≤ a) (han : a ≤ nrem) (B : Bs O st0 lo (lo + nrem) st) (hs : Up O (arrOf st) lo a)
    (h : ∀ n, a ≤ n → n ≤ nrem → Up O (arrOf st) lo n → (n = nrem ∨ O.r (G (arrOf st) (lo + n)) (G (arrOf st) (lo + n - 1)) = true) → Q (none, n) st) : wpS (model prog w) A E s (ascL lo a nrem) Q st := by
  unfold ascL
  have hsz := B.size
  refine wpS_forRange (I := fun x c st' => st' = st ∧ c = (none, x) ∧ Up O (arrOf st) lo x) ?step ?fin ⟨rfl, rfl, hs⟩
  case fin =>
    rintro c st' ⟨rfl, rfl, hs'⟩
    rw [show max a nrem = nrem by omega] at hs' ⊢
    exact h nrem han (Nat.le_refl _) hs' (.inl rfl)
  case step =>
    rintro x c st' hax hxn ⟨rfl, rfl, hs'⟩
    dsimp only
    refine wpS_bind (wpS_ltAtO B (by omega) (by omega) ?_)
    cases hless : O.r (G (arrOf st') (lo + x)) (G (arrOf st') (lo + x - 1))
    case true =>
      simp only [if_true]
      exact wpS_pure (h x hax (by omega) hs' (.inr hless))
    case false =>
      simp only [Bool.false_eq_true, if_false]
      refine wpS_pure ⟨rfl, rfl, fun i j hij hj => ?_⟩
      by_cases hjx : j < x
      · exact hs' i j hij hjx
      · have hj' : j = x := by omega
        subst hj'
        by_cases hi' : i = j
        · subst hi'; exact O.le_refl _
        · have q := hs' i (j - 1) (by omega) (by omega)
          rw [show lo + (j - 1) = lo + j - 1 by omega] at q
          exact Cmp.le_trans q (Cmp.le_of_not hless)

theorem wpS_tailL {n nrem : Nat} {Q : Option Nat → SortSt → Prop} (hn : lo + nrem ≤ (arrOf st0).size) (h1 : 1 ≤ n) (hnn : n ≤ nrem) (B : Bs O st0 lo (lo + nrem) st) (hs : Down O (arrOf st) lo n)
    (h : ∀ m st', Bs O st0 lo (lo + nrem) st' → 1 ≤ m → m ≤ nrem → Up O (arrOf st') lo m → Q (some m) st') : wpS (model prog w) A E s (tailL lo n nrem) Q st := by
  unfold tailL
  have hsz := B.size
  refine wpS_bind (wpS_reverseO ?_)
  have B' : Bs O st0 lo (lo + nrem) (setArr st (mirror (arrOf st) lo (lo + n) ((lo + n - lo) / 2))) := B.mirror (by omega) (by omega) (by omega)
  exact wpS_bind (wpS_ascL hn h1 hnn B' (hs.mirror (by omega)) fun m hm1 hm2 hsm _ => wpS_pure (h m _ B' (by omega) hm2 hsm))

theorem wpS_descL {n nrem : Nat} {Q : DescSt → SortSt → Prop} (hn : lo + nrem ≤ (arrOf st0).size) (h1 : 1 ≤ n) (hnn : n ≤ nrem) (B : Bs O st0 lo (lo + nrem) st) (hs : Down O (arrOf st) lo n)
    (h : ∀ m neq st', Bs O st0 lo (lo + nrem) st' → n ≤ m → m ≤ nrem → Down O (arrOf st') lo m → neq + 1 ≤ m → (∀ k, lo + m - (neq + 1) ≤ k → k < lo + m → Eqv O (G (arrOf st') k) (G (arrOf st') (lo + m - 1))) → Q (none, m, neq) st') :
    wpS (model prog w) A E s (descL lo n nrem) Q st := by
  unfold descL
  refine wpS_forRange (I := fun x c st' => ∃ neq, c = (none, x, neq) ∧ Bs O st0 lo (lo + nrem) st' ∧ Down O (arrOf st') lo x ∧ neq + 1 ≤ x ∧
      (∀ k, lo + x - (neq + 1) ≤ k → k < lo + x → Eqv O (G (arrOf st') k) (G (arrOf st') (lo + x - 1)))) ?step ?fin ⟨0, rfl, B, hs, by omega, fun i h1 h2 => by rw [show i = lo + n - 1 by omega]; exact .refl _⟩
  case fin =>
    rintro c st' ⟨neq, rfl, B', hs', hq, he⟩
    rw [show max n nrem = nrem by omega] at hs' hq he ⊢
    exact h nrem neq st' B' hnn (Nat.le_refl _) hs' hq he
  case step =>
    rintro x c st' hax hxn ⟨neq, rfl, B', hs', hq, he⟩
    dsimp only
    have hsz := B'.size
    refine wpS_bind (wpS_ltAtO B' (by omega) (by omega) ?_)
    cases hless : O.r (G (arrOf st') (lo + x)) (G (arrOf st') (lo + x - 1))
    case true =>
      simp only [if_true]
      have step1 : Down O (arrOf st') lo (x + 1) := by
        intro i j hij hj
        by_cases hjx : j < x
        · exact hs' i j hij hjx
        · have hj' : j = x := by omega
          subst hj'
          by_cases hi' : i = j
          · subst hi'; exact O.le_refl _
          · have q := hs' i (j - 1) (by omega) (by omega)
            rw [show lo + (j - 1) = lo + j - 1 by omega] at q
            exact Cmp.le_trans (Cmp.le_of_lt hless) q
      by_cases hneq : neq > 0
      · rw [if_pos hneq]
        refine wpS_bind (wpS_reverseO (wpS_pure ⟨0, rfl, B'.mirror (by omega) (by omega) (by omega), step1.eqv (mirror_eqv (by omega) he), by omega, fun i h1 h2 => by rw [show i = lo + (x + 1) - 1 by omega]; exact .refl _⟩))
      · rw [if_neg hneq]
        exact wpS_pure ⟨0, rfl, B', step1, by omega, fun i h1 h2 => by rw [show i = lo + (x + 1) - 1 by omega]; exact .refl _⟩
    case false =>
      simp only [Bool.false_eq_true, if_false]
      refine wpS_bind (wpS_ltAtO B' (by omega) (by omega) ?_)
      cases hlarger : O.r (G (arrOf st') (lo + x - 1)) (G (arrOf st') (lo + x))
      case true =>
        simp only [if_true]
        exact wpS_pure (h x neq st' B' hax (by omega) hs' hq he)
      case false =>
        simp only [Bool.false_eq_true, if_false]
        have heqx : Eqv O (G (arrOf st') (lo + x - 1)) (G (arrOf st') (lo + x)) := ⟨hless, hlarger⟩
        refine wpS_pure ⟨neq + 1, rfl, B', fun i j hij hj => ?_, by omega, fun k h1 h2 => ?_⟩
        · by_cases hjx : j < x
          · exact hs' i j hij hjx
          · have hj' : j = x := by omega
            subst hj'
            by_cases hi' : i = j
            · subst hi'; exact O.le_refl _
            · have q := hs' i (j - 1) (by omega) (by omega)
              rw [show lo + (j - 1) = lo + j - 1 by omega] at q
              exact Cmp.le_trans heqx.2 q
        · rw [show lo + (x + 1) - 1 = lo + x by omega]
          by_cases hkx : k = lo + x
          · subst hkx; exact .refl _
          · exact (he k (by omega) (by omega)).trans heqx

theorem wpS_descP {n nrem : Nat} {Q : Option Nat → SortSt → Prop} (hn : lo + nrem ≤ (arrOf st0).size) (hnn : n + 1 ≤ nrem) (B : Bs O st0 lo (lo + nrem) st) (hs : Down O (arrOf st) lo (n + 1))
    (h : ∀ m st', Bs O st0 lo (lo + nrem) st' → 1 ≤ m → m ≤ nrem → Up O (arrOf st') lo m → Q (some m) st') : wpS (model prog w) A E s (descP lo n nrem) Q st := by
  unfold descP
  refine wpS_bind (wpS_lift (wpAny_rule ⟨rfl, ?_⟩))
  refine wpS_bind (wpS_descL hn (by omega) hnn B hs fun m neq st' B' hm1 hm2 hs' hq he => ?_)
  dsimp only
  have hsz := B'.size
  by_cases hneq : neq > 0
  · rw [if_pos hneq]
    exact wpS_bind (wpS_reverseO (wpS_tailL hn (by omega) hm2 (B'.mirror (by omega) (by omega) (by omega)) (hs'.eqv (mirror_eqv (by omega) he)) h))
  · rw [if_neg hneq]
    exact wpS_tailL hn (by omega) hm2 B' hs' h

theorem wpS_countRunO {nrem : Nat} {Q : Option Nat → SortSt → Prop} (hn : lo + nrem ≤ (arrOf st0).size) (h1 : 1 ≤ nrem) (B : Bs O st0 lo (lo + nrem) st)
    (h : ∀ m st', Bs O st0 lo (lo + nrem) st' → 1 ≤ m → m ≤ nrem → Up O (arrOf st') lo m → Q (some m) st') : wpS (model prog w) A E s (countRun' lo nrem) Q st := by
  rw [countRunL_eq]
  refine wpS_bind (wpS_ascL hn (Nat.le_refl 1) h1 B (fun i j hij hj => by have : i = j := (by omega); subst this; exact O.le_refl _) fun n hn1 hn2 hsn hor => ?_)
  dsimp only
  have hsz := B.size
  by_cases hnn : n = nrem
  · rw [if_pos (by simpa using hnn)]
    exact wpS_pure (h n st B hn1 hn2 hsn)
  · rw [if_neg (by simpa using hnn)]
    have hlt := hor.resolve_left hnn
    by_cases hgt : n > 1
    · rw [if_pos hgt]
      refine wpS_bind (wpS_ltAtO B (by omega) (by omega) ?_)
      cases hrose : O.r (G (arrOf st) lo) (G (arrOf st) (lo + n - 1))
      case true =>
        simp only [if_true]
        exact wpS_pure (h n st B hn1 hn2 hsn)
      case false =>
        simp only [Bool.false_eq_true, if_false]
        have hall : ∀ k, lo ≤ k → k < lo + n → Eqv O (G (arrOf st) k) (G (arrOf st) (lo + n - 1)) := by
          intro k hk1 hk2
          have a1 := hsn 0 (k - lo) (by omega) (by omega)
          have a2 := hsn (k - lo) (n - 1) (by omega) (by omega)
          rw [show lo + 0 = lo by omega, show lo + (k - lo) = k by omega] at a1
          rw [show lo + (k - lo) = k by omega, show lo + (n - 1) = lo + n - 1 by omega] at a2
          exact ⟨a2, Cmp.le_trans (Cmp.le_of_not hrose) a1⟩
        refine wpS_bind (wpS_reverseO (wpS_descP hn (by omega) (B.mirror (by omega) (by omega) (by omega)) ?_ h))
        refine Down.eqv (xs := arrOf st) (fun i j hij hj => ?_) (mirror_eqv (by omega) hall)
        by_cases hjn : j < n
        · exact ((hall (lo + j) (by omega) (by omega)).trans (hall (lo + i) (by omega) (by omega)).symm).1
        · have hj' : j = n := by omega
          subst hj'
          by_cases hi' : i = j
          · subst hi'; exact O.le_refl _
          · exact Cmp.le_trans (Cmp.le_of_lt hlt) (hall (lo + i) (by omega) (by omega)).2
    · rw [if_neg hgt]
      have hn1' : n = 1 := by omega
      subst hn1'
      refine wpS_descP hn (by omega) B ?_ h
      intro i j hij hj
      by_cases hi' : i = j
      · subst hi'; exact O.le_refl _
      · have hi0 : i = 0 := by omega
        have hj1 : j = 1 := by omega
        subst hi0; subst hj1
        have q := Cmp.le_of_lt hlt
        rwa [show lo + 1 - 1 = lo + 0 by omega] at q
end
end TS

set_option maxRecDepth 100000
set_option maxHeartbeats 4000000
set_option autoImplicit false
namespace TS
open PySem PyProof.Rows

def over (xs : Array Keyed) (sa : Nat) (ys : List Keyed) : Array Keyed := ys.zipIdx.foldl (fun a (p, j) => a.setIfInBounds (sa + j) p) xs
theorem over_aux (sa : Nat) : ∀ (ys : List Keyed) (n : Nat) (xs : Array Keyed), ((ys.zipIdx n).foldl (fun a (p, j) => a.setIfInBounds (sa + j) p) xs).size = xs.size ∧
    ∀ i, ((ys.zipIdx n).foldl (fun a (p, j) => a.setIfInBounds (sa + j) p) xs)[i]? = if sa + n ≤ i ∧ i < sa + n + ys.length ∧ i < xs.size then ys[i - (sa + n)]? else xs[i]?
  | [], n, xs => ⟨rfl, fun i => by rw [if_neg (by simp only [List.length_nil]; omega)]; rfl⟩
  | y :: ys, n, xs => by
    obtain ⟨h1, h2⟩ := over_aux sa ys (n + 1) (xs.setIfInBounds (sa + n) y)
    rw [List.zipIdx_cons, List.foldl_cons]
    refine ⟨by rw [h1]; simp, fun i => ?_⟩
    rw [h2 i]
    simp only [Array.size_setIfInBounds, List.length_cons]
    by_cases hc : sa + n ≤ i ∧ i < sa + n + (ys.length + 1) ∧ i < xs.size
    · rw [if_pos hc]
      by_cases he : i = sa + n
      · subst he
        rw [if_neg (by omega), Array.getElem?_setIfInBounds_self_of_lt hc.2.2, Nat.sub_self]
        rfl
      · rw [if_pos (by omega), show i - (sa + n) = (i - (sa + (n + 1))) + 1 by omega]
        rfl
    · rw [if_neg hc]
      by_cases hin : i < xs.size
      · rw [if_neg (by omega), Array.getElem?_setIfInBounds_ne (by omega)]
      · rw [if_neg (by omega)]
        rw [Array.getElem?_eq_none (by simp; omega), Array.getElem?_eq_none (by omega)]
theorem over_size (xs : Array Keyed) (sa : Nat) (ys : List Keyed) : (over xs sa ys).size = xs.size := (over_aux sa ys 0 xs).1
theorem over_get (xs : Array Keyed) (sa : Nat) (ys : List Keyed) (i : Nat) (h : sa + ys.length ≤ xs.size) : (over xs sa ys)[i]? = if sa ≤ i ∧ i < sa + ys.length then ys[i - sa]? else xs[i]? := by
  have := (over_aux sa ys 0 xs).2 i
  simp only [Nat.add_zero] at this
  unfold over
  rw [this]
  by_cases hc : sa ≤ i ∧ i < sa + ys.length
  · rw [if_pos hc, if_pos (by omega)]
  · rw [if_neg hc, if_neg (by omega)]
theorem over_list (xs : Array Keyed) (sa : Nat) (ys : List Keyed) (h : sa + ys.length ≤ xs.size) : (over xs sa ys).toList = xs.toList.take sa ++ ys ++ xs.toList.drop (sa + ys.length) := by
  apply List.ext_getElem?
  intro i
  rw [Array.getElem?_toList, over_get xs sa ys i h]
  by_cases h1 : i < sa
  · rw [if_neg (by omega), List.append_assoc, List.getElem?_append_left (by simp; omega), List.getElem?_take_of_lt h1, Array.getElem?_toList]
  · by_cases h2 : i < sa + ys.length
    · rw [if_pos (by omega), List.getElem?_append_left (by simp; omega), List.getElem?_append_right (by simp; omega)]
      congr 1
      simp only [List.length_take, Array.length_toList]
      omega
    · rw [if_neg (by omega), List.getElem?_append_right (by simp; omega), List.getElem?_drop, Array.getElem?_toList]
      congr 1
      simp only [List.length_append, List.length_take, Array.length_toList]
      omega
theorem over_perm (xs : Array Keyed) (sa n : Nat) (ys : List Keyed) (h : sa + n ≤ xs.size) (hp : ys.Perm ((xs.toList.drop sa).take n)) : (over xs sa ys).Perm xs := by
  have hl : ys.length = n := by rw [hp.length_eq]; simp; omega
  rw [Array.perm_iff_toList_perm, over_list xs sa ys (by omega)]
  have e : xs.toList = xs.toList.take sa ++ (xs.toList.drop sa).take n ++ xs.toList.drop (sa + n) := by
    rw [List.append_assoc, ← List.drop_drop, List.take_append_drop, List.take_append_drop]
  rw [hl]
  refine List.Perm.trans ?_ (List.Perm.of_eq e.symm)
  exact ((List.Perm.refl _).append hp).append (List.Perm.refl _)

theorem mergeAt'_eq (i : Nat) : mergeAt' i = (do
  let s ← get
  let (some (sa, na, power), some (sb, nb, _)) := ((pendingOf s)[i]?, (pendingOf s)[i + 1]?) | unsupported "internal:list.sort.pending"
  set (setPending s (((pendingOf s).setIfInBounds i (sa, na + nb, power)).eraseIdxIfInBounds (i + 1)))
  let some k ← gallop' false (← elem' (arrOf s) sb) (arrOf s) sa na 0 | return false
  let (sa, na) := (sa + k, na - k)
  if na == 0 then return true
  let some nb ← gallop' true (← elem' (arrOf s) (sa + na - 1)) (arrOf s) sb nb (nb - 1) | return false
  if nb == 0 then return true
  let x := (arrOf s).extract sa sb
  let y := (arrOf s).extract sb (sb + nb)
  let merged ← if na ≤ nb then mergeLo' x y else mergeHi' x y
  modify fun s => setArr s (over (arrOf s) sa merged.toList)
  return (failedOf (← get)).isNone) := rfl

section
variable {κ : SortKind} {prog : Program} {w : World} {A : Around} {E : Value → Shared → Prop} {s : Shared} {O : Cmp κ prog w A s}

theorem G_ext {xs : Array Keyed} {i j k : Nat} (h : i + k < j) (hj : j ≤ xs.size) : G (xs.extract i j) k = G xs (i + k) := by
  apply G_eq
  rw [Array.getElem?_extract, if_pos (by omega)]
theorem run_ext {xs : Array Keyed} {i j : Nat} (h : Run O xs i j) : Run O (xs.extract i j) 0 (xs.extract i j).size := by
  have hs : (xs.extract i j).size = j - i := by rw [Array.size_extract]; have := h.sz; omega
  have hz := h.sz
  refine ⟨Nat.le_refl _, fun k _ hk => ?_, fun a b _ hab hb => ?_⟩
  · rw [G_ext (by omega) hz]; exact h.ok _ (by omega) (by omega)
  · rw [G_ext (by omega) hz, G_ext (by omega) hz]; exact h.srt _ _ (by omega) (by omega) (by omega)

theorem wpS_set {σ : Type} {x st : σ} {Q : PUnit → σ → Prop} (h : Q ⟨⟩ x) : wpS (model prog w) A E s (set x : StateT σ Sem PUnit) Q st := by
  unfold wpS; rw [StateT.run_set]; exact wpAny_pure ⟨rfl, h⟩

/-- two neighbouring runs become one; nothing else is touched -/
theorem wpS_mergeAt {st : SortSt} {i sa na nb pa pb : Nat} {Q : Bool → SortSt → Prop} (hk : kindOf st = κ) (hf : failedOf st = none) (h1 : (pendingOf st)[i]? = some (sa, na, pa)) (h2 : (pendingOf st)[i + 1]? = some (sa + na, nb, pb))
    (ra : Run O (arrOf st) sa (sa + na)) (rb : Run O (arrOf st) (sa + na) (sa + na + nb)) (ha : 0 < na) (hb : 0 < nb)
    (h : ∀ st', kindOf st' = κ → failedOf st' = none → pendingOf st' = ((pendingOf st).setIfInBounds i (sa, na + nb, pa)).eraseIdxIfInBounds (i + 1) → (arrOf st').Perm (arrOf st) →
      (∀ j, j < sa ∨ sa + na + nb ≤ j → (arrOf st')[j]? = (arrOf st)[j]?) → Run O (arrOf st') sa (sa + na + nb) → Q true st') : wpS (model prog w) A E s (mergeAt' i) Q st := by
  rw [mergeAt'_eq]
  refine wpS_bind (wpS_get ?_)
  rw [h1, h2]
  dsimp only
  refine wpS_bind (wpS_set ?_)
  have hz := rb.sz
  refine wpS_bind (wpS_elem (by omega) ?_)
  refine wpS_bind (wpS_gallopR (O := O) (st := setPending st _) hk (rb.ok _ (by omega) (by omega)) ra ha fun k k1 k2 k3 => ?_)
  dsimp only
  -- what holds if nothing has to be moved
  have whole : (∀ x y, sa ≤ x → x < sa + na → sa + na ≤ y → y < sa + na + nb → O.le (G (arrOf st) x) (G (arrOf st) y)) → Run O (arrOf st) sa (sa + na + nb) := fun hc => by
    refine ⟨hz, fun x q1 q2 => ?_, fun x y q1 q2 q3 => ?_⟩
    · by_cases z : x < sa + na
      · exact ra.ok x q1 z
      · exact rb.ok x (by omega) q2
    · by_cases z : y < sa + na
      · exact ra.srt x y q1 q2 z
      · by_cases z2 : x < sa + na
        · exact hc x y q1 z2 (by omega) q3
        · exact rb.srt x y (by omega) q2 q3
  by_cases c1 : (na - k == 0) = true
  · rw [if_pos c1]
    have c1' : na - k = 0 := by simpa using c1
    refine wpS_pure (h _ hk hf rfl (Array.Perm.refl _) (fun _ _ => rfl) (whole fun x y q1 q2 q3 q4 => ?_))
    exact Cmp.le_trans (k2 x q1 (by omega)) (rb.srt _ _ (by omega) q3 q4)
  rw [if_neg c1]
  have c1' : ¬ na - k = 0 := by simpa using c1
  refine wpS_bind (wpS_elem (by omega) ?_)
  refine wpS_bind (wpS_gallopL (O := O) (st := setPending st _) hk (ra.ok _ (by omega) (by omega)) rb (by omega) fun n n1 n2 n3 => ?_)
  dsimp only
  have el : sa + k + (na - k) - 1 = sa + na - 1 := by omega
  rw [el] at n2 n3
  by_cases c2 : (n == 0) = true
  · rw [if_pos c2]
    have c2' : n = 0 := by simpa using c2
    refine wpS_pure (h _ hk hf rfl (Array.Perm.refl _) (fun _ _ => rfl) (whole fun x y q1 q2 q3 q4 => ?_))
    exact Cmp.le_trans (ra.srt x (sa + na - 1) q1 (by omega) (by omega)) (n3 y (by omega) q4)
  rw [if_neg c2]
  have c2' : ¬ n = 0 := by simpa using c2
  have rx : Run O (arrOf st) (sa + k) (sa + na) := ra.sub (by omega) (by omega)
  have ry : Run O (arrOf st) (sa + na) (sa + na + n) := rb.sub (by omega) (by omega)
  have sx : ((arrOf st).extract (sa + k) (sa + na)).size = na - k := by rw [Array.size_extract]; omega
  have sy : ((arrOf st).extract (sa + na) (sa + na + n)).size = n := by rw [Array.size_extract]; omega
  have fin : ∀ (res : Array Keyed) (st2 : SortSt), Like (setPending st (((pendingOf st).setIfInBounds i (sa, na + nb, pa)).eraseIdxIfInBounds (i + 1))) st2 →
      Good O.le (((arrOf st).extract (sa + k) (sa + na)).toList ++ ((arrOf st).extract (sa + na) (sa + na + n)).toList) res.toList →
      wpS (model prog w) A E s (do
        modify fun s => setArr s (over (arrOf s) (sa + k) res.toList)
        let __do_lift ← get
        pure (failedOf __do_lift).isNone) Q st2 := by
    intro res st2 L g
    refine wpS_bind (wpS_modify (wpS_bind (wpS_get (wpS_pure ?_))))
    have ef : failedOf st2 = none := L.failed.trans hf
    have ea : arrOf st2 = arrOf st := L.arr
    show Q (failedOf st2).isNone (setArr st2 (over (arrOf st2) (sa + k) res.toList))
    rw [ef, ea]
    obtain ⟨gp, gs⟩ := g
    have el2 : ((arrOf st).extract (sa + k) (sa + na)).toList ++ ((arrOf st).extract (sa + na) (sa + na + n)).toList = ((arrOf st).toList.drop (sa + k)).take (na - k + n) := by
      rw [ext_list, ext_list, show sa + na - (sa + k) = na - k by omega, show sa + na + n - (sa + na) = n by omega, List.take_add, List.drop_drop]
      congr 3
      omega
    have hl : res.toList.length = na - k + n := by rw [gp.length_eq, el2]; simp; omega
    have ov : ∀ j, (over (arrOf st) (sa + k) res.toList)[j]? = if sa + k ≤ j ∧ j < sa + na + n then res.toList[j - (sa + k)]? else (arrOf st)[j]? := fun j => by
      rw [over_get _ _ _ _ (by omega), hl]
      by_cases c : sa + k ≤ j ∧ j < sa + na + n
      · rw [if_pos c, if_pos (by omega)]
      · rw [if_neg c, if_neg (by omega)]
    have rmem : ∀ j, sa + k ≤ j → j < sa + na + n → ∃ x, G (over (arrOf st) (sa + k) res.toList) j = G (arrOf st) x ∧ sa + k ≤ x ∧ x < sa + na + n := fun j q1 q2 => by
      have hm : G (over (arrOf st) (sa + k) res.toList) j ∈ res.toList := by
        have e := ov j
        rw [if_pos ⟨q1, q2⟩] at e
        have : (over (arrOf st) (sa + k) res.toList)[j]? = some (G (over (arrOf st) (sa + k) res.toList) j) := G_get (by rw [over_size]; omega)
        rw [this] at e
        exact List.mem_of_getElem? e.symm
      have hm2 := gp.mem_iff.mp hm
      rw [el2] at hm2
      obtain ⟨x, x1, x2, x3, x4⟩ := mem_take_drop hm2
      exact ⟨x, x4, by omega, by omega⟩
    have out : ∀ j, ¬ (sa + k ≤ j ∧ j < sa + na + n) → G (over (arrOf st) (sa + k) res.toList) j = G (arrOf st) j := fun j hj => G_eq (by rw [ov j, if_neg hj])
    refine h _ (L.kind.trans hk) ef (L.pend.trans rfl) (over_perm _ _ (na - k + n) _ (by omega) (by rw [← el2]; exact gp)) (fun j hj => by show (over (arrOf st) (sa + k) res.toList)[j]? = _; rw [ov j, if_neg (by omega)]) ?_
    -- the whole rises: below sa + k all is at most b's first; behind, all is at least a's last
    have hB : ∀ x, sa + k ≤ x → x < sa + na + n → O.le (G (arrOf st) (sa + na)) (G (arrOf st) x) := fun x x1 x2 => by
      by_cases z : x < sa + na
      · exact Cmp.le_of_lt (k3 x x1 (by omega))
      · exact rb.srt _ _ (by omega) (by omega) (by omega)
    have hA : ∀ x, sa + k ≤ x → x < sa + na + n → O.le (G (arrOf st) x) (G (arrOf st) (sa + na - 1)) := fun x x1 x2 => by
      by_cases z : x < sa + na
      · exact ra.srt _ _ (by omega) (by omega) (by omega)
      · exact Cmp.le_of_lt (n2 x (by omega) (by omega))
    have okA : ∀ x, sa ≤ x → x < sa + na + nb → O.ok (G (arrOf st) x) := fun x x1 x2 => by
      by_cases z : x < sa + na
      · exact ra.ok x x1 z
      · exact rb.ok x (by omega) x2
    show Run O (over (arrOf st) (sa + k) res.toList) sa (sa + na + nb)
    refine ⟨by rw [over_size]; exact hz, fun j q1 q2 => ?_, fun x y q1 q2 q3 => ?_⟩
    · by_cases c : sa + k ≤ j ∧ j < sa + na + n
      · obtain ⟨x, e, x1, x2⟩ := rmem j c.1 c.2
        rw [e]; exact okA x (by omega) (by omega)
      · rw [out j c]; exact okA j q1 q2
    · by_cases cx : sa + k ≤ x ∧ x < sa + na + n
      · by_cases cy : sa + k ≤ y ∧ y < sa + na + n
        · -- both within
          by_cases exy : x = y
          · subst exy; exact O.le_refl _
          have gx : res.toList[x - (sa + k)]? = some (G (over (arrOf st) (sa + k) res.toList) x) := by
            rw [← G_get (by rw [over_size]; omega), ov x, if_pos cx]
          have gy : res.toList[y - (sa + k)]? = some (G (over (arrOf st) (sa + k) res.toList) y) := by
            rw [← G_get (by rw [over_size]; omega), ov y, if_pos cy]
          obtain ⟨lx, ex⟩ := List.getElem?_eq_some_iff.mp gx
          obtain ⟨ly, ey⟩ := List.getElem?_eq_some_iff.mp gy
          have := List.pairwise_iff_getElem.mp gs _ _ lx ly (by omega)
          rw [ex, ey] at this
          exact this
        · -- y behind
          obtain ⟨u, e, u1, u2⟩ := rmem x cx.1 cx.2
          rw [e, out y cy]
          exact Cmp.le_trans (hA u u1 u2) (n3 y (by omega) (by omega))
      · rw [out x cx]
        by_cases cy : sa + k ≤ y ∧ y < sa + na + n
        · obtain ⟨u, e, u1, u2⟩ := rmem y cy.1 cy.2
          rw [e]
          exact Cmp.le_trans (k2 x q1 (by omega)) (hB u u1 u2)
        · rw [out y cy]
          by_cases z : y < sa + na
          · exact ra.srt x y q1 q2 z
          · by_cases z2 : x < sa + na
            · exact Cmp.le_trans (k2 x q1 (by omega)) (rb.srt _ _ (by omega) (by omega) q3)
            · exact rb.srt x y (by omega) q2 q3
  have p0 : ∀ j, j < ((arrOf st).extract (sa + k) (sa + na)).size → O.r (G ((arrOf st).extract (sa + na) (sa + na + n)) 0) (G ((arrOf st).extract (sa + k) (sa + na)) j) = true := fun j hj => by
    rw [sx] at hj
    rw [G_ext (by omega) (by omega), G_ext (by omega) (by omega)]
    exact k3 _ (by omega) (by omega)
  have pl : ∀ j, j < ((arrOf st).extract (sa + na) (sa + na + n)).size → O.r (G ((arrOf st).extract (sa + na) (sa + na + n)) j) (G ((arrOf st).extract (sa + k) (sa + na)) (((arrOf st).extract (sa + k) (sa + na)).size - 1)) = true := fun j hj => by
    rw [sy] at hj
    rw [sx, G_ext (by omega) (by omega), G_ext (by omega) (by omega), show sa + k + (na - k - 1) = sa + na - 1 by omega]
    exact n2 _ (by omega) (by omega)
  by_cases hle : na - k ≤ n
  · rw [if_pos hle]
    exact wpS_bind (wpS_mergeLo (O := O) (st := setPending st _) hk (run_ext rx) (run_ext ry) (by omega) (by omega) (p0 0 (by omega)) pl fun res st2 L g => fin res st2 L g)
  · rw [if_neg hle]
    exact wpS_bind (wpS_mergeHi (O := O) (st := setPending st _) hk (run_ext rx) (run_ext ry) (by omega) (by omega) p0 pl fun res st2 L g => fin res st2 L g)
end
end TS

set_option maxRecDepth 100000
set_option maxHeartbeats 4000000
set_option autoImplicit false
namespace TS
open PySem PyProof.Rows
section
variable {κ : SortKind} {prog : Program} {w : World} {A : Around} {E : Value → Shared → Prop} {s : Shared} {O : Cmp κ prog w A s}

/-- the runs lie one behind another -/
def Chain (O : Cmp κ prog w A s) (xs : Array Keyed) : List (Nat × Nat × Nat) → Nat → Nat → Prop
  | [], a, b => a = b
  | (st, n, _) :: r, a, b => st = a ∧ 0 < n ∧ Run O xs st (st + n) ∧ Chain O xs r (st + n) b
theorem Chain.le {xs : Array Keyed} : ∀ {p : List (Nat × Nat × Nat)} {a b : Nat}, Chain O xs p a b → a + p.length ≤ b
  | [], a, b, h => Nat.le_of_eq h
  | (st, n, _) :: r, a, b, h => by
    obtain ⟨rfl, hn, _, hr⟩ := h
    have := hr.le
    simp only [List.length_cons]; omega
theorem Chain.append {xs : Array Keyed} : ∀ {p q : List (Nat × Nat × Nat)} {a b c : Nat}, Chain O xs p a b → Chain O xs q b c → Chain O xs (p ++ q) a c
  | [], _, a, b, c, h, h' => by cases (show a = b from h); exact h'
  | (st, n, _) :: r, _, a, b, c, h, h' => ⟨h.1, h.2.1, h.2.2.1, h.2.2.2.append h'⟩
theorem Chain.split {xs : Array Keyed} : ∀ {p q : List (Nat × Nat × Nat)} {a c : Nat}, Chain O xs (p ++ q) a c → ∃ b, Chain O xs p a b ∧ Chain O xs q b c
  | [], _, a, c, h => ⟨a, rfl, h⟩
  | (st, n, _) :: r, _, a, c, h => by
    obtain ⟨b, h1, h2⟩ := h.2.2.2.split
    exact ⟨b, ⟨h.1, h.2.1, h.2.2.1, h1⟩, h2⟩
theorem Run.same {xs ys : Array Keyed} {a b : Nat} (h : Run O xs a b) (hs : ys.size = xs.size) (e : ∀ i, a ≤ i → i < b → ys[i]? = xs[i]?) : Run O ys a b :=
  ⟨by rw [hs]; exact h.sz, fun i h1 h2 => by rw [G_eq (e i h1 h2)]; exact h.ok i h1 h2, fun i j h1 h2 h3 => by rw [G_eq (e i h1 (by omega)), G_eq (e j (by omega) h3)]; exact h.srt i j h1 h2 h3⟩
theorem Chain.same {xs ys : Array Keyed} (hs : ys.size = xs.size) : ∀ {p : List (Nat × Nat × Nat)} {a b : Nat}, Chain O xs p a b → (∀ i, a ≤ i → i < b → ys[i]? = xs[i]?) → Chain O ys p a b
  | [], a, b, h, _ => h
  | (st, n, _) :: r, a, b, h, e => by
    obtain ⟨rfl, hn, hr, hc⟩ := h
    have := hc.le
    exact ⟨rfl, hn, hr.same hs fun i h1 h2 => e i h1 (by omega), hc.same hs fun i h1 h2 => e i (by omega) h2⟩
theorem Chain.pw {xs : Array Keyed} : ∀ {p q : List (Nat × Nat × Nat)} {a b : Nat}, Chain O xs p a b → q.map (fun t => (t.1, t.2.1)) = p.map (fun t => (t.1, t.2.1)) → Chain O xs q a b
  | [], [], a, b, h, _ => h
  | [], _ :: _, a, b, h, e => by simp at e
  | _ :: _, [], a, b, h, e => by simp at e
  | (st, n, _) :: r, (st', n', _) :: r', a, b, h, e => by
    simp only [List.map_cons, List.cons.injEq, Prod.mk.injEq] at e
    obtain ⟨⟨rfl, rfl⟩, e⟩ := e
    exact ⟨h.1, h.2.1, h.2.2.1, h.2.2.2.pw e⟩

structure SS (O : Cmp κ prog w A s) (a₀ : Array Keyed) (lo : Nat) (st : SortSt) : Prop where
  kind : kindOf st = κ
  failed : failedOf st = none
  perm : (arrOf st).Perm a₀
  ok : ∀ p ∈ (arrOf st).toList, O.ok p
  chain : Chain O (arrOf st) (pendingOf st).toList 0 lo

theorem list_merge {α : Type} (pre post : List α) (x y z : α) : ((pre ++ x :: y :: post).set pre.length z).eraseIdx (pre.length + 1) = pre ++ z :: post := by
  rw [List.set_append_right _ _ (Nat.le_refl _), Nat.sub_self, List.set_cons_zero, List.eraseIdx_append_of_length_le (by omega), show pre.length + 1 - pre.length = 1 by omega]
  rfl
variable {a₀ : Array Keyed} {lo : Nat} {st : SortSt}
theorem wpS_mergeS {i : Nat} {Q : Bool → SortSt → Prop} (S : SS O a₀ lo st) (hi : i + 1 < (pendingOf st).size)
    (h : ∀ st', SS O a₀ lo st' → (pendingOf st').size + 1 = (pendingOf st).size → (∀ j, lo ≤ j → (arrOf st')[j]? = (arrOf st)[j]?) → Q true st') : wpS (model prog w) A E s (mergeAt' i) Q st := by
  have c := S.chain
  have hl : i + 1 < (pendingOf st).toList.length := by simpa using hi
  obtain ⟨x, y, hx, hy, e⟩ : ∃ x y, (pendingOf st)[i]? = some x ∧ (pendingOf st)[i + 1]? = some y ∧ (pendingOf st).toList = (pendingOf st).toList.take i ++ x :: y :: (pendingOf st).toList.drop (i + 2) := by
    refine ⟨(pendingOf st).toList[i], (pendingOf st).toList[i + 1], ?_, ?_, ?_⟩
    · rw [← Array.getElem?_toList, List.getElem?_eq_getElem]
    · rw [← Array.getElem?_toList, List.getElem?_eq_getElem]
    · conv => lhs; rw [← List.take_append_drop i (pendingOf st).toList]
      congr 1
      rw [List.drop_eq_getElem_cons (by omega), List.drop_eq_getElem_cons (by omega)]
  obtain ⟨sa, na, pa⟩ := x
  obtain ⟨sb, nb, pb⟩ := y
  rw [e] at c
  obtain ⟨b, c1, c2⟩ := c.split
  obtain ⟨rfl, ha, ra, c3⟩ := c2
  obtain ⟨rfl, hb, rb, c4⟩ := c3
  have l1 := c1.le
  have l4 := c4.le
  have ep : (((pendingOf st).setIfInBounds i (sa, na + nb, pa)).eraseIdxIfInBounds (i + 1)).toList = (pendingOf st).toList.take i ++ (sa, na + nb, pa) :: (pendingOf st).toList.drop (i + 2) := by
    rw [Array.toList_eraseIdxIfInBounds, Array.toList_setIfInBounds]
    have ht : ((pendingOf st).toList.take i).length = i := by simp; omega
    have q := list_merge ((pendingOf st).toList.take i) ((pendingOf st).toList.drop (i + 2)) (sa, na, pa) (sa + na, nb, pb) (sa, na + nb, pa)
    rw [← e, ht] at q
    exact q
  refine wpS_mergeAt (O := O) S.kind S.failed hx hy ra rb ha hb fun st' k1 k2 k3 k4 k5 k6 => h st' ⟨k1, k2, k4.trans S.perm, perm_ok k4 S.ok, ?_⟩ ?_ fun j hj => k5 j (.inr (by omega))
  · rw [k3]
    rw [ep]
    refine Chain.append (c1.same k4.size_eq fun j _ hj => k5 j (.inl hj)) ⟨rfl, by omega, ?_, ?_⟩
    · rw [← Nat.add_assoc]; exact k6
    · rw [← Nat.add_assoc]; exact c4.same k4.size_eq fun j hj _ => k5 j (.inr hj)
  · rw [k3]
    have q := congrArg List.length ep
    simp only [Array.length_toList, List.length_append, List.length_cons, List.length_take, List.length_drop] at q
    rw [q]
    omega

theorem G3 {p : Array (Nat × Nat × Nat)} {i : Nat} (h : i < p.size) : p[i]? = some ((p.getD i (0, 0, 0)).1, (p.getD i (0, 0, 0)).2.1, (p.getD i (0, 0, 0)).2.2) := by
  simp [Array.getD, h]
theorem map_modify {α β : Type} (f : α → α) (g : α → β) (h : ∀ x, g (f x) = g x) : ∀ (l : List α) (i : Nat), (l.modify i f).map g = l.map g
  | [], i => by simp
  | x :: l, 0 => by simp [h]
  | x :: l, i + 1 => by simp [map_modify f g h l i]

theorem wpS_sortRunsO {Q : Unit → SortSt → Prop} (hk : kindOf st = κ) (hf : failedOf st = none) (hp : pendingOf st = #[]) (hok : ∀ p ∈ (arrOf st).toList, O.ok p) (h1 : 1 ≤ (arrOf st).size)
    (h : ∀ st', (arrOf st').Perm (arrOf st) → failedOf st' = none → Run O (arrOf st') 0 (arrOf st').size → Q () st') : wpS (model prog w) A E s sortRuns' Q st := by
  have S0 : SS O (arrOf st) 0 st := ⟨hk, hf, Array.Perm.refl _, hok, by rw [hp]; rfl⟩
  rw [sortRuns'_eq]
  refine wpS_bind (wpS_get ?_)
  dsimp only
  generalize hmr : minRun' (arrOf st).size (arrOf st).size 0 = mr
  generalize hN : (arrOf st).size = N at *
  have sz : ∀ {lo st'}, SS O (arrOf st) lo st' → (arrOf st').size = N := fun S => S.perm.size_eq.trans hN
  refine wpS_bind (wpS_mono (wpS_forRange (I := fun x c st' => ∃ lo, c = (none, lo) ∧ x ≤ lo ∧ lo ≤ N ∧ SS O (arrOf st) lo st') (Q := fun c st' => c = (none, N) ∧ SS O (arrOf st) N st') ?step ?fin ⟨0, rfl, by omega, by omega, S0⟩) ?post)
  case fin =>
    rintro c st' ⟨lo, rfl, hx, hl, S⟩
    have e : lo = N := by omega
    subst e
    exact ⟨rfl, S⟩
  case post =>
    rintro c st1 ⟨rfl, S1⟩
    dsimp only
    refine wpS_bind (wpS_mono (wpS_forRange (I := fun x c st' => c = (none, ()) ∧ SS O (arrOf st) N st' ∧ (pendingOf st').size + x ≤ N) (Q := fun c st' => c = (none, ()) ∧ SS O (arrOf st) N st' ∧ (pendingOf st').size ≤ 1) ?s2 ?f2 ?i2) ?p2)
    case i2 =>
      have := S1.chain.le
      simp only [Array.length_toList] at this
      exact ⟨rfl, S1, by omega⟩
    case f2 =>
      rintro c st' ⟨hc, S, hx⟩
      exact ⟨hc, S, by omega⟩
    case p2 =>
      rintro c st' ⟨rfl, S, hx⟩
      refine wpS_pure (h st' S.perm S.failed ?_)
      rw [sz S]
      have c := S.chain
      have hlen : (pendingOf st').toList.length ≤ 1 := by simpa using hx
      match e : (pendingOf st').toList, hlen, c with
      | [], _, c => exact absurd (show 0 = N from c) (by omega)
      | [(a, n, _)], _, c =>
        obtain ⟨rfl, _, r, e2⟩ := c
        have e2' : 0 + n = N := e2
        rw [← e2']; exact r
      | _ :: _ :: _, hl, _ => simp at hl
    case s2 =>
      rintro x c st' _ hx ⟨rfl, S, hxx⟩
      refine wpS_bind (wpS_get ?_)
      by_cases hle : (pendingOf st').size ≤ 1
      · rw [if_pos hle]
        exact wpS_pure ⟨rfl, S, hle⟩
      · rw [if_neg hle]
        have key : ∀ i, i + 1 < (pendingOf st').size → wpS (model prog w) A E s (mergeAt' i) (fun b st2 => b = true ∧ SS O (arrOf st) N st2 ∧ (pendingOf st2).size + (x + 1) ≤ N) st' := fun i hi =>
          wpS_mergeS S hi fun st2 S2 h2 _ => ⟨rfl, S2, by omega⟩
        refine wpS_bind (wpS_mono (key _ ?_) ?_)
        · have q : ∀ (c : Bool) (n : Nat), (if c = true then n - 1 else n) ≤ n := fun c n => by split <;> omega
          refine Nat.lt_of_le_of_lt (Nat.succ_le_succ (q _ _)) ?_
          omega
        · rintro b st2 ⟨rfl, S2, h2⟩
          rw [if_neg (by simp)]
          exact wpS_pure ⟨rfl, S2, h2⟩
  case step =>
    rintro x c st1 _ hx ⟨lo, rfl, hxl, hlN, S1⟩
    dsimp only
    have z1 := sz S1
    by_cases hge : lo ≥ N
    · rw [if_pos hge]
      have e : lo = N := by omega
      subst e
      exact wpS_pure ⟨rfl, S1⟩
    rw [if_neg hge]
    have B1 : Bs O st1 lo (lo + (N - lo)) st1 := ⟨S1.kind, S1.ok, rfl, S1.failed, Array.Perm.refl _, fun _ _ => rfl⟩
    refine wpS_bind (wpS_countRunO (by omega) (by omega) B1 fun m st2 B2 m1 m2 u2 => ?_)
    dsimp only
    -- behind the run is found and filled up
    have cont : ∀ (n : Nat) (st3 : SortSt), 1 ≤ n → lo + n ≤ N → kindOf st3 = κ → failedOf st3 = none → (arrOf st3).Perm (arrOf st1) → pendingOf st3 = pendingOf st1 → (∀ i, i < lo → (arrOf st3)[i]? = (arrOf st1)[i]?) → Up O (arrOf st3) lo n → SS O (arrOf st) lo st3 ∧ Run O (arrOf st3) lo (lo + n) := by
      intro n st3 n1 n2 q1 q2 q3 q4 q5 q6
      have ok3 : ∀ p ∈ (arrOf st3).toList, O.ok p := perm_ok q3 S1.ok
      have z3 : (arrOf st3).size = N := q3.size_eq.trans z1
      refine ⟨⟨q1, q2, q3.trans S1.perm, ok3, ?_⟩, ⟨by omega, fun i h1 h2 => ok3 _ (G_mem (by omega)), fun i j h1 h2 h3 => ?_⟩⟩
      · rw [q4]; exact S1.chain.same q3.size_eq fun i _ hi => q5 i hi
      · have := q6 (i - lo) (j - lo) (by omega) (by omega)
        rwa [show lo + (i - lo) = i by omega, show lo + (j - lo) = j by omega] at this
    have push : ∀ (n : Nat) (st4 : SortSt), 1 ≤ n → lo + n ≤ N → SS O (arrOf st) lo st4 → Run O (arrOf st4) lo (lo + n) →
        wpS (model prog w) A E s (do
          modify fun s => setPending s ((pendingOf s).push (lo, n, 0))
          pure (ForInStep.yield ((none, lo + n) : Option Unit × Nat))) (fun r st' => match r with | .done c' => c' = (none, N) ∧ SS O (arrOf st) N st' | .yield c' => ∃ lo, c' = (none, lo) ∧ x + 1 ≤ lo ∧ lo ≤ N ∧ SS O (arrOf st) lo st') st4 := by
      intro n st4 n1 n2 S4 r4
      refine wpS_bind (wpS_modify (wpS_pure ⟨lo + n, rfl, by omega, n2, ⟨S4.kind, S4.failed, S4.perm, S4.ok, ?_⟩⟩))
      show Chain O (arrOf st4) ((pendingOf st4).push (lo, n, 0)).toList 0 (lo + n)
      rw [Array.toList_push]
      exact S4.chain.append ⟨rfl, by omega, r4, rfl⟩
    by_cases hlt : m < mr
    · rw [if_pos hlt]
      refine wpS_bind (wpS_lift (wpAny_rule ⟨rfl, ?_⟩))
      have z2 : (arrOf st2).size = N := B2.perm.size_eq.trans z1
      have Bb : Bs O st2 lo (lo + min (N - lo) mr) st2 := ⟨B2.kind, B2.ok, rfl, B2.failed, Array.Perm.refl _, fun _ _ => rfl⟩
      refine wpS_bind (wpS_binarySortO (by omega) (by omega) Bb u2 fun st3 B3 u3 => ?_)
      rw [if_neg (by simp)]
      have n1 : 1 ≤ min (N - lo) mr := by omega
      have n2 : lo + min (N - lo) mr ≤ N := by omega
      obtain ⟨S3, r3⟩ := cont (min (N - lo) mr) st3 n1 n2 B3.kind B3.failed (B3.perm.trans B2.perm) (B3.pend.trans B2.pend) (fun i hi => (B3.oth i (.inl hi)).trans (B2.oth i (.inl hi))) u3
      refine wpS_bind (wpS_get ?_)
      cases hb : (pendingOf st3).back? with
      | none => exact push (min (N - lo) mr) st3 n1 n2 S3 r3
      | some t =>
        obtain ⟨s1, l1, p1⟩ := t
        dsimp only
        refine wpS_bind (wpS_mono (wpS_forRange (I := fun _ c st' => c = (none, ()) ∧ SS O (arrOf st) lo st' ∧ Run O (arrOf st') lo (lo + (min (N - lo) mr))) (Q := fun c st' => c = (none, ()) ∧ SS O (arrOf st) lo st' ∧ Run O (arrOf st') lo (lo + (min (N - lo) mr))) ?ms ?mf ⟨rfl, S3, r3⟩) ?mp)
        case mf => exact fun c st' hI => hI
        case ms =>
          rintro y c st' _ hy ⟨rfl, S', r'⟩
          refine wpS_bind (wpS_get ?_)
          by_cases hz : (pendingOf st').size > 1
          · rw [if_pos hz, G3 (by omega)]
            dsimp only
            split
            · exact wpS_pure ⟨rfl, S', r'⟩
            · refine wpS_bind (wpS_mergeS S' (by omega) fun st5 S5 _ ho => ?_)
              rw [if_neg (by simp)]
              exact wpS_pure ⟨rfl, S5, r'.same ((sz S5).trans (sz S').symm) fun j hj _ => ho j hj⟩
          · rw [if_neg hz]
            exact wpS_pure ⟨rfl, S', r'⟩
        case mp =>
          rintro c st4 ⟨rfl, S4, r4⟩
          dsimp only
          refine wpS_bind (wpS_modify ?_)
          refine push (min (N - lo) mr) _ n1 n2 ⟨S4.kind, S4.failed, S4.perm, S4.ok, ?_⟩ r4
          refine S4.chain.pw ?_
          show ((pendingOf st4).modify _ _).toList.map _ = _
          rw [Array.toList_modify]
          refine map_modify _ _ ?_ _ _
          intro x
          rfl
    · rw [if_neg hlt]
      have n1 : 1 ≤ m := m1
      have n2 : lo + m ≤ N := by omega
      obtain ⟨S3, r3⟩ := cont m st2 n1 n2 B2.kind B2.failed B2.perm B2.pend (fun i hi => B2.oth i (.inl hi)) u2
      refine wpS_bind (wpS_get ?_)
      cases hb : (pendingOf st2).back? with
      | none => exact push m st2 n1 n2 S3 r3
      | some t =>
        obtain ⟨s1, l1, p1⟩ := t
        dsimp only
        refine wpS_bind (wpS_mono (wpS_forRange (I := fun _ c st' => c = (none, ()) ∧ SS O (arrOf st) lo st' ∧ Run O (arrOf st') lo (lo + m)) (Q := fun c st' => c = (none, ()) ∧ SS O (arrOf st) lo st' ∧ Run O (arrOf st') lo (lo + m)) ?ms ?mf ⟨rfl, S3, r3⟩) ?mp)
        case mf => exact fun c st' hI => hI
        case ms =>
          rintro y c st' _ hy ⟨rfl, S', r'⟩
          refine wpS_bind (wpS_get ?_)
          by_cases hz : (pendingOf st').size > 1
          · rw [if_pos hz, G3 (by omega)]
            dsimp only
            split
            · exact wpS_pure ⟨rfl, S', r'⟩
            · refine wpS_bind (wpS_mergeS S' (by omega) fun st5 S5 _ ho => ?_)
              rw [if_neg (by simp)]
              exact wpS_pure ⟨rfl, S5, r'.same ((sz S5).trans (sz S').symm) fun j hj _ => ho j hj⟩
          · rw [if_neg hz]
            exact wpS_pure ⟨rfl, S', r'⟩
        case mp =>
          rintro c st4 ⟨rfl, S4, r4⟩
          dsimp only
          refine wpS_bind (wpS_modify ?_)
          refine push m _ n1 n2 ⟨S4.kind, S4.failed, S4.perm, S4.ok, ?_⟩ r4
          refine S4.chain.pw ?_
          show ((pendingOf st4).modify _ _).toList.map _ = _
          rw [Array.toList_modify]
          refine map_modify _ _ ?_ _ _
          intro x
          rfl
end
end TS

set_option Elab.async false
set_option linter.all false
set_option maxRecDepth 100000
set_option maxHeartbeats 4000000
namespace TS
open PySem PyProof.Rows

/-! ### comparisons by a key -/
section
variable {prog : Program} {w : World}
theorem lt_ask {A : Around} {E : Value → Shared → Prop} {s : Shared} {κ : SortKind} {st : SortSt} {x y : Keyed} {b : Bool} {Q : Option Bool → SortSt → Prop} (hk : kindOf st = κ)
    (h : ∀ (E : Value → Shared → Prop) (Q : Bool → Shared → Prop), Q b s → wpAny (model prog w) A (keyLt' κ x.1 y.1) Q E s) (q : Q (some b) st) : wpS (model prog w) A E s (lt' x y) Q st := by
  rw [lt'_eq]
  refine wpS_bind (wpS_get ?_)
  rw [hk]
  refine wpS_bind (wpS_lift (wpAny_attempt (h _ _ ⟨rfl, ?_⟩)))
  exact wpS_pure q

def kInt (p : Keyed) : Int := match p.1 with
  | .int a _ => a
  | _ => 0
def cmpInt (A : Around) (s : Shared) : Cmp oneType' prog w A s where
  ok := fun p => ∃ a t, p.1 = .int a t
  r := fun p q => decide (kInt p < kInt q)
  ask := fun {E st x y Q} hk hx hy hq => by
    obtain ⟨a, t, ex⟩ := hx
    obtain ⟨b, u, ey⟩ := hy
    refine lt_ask hk (b := decide (kInt x < kInt y)) (fun E Q q => ?_) hq
    rw [ex, ey, keyLt'_oneType]
    have : decide (kInt x < kInt y) = decide (a < b) := by unfold kInt; rw [ex, ey]
    rw [this] at q
    exact oneLt_int q
  irrefl := fun a => by simp
  trans := fun a b c h1 h2 => by simp only [decide_eq_true_eq] at *; omega
  neg := fun a b c h => by simp only [decide_eq_true_eq] at *; omega

/-- pairs of ints, as the heap has them -/
def kPair (h : Heap) (p : Keyed) : Int × Int := match p.1 with
  | .ref a => match h.get? a with
    | some o => match o.data with
      | .seq xs _ => match xs.toList with
        | [.int x _, .int y _] => (x, y)
        | _ => (0, 0)
      | _ => (0, 0)
    | none => (0, 0)
  | _ => (0, 0)
def lexP (p q : Int × Int) : Bool := if p.1 = q.1 then decide (p.2 < q.2) else decide (p.1 < q.1)
theorem kPair_of {h : Heap} {p : Keyed} {a : Addr} {o : Obj} {x y : Int} {t u : Tok} {n : Nat} (e : p.1 = .ref a) (ho : h.get? a = some o) (hd : o.data = .seq #[.int x t, .int y u] n) : kPair h p = (x, y) := by
  unfold kPair
  rw [e]
  dsimp only
  rw [ho]
  dsimp only
  rw [hd]
def IsPair (h : Heap) (v : Value) : Prop := ∃ a o x t y u n, v = .ref a ∧ h.get? a = some o ∧ o.cls = .type "tuple" ∧ o.data = .seq #[.int x t, .int y u] n

theorem pair_lt {A : Around} {E : Value → Shared → Prop} {s : Shared} {p q : Keyed} {Q : Bool → Shared → Prop} (hp : IsPair s.heap p.1) (hq : IsPair s.heap q.1) (h : Q (lexP (kPair s.heap p) (kPair s.heap q)) s) :
    wpAny (model prog w) A (keyLt' (tuples' true) p.1 q.1) Q E s := by
  obtain ⟨a, o, x, t, y, u, n, e1, ho, hc, hd⟩ := hp
  obtain ⟨b, o', x', t', y', u', n', e1', ho', hc', hd'⟩ := hq
  rw [kPair_of e1 ho hd, kPair_of e1' ho' hd'] at h
  rw [e1, e1']
  refine PySem.W.kat_lt ho hd ho' hd' ?_
  show PySem.W.KatLex prog w A true _ Q [(.int x t, .int x' t'), (.int y u, .int y' u')] 0 s
  refine PySem.W.kat_cons (wpAny_eqBool_int (PySem.W.kat_go (fun e => ?_) (fun e => ?_)))
  · have ex : x = x' := by simpa using e
    subst ex
    refine PySem.W.kat_yes (PySem.W.kat_cons (wpAny_eqBool_int (PySem.W.kat_go (fun e2 => ?_) (fun e2 => ?_))))
    · have ey : y = y' := by simpa using e2
      subst ey
      refine PySem.W.kat_yes (PySem.W.kat_nil ?_)
      have : lexP (x, y) (x, y) = decide (((#[.int x t, .int y u] : Array Value)).size < ((#[.int x t', .int y u'] : Array Value)).size) := by simp [lexP]
      rw [this] at h
      exact h
    · refine PySem.W.kat_no ?_
      refine PySem.W.kat_one _ _ (lt_int ?_)
      have : lexP (x, y) (x, y') = decide (y < y') := by simp [lexP]
      rw [this] at h
      exact h
  · have ex : ¬ x = x' := by simpa using e
    refine PySem.W.kat_no (oneLt_int ?_)
    have : lexP (x, y) (x', y') = decide (x < x') := by simp [lexP, ex]
    rw [this] at h
    exact h

def cmpPair (A : Around) (s : Shared) : Cmp (tuples' true) prog w A s where
  ok := fun p => IsPair s.heap p.1
  r := fun p q => lexP (kPair s.heap p) (kPair s.heap q)
  ask := fun {E st x y Q} hk hx hy hq => lt_ask hk (fun E Q q => pair_lt hx hy q) hq
  irrefl := fun a => by simp [lexP]
  trans := fun a b c h1 h2 => by
    generalize kPair s.heap a = p at *
    generalize kPair s.heap b = q at *
    generalize kPair s.heap c = r at *
    unfold lexP at *
    split at h1 <;> split at h2 <;> split <;> simp only [decide_eq_true_eq] at * <;> omega
  neg := fun a b c h => by
    generalize kPair s.heap a = p at *
    generalize kPair s.heap b = q at *
    generalize kPair s.heap c = r at *
    unfold lexP at *
    split at h <;> split <;> split <;> simp only [decide_eq_true_eq] at * <;> omega
end

/-! ### list.sort of any length -/
section
variable {prog : Program} {w : World} {A : Around} {E : Value → Shared → Prop} {s : Shared}

/-- what is to be known of the items, at every heap that keeps what is not the list itself -/
def Sorts (prog : Program) (w : World) (a : Addr) (h0 : Heap) (vs : List Value) (R : Value → Value → Bool) : Prop :=
  ∀ (A : Around) (s : Shared), (∀ b o, b ≠ a → h0.get? b = some o → s.heap.get? b = some o) → 2 ≤ vs.length →
    ∃ (κ : SortKind) (O : Cmp κ prog w A s), (∀ p ∈ (pairsOf vs).toList, O.ok p) ∧ (∀ (E : Value → Shared → Prop) (Q : SortKind → Shared → Prop), Q κ s → wpAny (model prog w) A (keyKind' vs.toArray) Q E s) ∧
      ∀ u v, u ∈ vs → v ∈ vs → O.r (u, u) (v, v) = R u v

theorem pairs_mem {vs : List Value} {p : Keyed} (h : p ∈ (pairsOf vs).toList) : p.1 ∈ vs ∧ p.1 = p.2 := by
  rw [pairsOf_toList] at h
  obtain ⟨i, hi⟩ := List.getElem?_of_mem h
  rw [List.getElem?_zip_eq_some] at hi
  refine ⟨List.mem_of_getElem? hi.1, ?_⟩
  have := hi.1.symm.trans hi.2
  exact Option.some.inj this

theorem list_sort_any {a : Addr} {vs : List Value} {n : Nat} {R : Value → Value → Bool} {P : PySem.Fin → Shared → Prop} (ho : s.heap.get? a = some (seqObj "list" vs.toArray n)) (hz : vs.length ≤ sizeLine) (hR : ∀ v, R v v = false) (hS : Sorts prog w a s.heap vs R)
    (h : ∀ (out : List Value) (h' : Heap) (n' : Nat), out.Perm vs → out.Pairwise (fun u v => R v u = false) → (∀ b o, b ≠ a → s.heap.get? b = some o → h'.get? b = some o) → h'.get? a = some (seqObj "list" out.toArray n') → P (.done (.ret .none)) { s with heap := h' }) :
    wpAny (model prog w) A (Builtin.«list.sort» ⟨[.ref a], []⟩) P E s := by
  rw [list_sort_plain]
  have ha : a < s.heap.objs.size := Heap.lt_size ho
  refine wpAny_bind (listItems_at ho rfl ?_)
  refine wpAny_bind (listUpdate_at ho rfl ?_ (by rw [List.size_toArray]; exact hz) (Nat.zero_le _))
  obtain ⟨e1, ho1⟩ : ∃ e1, (s.heap.update a (Obj.mapSeq fun _ => #[])).get? a = some (seqObj "list" #[] e1) := ⟨_, get?_update_seq ho (fun _ => #[])⟩
  refine wpAny_bind (seqEpoch_at ho1 rfl ?_)
  refine wpAny_bind (wpAny_newTuple ?_ (by show vs.length ≤ _; exact hz))
  refine wpAny_bind (wpAny_newList ?_ (Nat.zero_le _))
  refine wpAny_holding ?_
  have ho6 : (((s.heap.update a (Obj.mapSeq fun _ => #[])).push (seqObj "tuple" vs.toArray 0)).push (seqObj "list" #[] 0)).get? a = some (seqObj "list" #[] e1) := by
    rw [Heap.get?_push_ne _ _ _ (by rw [size_push', Heap.size_update]; exact Nat.ne_of_lt (Nat.lt_succ_of_lt ha)), Heap.get?_push_ne _ _ _ (by rw [Heap.size_update]; exact Nat.ne_of_lt ha)]
    exact ho1
  show wpAny (model prog w) A _ P E { s with heap := ((s.heap.update a (Obj.mapSeq fun _ => #[])).push (seqObj "tuple" vs.toArray 0)).push (seqObj "list" #[] 0) }
  have keep : ∀ b o, b ≠ a → s.heap.get? b = some o → (((s.heap.update a (Obj.mapSeq fun _ => #[])).push (seqObj "tuple" vs.toArray 0)).push (seqObj "list" #[] 0)).get? b = some o := fun b o hb e => by
    refine Heap.get?_push_of_some _ (Heap.get?_push_of_some _ ?_)
    rw [Heap.get?_update_ne _ _ _ _ hb]
    exact e
  generalize hH6 : ((s.heap.update a (Obj.mapSeq fun _ => #[])).push (seqObj "tuple" vs.toArray 0)).push (seqObj "list" #[] 0) = H6 at ho6 keep ⊢
  dsimp only
  have hsz : vs.toArray.size = vs.length := by simp
  -- the end, for any sorted array
  have fin : ∀ out : List Value, out.Perm vs → out.Pairwise (fun u v => R v u = false) →
      P (.done (.ret .none)) { s with heap := H6.update a (Obj.mapSeq fun _ => out.toArray) } := fun out hp hw =>
    h out _ _ hp hw (fun b o hb e => by rw [Heap.get?_update_ne _ _ _ _ hb]; exact keep b o hb e) (get?_update_seq ho6 fun _ => out.toArray)
  by_cases h2 : vs.toArray.size < 2
  · rw [if_pos h2, if_pos h2]
    refine wpAny_bind (wpAny_pure ?_)
    rw [StateT.run_pure]
    refine wpAny_bind (wpAny_pure ?_)
    dsimp only
    have e0 : (vs.toArray.zip vs.toArray).map (·.2) = vs.toArray := by
      apply Array.toList_inj.mp
      have hz := List.map_snd_zip (l₁ := vs) (l₂ := vs) (Nat.le_refl _)
      simpa using hz
    refine wpAny_bind (seqEpoch_at ho6 rfl ?_)
    refine wpAny_bind (listUpdate_at ho6 rfl ?_ (Nat.zero_le _) (by show ((vs.toArray.zip vs.toArray).map (·.2)).size ≤ _; rw [e0, hsz]; omega))
    simp only [bne_self_eq_false, Bool.false_eq_true, if_false]
    refine wpAny_pure ?_
    show P _ { s with heap := H6.update a (Obj.mapSeq fun _ => (vs.toArray.zip vs.toArray).map (·.2)) }
    rw [e0]
    refine fin vs (List.Perm.refl _) ?_
    have h2' : vs.length < 2 := by omega
    clear fin hS h ho hz ho6 keep hH6 e0
    match vs, h2' with
    | [], _ => exact List.Pairwise.nil
    | [v], _ => exact List.pairwise_singleton _ _
    | _ :: _ :: _, h2' => exact absurd h2' (by simp)
  · rw [if_neg h2, if_neg h2]
    have h2' : 2 ≤ vs.length := by omega
    obtain ⟨κ, O, hok, hkk, hr⟩ := hS A { s with heap := H6 } keep h2'
    refine wpAny_bind (hkk _ _ ?_)
    refine wpAny_bind (wpAny_mono (wpS_sortRunsO (O := O) (st := SortSt.mk' κ (vs.toArray.zip vs.toArray) #[] 7 none)
      (Q := fun _ st' => (arrOf st').Perm (pairsOf vs) ∧ failedOf st' = none ∧ Run O (arrOf st') 0 (arrOf st').size)
      rfl rfl rfl hok (by show 1 ≤ (pairsOf vs).size; rw [pairsOf_size]; omega) fun st' a1 a2 a3 => ⟨a1, a2, a3⟩) ?_ fun _ _ e => e)
    rintro ⟨⟨⟩, st'⟩ s' ⟨rfl, hp, hf, hs⟩
    dsimp only
    have hpl : (arrOf st').toList.Perm (vs.zip vs) := by
      have := hp.toList
      rwa [pairsOf_toList] at this
    have hout : ((arrOf st').map (·.2)).toList.Perm vs := by
      rw [Array.toList_map]
      have := hpl.map (·.2)
      rwa [show (vs.zip vs).map (·.2) = vs from List.map_snd_zip (Nat.le_refl _)] at this
    refine wpAny_bind (seqEpoch_at ho6 rfl ?_)
    refine wpAny_bind (listUpdate_at ho6 rfl ?_ (Nat.zero_le _) (by
      show ((arrOf st').map (·.2)).size ≤ _
      rw [← Array.length_toList, hout.length_eq]; omega))
    rw [hf]
    simp only [bne_self_eq_false, Bool.false_eq_true, if_false]
    refine wpAny_pure ?_
    have e0 : (arrOf st').map (·.2) = ((arrOf st').map (·.2)).toList.toArray := (Array.toArray_toList).symm
    show P _ { s with heap := H6.update a (Obj.mapSeq fun _ => (arrOf st').map (·.2)) }
    rw [e0]
    refine fin _ hout ?_
    rw [List.pairwise_iff_getElem]
    intro i j hi hj hij
    have hsz' : ((arrOf st').map (·.2)).toList.length = (arrOf st').size := by simp
    have hi' : i < (arrOf st').size := by omega
    have hj' : j < (arrOf st').size := by omega
    have q := hs.srt i j (Nat.zero_le _) (Nat.le_of_lt hij) hj'
    have m : ∀ k (hk : k < (arrOf st').size), ∃ v, v ∈ vs ∧ G (arrOf st') k = (v, v) ∧ ((arrOf st').map (·.2)).toList[k]'(by omega) = v := fun k hk => by
      have g := G_get hk
      have mem : G (arrOf st') k ∈ (pairsOf vs).toList := by
        rw [pairsOf_toList]
        refine hpl.mem_iff.mp ?_
        exact List.mem_of_getElem? (by rw [Array.getElem?_toList]; exact g)
      obtain ⟨m1, m2⟩ := pairs_mem mem
      refine ⟨(G (arrOf st') k).1, m1, ?_, ?_⟩
      · rw [Prod.ext_iff]; exact ⟨rfl, m2.symm⟩
      · have e : (arrOf st')[k] = G (arrOf st') k := by
          have := g
          rw [Array.getElem?_eq_getElem hk] at this
          exact Option.some.inj this
        simp only [Array.toList_map, List.getElem_map, Array.getElem_toList]
        rw [e, m2]
    obtain ⟨u, mu, gu, eu⟩ := m i hi'
    obtain ⟨v, mv, gv, ev⟩ := m j hj'
    rw [eu, ev, ← hr v u mv mu]
    unfold Cmp.le at q
    rw [gu, gv] at q
    exact q

theorem list_sort_call {D : Addr} {vs : List Value} {n : Nat} {R : Value → Value → Bool} {Q : Value → Shared → Prop} (ho : s.heap.get? D = some (seqObj "list" vs.toArray n)) (hz : vs.length ≤ sizeLine) (hR : ∀ v, R v v = false) (hS : Sorts prog w D s.heap vs R)
    (h : ∀ (out : List Value) (h' : Heap) (n' : Nat), out.Perm vs → out.Pairwise (fun u v => R v u = false) → (∀ b o, b ≠ D → s.heap.get? b = some o → h'.get? b = some o) → h'.get? D = some (seqObj "list" out.toArray n') → Q .none { s with heap := h' }) :
    wpAny (model prog w) A (call (.builtin "list.sort") [.ref D]) Q E s :=
  wpAny_call_entry slot_list_sort ⟨_, ho, rfl⟩ entry_list_sort (list_sort_any ho hz hR hS fun out h' n' a1 a2 a3 a4 => ⟨_, rfl, h out h' n' a1 a2 a3 a4⟩) (args_list_sort _)

/-- sorted(r), by what is collected of r -/
theorem sorted_by {r : Addr} {Q : Value → Shared → Prop} (R : Value → Value → Bool) (hR : ∀ v, R v v = false)
    (h : wpAny (model prog w) A.in1 (collect (.ref r)) (fun vs s1 => vs.length ≤ sizeLine ∧ Sorts prog w s1.heap.objs.size s1.heap vs R ∧
      ∀ (out : List Value) (h' : Heap) (n' : Nat), out.Perm vs → out.Pairwise (fun u v => R v u = false) → (∀ b o, s1.heap.get? b = some o → h'.get? b = some o) → h'.get? s1.heap.objs.size = some (seqObj "list" out.toArray n') →
        Q (.ref s1.heap.objs.size) { s1 with heap := h' }) E s) :
    wpAny (model prog w) A (call (.builtin "sorted") [.ref r]) Q E s := by
  refine Calls.call_function_entry kind_sorted plain_sorted entry_sorted (args_sorted1 _) ?_
  unfold Builtin.«sorted»
  refine wpAny_bind (m := checkCount "sorted" 1 1 _) (wpAny_pure ?_)
  refine wpAny_bind (wpAny_mono h (fun vs s1 ⟨hz, hS, k⟩ => ?_) fun _ _ e => e)
  refine wpAny_bind (wpAny_newList ?_ hz)
  refine wpAny_bind (wpAny_holding (list_sort_call (s := { s1 with heap := s1.heap.push (seqObj "list" vs.toArray 0) }) (D := s1.heap.objs.size) (n := 0) (Heap.get?_push_size _ rfl) hz hR (fun A' s' hk h2 => hS A' s' (fun b o hb e => hk b o hb (Heap.get?_push_of_some _ e)) h2)
    fun out h' n' a1 a2 a3 a4 => ?_))
  exact wpAny_pure ⟨_, rfl, k out h' n' a1 a2 (fun b o e => a3 b o (Nat.ne_of_lt (Heap.lt_size e)) (Heap.get?_push_of_some _ e)) a4⟩
end

/-! ### the two sorts that are met: ints, pairs of ints -/
section
variable {prog : Program} {w : World}
def rInt (u v : Value) : Bool := match u, v with
  | .int a _, .int b _ => decide (a < b)
  | _, _ => false
theorem rInt_irr (v : Value) : rInt v v = false := by
  unfold rInt; cases v <;> simp
theorem sorts_ints {a : Addr} {h0 : Heap} {vs : List Value} {ns : List Int} (hI : IntsAre vs ns) : Sorts prog w a h0 vs rInt := fun A s _ h2 => by
  have hm : ∀ v ∈ vs, ∃ n t, v = .int n t := fun v hv => by
    obtain ⟨i, hi⟩ := List.getElem?_of_mem hv
    obtain ⟨t, e⟩ := IntsAre.int_at hI i v hi
    exact ⟨_, t, e⟩
  refine ⟨oneType', cmpInt A s, fun p hp => ?_, fun E Q q => ?_, fun u v hu hv => ?_⟩
  · obtain ⟨m, _⟩ := pairs_mem hp
    exact hm _ m
  · match vs, h2, hI with
    | v₁ :: v₂ :: rest, _, hI => rw [keyKind_ints hI]; exact wpAny_pure q
  · obtain ⟨n, t, rfl⟩ := hm u hu
    obtain ⟨n', t', rfl⟩ := hm v hv
    rfl
def rPair (h : Heap) (u v : Value) : Bool := lexP (kPair h (u, u)) (kPair h (v, v))
theorem rPair_irr (h : Heap) (v : Value) : rPair h v v = false := by unfold rPair; simp [lexP]
theorem kPair_keep {h h' : Heap} {v : Value} (p : IsPair h v) (k : ∀ b o, h.get? b = some o → h'.get? b = some o) : kPair h' (v, v) = kPair h (v, v) := by
  obtain ⟨a, o, x, t, y, u, n, e1, ho, hc, hd⟩ := p
  rw [kPair_of (p := (v, v)) e1 ho hd, kPair_of (p := (v, v)) e1 (k _ _ ho) hd]
theorem sorts_pairs {a : Addr} {g h0 : Heap} {vs : List Value} (hg : ∀ b o, g.get? b = some o → h0.get? b = some o) (hI : ∀ v ∈ vs, IsPair g v) (hna : ∀ v ∈ vs, v ≠ .ref a) : Sorts prog w a h0 vs (rPair g) := fun A s hk h2 => by
  have hp : ∀ v ∈ vs, IsPair s.heap v ∧ kPair s.heap (v, v) = kPair g (v, v) := fun v hv => by
    obtain ⟨b, o, x, t, y, u, n, e1, ho, hc, hd⟩ := hI v hv
    have hb : b ≠ a := fun z => hna v hv (by rw [e1, z])
    have ho' := hk b o hb (hg b o ho)
    exact ⟨⟨b, o, x, t, y, u, n, e1, ho', hc, hd⟩, by rw [kPair_of (p := (v, v)) e1 ho hd, kPair_of (p := (v, v)) e1 ho' hd]⟩
  refine ⟨tuples' true, cmpPair A s, fun p hpp => ?_, fun E Q q => ?_, fun u v hu hv => ?_⟩
  · obtain ⟨m, _⟩ := pairs_mem hpp
    exact (hp _ m).1
  · have tt : ∀ l : List Value, (∀ v ∈ l, IsPair s.heap v) → ∃ fs, PySem.W.KatTups s.heap l fs ∧ fs.length = l.length ∧ ∀ f ∈ fs, ∃ x t, f = .int x t := fun l => by
      induction l with
      | nil => exact fun _ => ⟨[], .nil, rfl, fun _ h => nomatch h⟩
      | cons v l ih =>
        intro hl
        obtain ⟨fs, h1, h2, h3⟩ := ih fun x hx => hl x (List.mem_cons_of_mem _ hx)
        obtain ⟨b, o, x, t, y, u, n, e1, ho, hc, hd⟩ := hl v List.mem_cons_self
        subst e1
        refine ⟨.int x t :: fs, .cons ho hc hd rfl h1, by simp [h2], fun f hf => ?_⟩
        rcases List.mem_cons.mp hf with e | hf
        · exact ⟨x, t, e⟩
        · exact h3 f hf
    obtain ⟨fs, h1, hl, h3⟩ := tt vs fun v hv => (hp v hv).1
    refine PySem.W.kat_kind (T := .type "int") h1 (by omega) (fun v hv => ?_) rfl q
    obtain ⟨x, t, rfl⟩ := h3 v hv
    exact PySem.W.Looks.now
  · show lexP _ _ = lexP _ _
    rw [(hp u hu).2, (hp v hv).2]
end
end TS

set_option Elab.async false
set_option linter.all false
set_option maxRecDepth 100000
set_option maxHeartbeats 4000000
namespace L2
open PySem PySem.Spec PyProof.Rows

/-! ### ints as values -/
def ivI : Value → Int
  | .int a _ => a
  | _ => 0
theorem vals_ints_of : ∀ {out : List Value}, (∀ v ∈ out, ∃ n t, v = Value.int n t) → Vals ((out.map ivI).map V.int) out
  | [], _ => .nil
  | v :: r, h => by
    obtain ⟨n, t, rfl⟩ := h v List.mem_cons_self
    exact .cons ⟨t, rfl⟩ (vals_ints_of fun u hu => h u (List.mem_cons_of_mem _ hu))
theorem ints_map : ∀ {vs : List Value} {ns : List Int}, IntsAre vs ns → vs.map ivI = ns ∧ ∀ v ∈ vs, ∃ n t, v = Value.int n t
  | _, _, .nil => ⟨rfl, fun _ h => nomatch h⟩
  | _, _, .cons n t h => by
    obtain ⟨h1, h2⟩ := ints_map h
    refine ⟨by simp [ivI, h1], fun v hv => ?_⟩
    rcases List.mem_cons.mp hv with e | hv
    · exact ⟨n, t, e⟩
    · exact h2 v hv
theorem ints_of_nth : ∀ {vs : List Value} {ns : List Int}, vs.length = ns.length → (∀ j v, vs[j]? = some v → ∃ t, v = Value.int (ns.getD j 0) t) → IntsAre vs ns
  | [], [], _, _ => .nil
  | [], _ :: _, h, _ => by simp at h
  | _ :: _, [], h, _ => by simp at h
  | v :: vs, n :: ns, h, k => by
    obtain ⟨t, e⟩ := k 0 v rfl
    have e' : v = Value.int n t := e
    subst e'
    exact .cons n t (ints_of_nth (by simpa using h) fun j u hj => k (j + 1) u (by simpa using hj))
theorem out_ints {vs out : List Value} {ns : List Int} (hI : IntsAre vs ns) (hp : out.Perm vs) (hw : out.Pairwise fun u v => TS.rInt v u = false) : ∃ ms : List Int, Vals (ms.map V.int) out ∧ ms.Perm ns ∧ ms.Pairwise (· ≤ ·) := by
  obtain ⟨h1, h2⟩ := ints_map hI
  have h3 : ∀ v ∈ out, ∃ n t, v = Value.int n t := fun v hv => h2 v (hp.mem_iff.mp hv)
  refine ⟨out.map ivI, vals_ints_of h3, h1 ▸ hp.map ivI, ?_⟩
  rw [List.pairwise_map]
  refine hw.imp_of_mem fun {a b} ha hb q => ?_
  obtain ⟨n, t, rfl⟩ := h3 a ha
  obtain ⟨m, u, rfl⟩ := h3 b hb
  have q' : decide (m < n) = false := q
  have := of_decide_eq_false q'
  show n ≤ m
  omega

theorem perm_unmap {α β : Type} {f : α → β} : ∀ {l m : List β}, l.Perm m → ∀ es : List α, m = es.map f → ∃ fs : List α, fs.Perm es ∧ l = fs.map f := by
  intro l m h
  induction h with
  | nil => intro es e; exact ⟨es, .refl _, e⟩
  | cons x h ih =>
    intro es e
    cases es with
    | nil => simp at e
    | cons y es =>
      simp only [List.map_cons, List.cons.injEq] at e
      obtain ⟨fs, h1, h2⟩ := ih es e.2
      exact ⟨y :: fs, h1.cons y, by simp [e.1, h2]⟩
  | swap x y l =>
    intro es e
    match es, e with
    | [], e => simp at e
    | [_], e => simp at e
    | a :: b :: es, e =>
      simp only [List.map_cons, List.cons.injEq] at e
      exact ⟨b :: a :: es, .swap a b es, by simp [e.1, e.2.1, e.2.2]⟩
  | trans h1 h2 i1 i2 =>
    intro es e
    obtain ⟨fs, p1, e1⟩ := i2 es e
    obtain ⟨gs, p2, e2⟩ := i1 fs e1
    exact ⟨gs, p2.trans p1, e2⟩

section
variable {X : Cx}
theorem ObjOk.there {P : Program} {w : World} {H : Hp} {h : Heap} {a : Addr} {o : HO} (x : ObjOk P w H h a o) : ∃ ob, h.get? a = some ob := by
  cases o with
  | lst xs => obtain ⟨_, _, _, _, e⟩ := x; exact ⟨_, e⟩
  | tup xs => obtain ⟨_, _, _, o, e, _⟩ := x; exact ⟨_, e⟩
  | dK kvs => obtain ⟨_, _, _, _, o, _, _, e, _⟩ := x; exact ⟨_, e⟩
  | dT kvs => obtain ⟨_, _, _, _, o, _, _, e, _⟩ := x; exact ⟨_, e⟩
  | set S n => obtain ⟨o, _, _, _, e, _⟩ := x; exact ⟨_, e⟩
  | ins C dx fs => obtain ⟨_, _, _, e, _⟩ := x; exact ⟨_, e⟩
  | own y => obtain ⟨_, e⟩ := x; exact ⟨_, e⟩
  | xd fs => obtain ⟨_, ⟨_, _, _, e, _⟩, _⟩ := x; exact ⟨_, e⟩
  | rng lo hi => obtain ⟨_, _, _, e⟩ := x; exact ⟨_, e⟩
  | frz ob u => obtain ⟨e, _⟩ := x; exact ⟨_, e⟩
  | tbl ps => exact ⟨_, (show h.get? a = some _ from x)⟩
  | met f y => exact ⟨_, (show h.get? a = some _ from x)⟩
  | ext φ => obtain ⟨_, ⟨_, e⟩, _⟩ := x; exact ⟨_, e⟩
/-- a list that stands behind all that stood -/
theorem list_fin {pins : List (Addr × Obj)} {σ : St} {H : Hp} {s : Shared} {Q : VK} {h' : Heap} {D : Addr} {out : List Value} {ys : List V} {n' tk : Nat} (I : Inv X pins σ H s) (hk : ∀ b o, s.heap.get? b = some o → h'.get? b = some o) (hD : ∀ b o, s.heap.get? b = some o → b < D)
    (he : h'.get? D = some (seqObj "list" out.toArray n')) (rv : Vals ys out) (hz : ys.length ≤ sizeLine) (q : ∀ H2, New H D (.lst ys) H2 → Q (.ref D) H2) : EP X pins σ Q (.ref D) { s with heap := h', toks := tk } := by
  have hn : H D = none := by
    cases e : H D with
    | none => rfl
    | some u =>
      obtain ⟨ob, e2⟩ := (I.hok D u e).there
      exact absurd (hD D ob e2) (Nat.lt_irrefl _)
  obtain ⟨m, ⟨oL, _, _, eL, _⟩, _⟩ := I.loc
  have hL := hD _ _ eL
  refine ⟨.ref D, upd H D (.lst ys), (I.kept (h' := h') (t' := tk) hk).track hn (.inr (Nat.le_trans I.ok.above (Nat.le_of_lt hL))) (Nat.ne_of_gt hL) (fun x c e => ?_) (fun p hp => ?_) ⟨hz, out, n', rv, he⟩, rfl, q _ (.upd hn)⟩
  · obtain ⟨v, ⟨oc, e2, _⟩⟩ := I.cell x c e
    exact Nat.ne_of_lt (hD _ _ e2)
  · exact Nat.ne_of_lt (hD _ _ (I.pin p hp).1)

/-! ### sorted(a list of ints) -/
def rSortI : List V → Hp → VK → Prop := fun xs H Q => ∃ p ns, xs = [.ref p] ∧ Rd H p (.lst (ns.map V.int)) ∧ ∀ (l : Addr) (ms : List Int) H2, ms.Perm ns → ms.Pairwise (· ≤ ·) → New H l (.lst (ms.map V.int)) H2 → Q (.ref l) H2
theorem push_update_keep {h : Heap} {o : Obj} {f : Obj → Obj} : ∀ b u, h.get? b = some u → ((h.push o).update h.objs.size f).get? b = some u := fun b u e => by
  rw [Heap.get?_update_ne _ _ _ _ (Nat.ne_of_lt (Heap.lt_size e))]
  exact Heap.get?_push_of_some _ e
theorem sort_ints : CallR X (.builtin "sorted") rSortI := by
  intro pins s σ H xs us Q I r h
  obtain ⟨p, ns, rfl, hp, q⟩ := h
  obtain ⟨u, rfl, ru⟩ := vals1 r
  cases ru
  obtain ⟨its, rv, pl, hz⟩ := I.list (.inl hp)
  have hI := intsAre_of rv
  have hl := rv.length
  refine TS.sorted_by TS.rInt TS.rInt_irr (collect_list pl.isList ⟨by omega, TS.sorts_ints hI, fun out h' n' a1 a2 a3 a4 => ?_⟩ (by omega))
  obtain ⟨ms, v1, v2, v3⟩ := out_ints hI a1 a2
  have hms : (ms.map V.int).length ≤ sizeLine := by
    rw [v1.length, a1.length_eq]; omega
  exact list_fin (s := s) (tk := s.toks) I (fun b o e => a3 b o (push_update_keep b o e)) (fun b o e => Heap.lt_size (push_update_keep b o e)) a4 v1 hms fun H2 n => q _ ms H2 v2 v3 n

/-! ### sorted(a dict with ints as keys) -/
def rSortD : List V → Hp → VK → Prop := fun xs H Q => ∃ p kvs ns, xs = [.ref p] ∧ Rd H p (.dK kvs) ∧ kvs.map (·.1) = ns.map Sum.inl ∧ ∀ (l : Addr) (ms : List Int) H2, ms.Perm ns → ms.Pairwise (· ≤ ·) → New H l (.lst (ms.map V.int)) H2 → Q (.ref l) H2
theorem sort_dict (hc : X.calm = true) : CallR X (.builtin "sorted") rSortD := by
  intro pins s σ H xs us Q I r h
  obtain ⟨p, kvs, ns, rfl, hp, hk, q⟩ := h
  obtain ⟨u, rfl, ru⟩ := vals1 r
  cases ru
  obtain ⟨hz, hsys, vs, kv, hd⟩ := dk_rd I.hok hp
  obtain ⟨ep, hat⟩ := hd.dictAt
  have hl : kvs.length = vs.length := kv.length
  have hkeys : vs.map (·.1) = ns.map Sum.inl := kv.keys ▸ hk
  have hn : ns.length = vs.length := by
    have := congrArg List.length hkeys
    simpa using this.symm
  refine TS.sorted_by TS.rInt TS.rInt_irr (PySem.W.kdu_collect (A := X.A.in1) (PySem.W.kdl_dict (knd := mixKind X.prog X.w) (kvs := vs) (ep := ep) hsys) (I.ok.hd hc) hat (by omega) fun h1 tk acc hk1 hacc => ?_)
  have hI : IntsAre acc.toList ns := by
    refine ints_of_nth (by rw [Array.length_toList, hacc.1]; omega) fun j v e => ?_
    obtain ⟨k, x, e1, e2⟩ := hacc.2 j v (by rw [← Array.getElem?_toList]; exact e)
    have e3 : (vs.map (·.1))[j]? = some k := by rw [List.getElem?_map, e1]; rfl
    rw [hkeys, List.getElem?_map] at e3
    cases e4 : ns[j]? with
    | none => rw [e4] at e3; simp at e3
    | some m =>
      rw [e4] at e3
      have e5 : Sum.inl m = k := by simpa using e3
      subst e5
      obtain ⟨t, e6⟩ := Value.isInt_shape (k := m) (v := v) e2
      refine ⟨t, ?_⟩
      rw [List.getD_eq_getElem?_getD, e4]
      exact e6
  have hla : acc.toList.length = vs.length := by rw [Array.length_toList]; exact hacc.1
  refine ⟨by omega, TS.sorts_ints hI, fun out h' n' a1 a2 a3 a4 => ?_⟩
  obtain ⟨ms, v1, v2, v3⟩ := out_ints hI a1 a2
  have hms : (ms.map V.int).length ≤ sizeLine := by
    rw [v1.length, a1.length_eq]; omega
  exact list_fin (s := s) (tk := tk) I (fun b o e => a3 b o (hk1 b o e)) (fun b o e => Heap.lt_size (hk1 b o e)) a4 v1 hms fun H2 n => q _ ms H2 v2 v3 n

/-! ### sorted(a list of pairs of ints) -/
def rSortP : List V → Hp → VK → Prop := fun xs H Q => ∃ (p : Addr) (es : List (Addr × Int × Int)), xs = [.ref p] ∧ Rd H p (.lst (es.map fun e => V.ref e.1)) ∧ (∀ e ∈ es, Rd H e.1 (.tup [.int e.2.1, .int e.2.2])) ∧
  ∀ (l : Addr) (fs : List (Addr × Int × Int)) H2, fs.Perm es → fs.Pairwise (fun e f => TS.lexP f.2 e.2 = false) → New H l (.lst (fs.map fun e => V.ref e.1)) H2 → Q (.ref l) H2
theorem vals_refs : ∀ {es : List (Addr × Int × Int)} {us : List Value}, Vals (es.map fun e => V.ref e.1) us → us = es.map fun e => Value.ref e.1
  | [], _, .nil => rfl
  | e :: es, _, .cons r t => by
    have r' : _ = Value.ref e.1 := r
    rw [r', vals_refs t]
    rfl
theorem vals_refs' : ∀ (es : List (Addr × Int × Int)), Vals (es.map fun e => V.ref e.1) (es.map fun e => Value.ref e.1)
  | [] => .nil
  | e :: es => .cons rfl (vals_refs' es)
theorem sort_pairs : CallR X (.builtin "sorted") rSortP := by
  intro pins s σ H xs us Q I r h
  obtain ⟨p, es, rfl, hp, hes, q⟩ := h
  obtain ⟨u, rfl, ru⟩ := vals1 r
  cases ru
  obtain ⟨its, rv, pl, hz⟩ := I.list (.inl hp)
  have hl := rv.length
  have hits := vals_refs rv
  have hpair : ∀ e ∈ es, TS.IsPair s.heap (.ref e.1) ∧ TS.kPair s.heap (.ref e.1, .ref e.1) = e.2 := fun e he => by
    obtain ⟨z, us2, r2, o, ho, hcl, n, hd⟩ := (hes e he).ok I.hok
    obtain ⟨u1, u2, rfl, q1, q2⟩ := vals2 r2
    obtain ⟨t, rfl⟩ := q1
    obtain ⟨t', rfl⟩ := q2
    exact ⟨⟨e.1, o, e.2.1, t, e.2.2, t', n, rfl, ho, hcl, hd⟩, TS.kPair_of rfl ho hd⟩
  have hval : ∀ v ∈ its, ∃ e ∈ es, v = .ref e.1 := fun v hv => by
    rw [hits] at hv
    obtain ⟨e, he, rfl⟩ := List.mem_map.mp hv
    exact ⟨e, he, rfl⟩
  refine TS.sorted_by (TS.rPair s.heap) (TS.rPair_irr _) (collect_list pl.isList ⟨by omega, TS.sorts_pairs (g := s.heap) push_update_keep (fun v hv => ?_) (fun v hv z => ?_), fun out h' n' a1 a2 a3 a4 => ?_⟩ (by omega))
  · obtain ⟨e, he, rfl⟩ := hval v hv
    exact (hpair e he).1
  · obtain ⟨e, he, rfl⟩ := hval v hv
    obtain ⟨⟨b, o, _, _, _, _, _, e1, ho, _⟩, _⟩ := hpair e he
    have hb : e.1 = b := by injection e1
    have z' : e.1 = ((s.heap.push (seqObj "list" #[] 0)).update s.heap.objs.size (Obj.mapSeq (· ++ its.toArray))).objs.size := by injection z
    rw [Heap.size_update, size_push', hb] at z'
    have hlt : b < s.heap.objs.size := Heap.lt_size ho
    rw [z'] at hlt
    exact absurd (Nat.lt_trans (Nat.lt_succ_self _) hlt) (Nat.lt_irrefl _)
  · rw [hits] at a1
    obtain ⟨fs, p1, e1⟩ := perm_unmap a1 es rfl
    subst e1
    have hw : fs.Pairwise (fun e f => TS.lexP f.2 e.2 = false) := by
      rw [List.pairwise_map] at a2
      refine a2.imp_of_mem fun {x y} hx hy qq => ?_
      have q2 : TS.lexP (TS.kPair s.heap (.ref y.1, .ref y.1)) (TS.kPair s.heap (.ref x.1, .ref x.1)) = false := qq
      rw [(hpair x (p1.mem_iff.mp hx)).2, (hpair y (p1.mem_iff.mp hy)).2] at q2
      exact q2
    have hms : (fs.map fun e => V.ref e.1).length ≤ sizeLine := by
      rw [List.length_map, p1.length_eq]
      rw [List.length_map] at hz
      exact hz
    exact list_fin (s := s) (tk := s.toks) I (fun b o e => a3 b o (push_update_keep b o e)) (fun b o e => Heap.lt_size (push_update_keep b o e)) a4 (vals_refs' fs) hms fun H2 n => q _ fs H2 p1 hw n
end
end L2

set_option Elab.async false
set_option linter.all false
set_option maxRecDepth 100000
set_option maxHeartbeats 4000000
namespace RV
open PySem PySem.Spec PyProof.Rows
theorem nolen_lri : typeLookup (.type "list_reverseiterator") "__len__" = pure none := by rw [typeLookup_type, builtinLookup_eq_fast]; kernel_rfl
theorem hint_lri : typeLookup (.type "list_reverseiterator") "__length_hint__" = pure (some (.builtin "list_reverseiterator.__length_hint__")) := by rw [typeLookup_type, builtinLookup_eq_fast]; kernel_rfl
section
variable {prog : Program} {w : World} {A : Around} {s : Shared} {R : Result → Shared → Prop}
variable {I : Addr} {fp wr : List Addr} {G : Array GenState → Array GenState → Prop} {n : Nat} {P : Nat → Value → Prop} {St : Nat → Shared → Prop}
theorem extend_rev (W : WalksS prog w A.in1 I fp wr G n P St) (hT : ∀ i s, St i s → s.TypeIs (.ref I) "list_reverseiterator") (S : Addr) (res : Value) (c₀ : Nat) (hst : St 0 s) (hSf : S ∉ fp) (hI : I ∈ fp)
    (hS : s.heap.get? S = some { cls := .type "list", data := .seq #[] c₀ })
    (hR : ∀ s' acc' c', Moved (S :: wr) G s s' → s'.heap.get? S = some { cls := .type "list", dict := none, data := .seq acc' c', slots := #[] } → ItemsOf P acc' n → R (.ok (.ret res)) s') (hn : n ≤ sizeLine) :
    wpAny (model prog w) A.in1 (Builtin.List.listExtendWith (.ref S) (.ref I) res)
      (fun fin s' => match fin with | .done f => R (.ok f) s' | .again c' => c'.quiet = true ∧ codeAny (model prog w) A c' R s') (fun e s' => R (.error e) s') s := by
  have hSI : S ≠ I := fun e => hSf (e ▸ hI)
  unfold Builtin.List.listExtendWith
  refine wpAny_bind (wpAny_typeOf (hT 0 _ hst) ?_)
  have h1 : Builtin.List.listSameRef (.ref S) (.ref I) = false := by simp [Builtin.List.listSameRef, hSI]
  have h2 : (Value.type "list_reverseiterator" == Value.type "list") = false := by decide
  have h3 : (Value.type "list_reverseiterator" == Value.type "tuple") = false := by decide
  simp only [h1, h2, h3, Bool.or_false, Bool.false_eq_true, if_false]
  refine wpAny_bind (W.self 0 _ _ _ hst ?_)
  refine wpAny_bind (wpAny_holding ?_)
  unfold Builtin.List.listLengthHint
  refine wpAny_bind (wpAny_specialOf (hT 0 _ hst) nolen_lri ?_)
  show wpAny _ A.in1 (specialOf (Value.ref I) (Str.ofString "__length_hint__") >>= _) _ _ _
  refine wpAny_bind (wpAny_specialOf (hT 0 _ hst) hint_lri ?_)
  (generalize hid : ("list_reverseiterator.__length_hint__" : String) = id0; wp_delta; rw [show splitId id0 = some ("list_reverseiterator", "__length_hint__") from by subst hid; decide +kernel]; subst hid)
  refine wpAny_bind (wpAny_isInstance (b := true) (hT 0 _ hst) (by rw [isSubtype_type]; kernel_rfl) ?_)
  refine wpAny_pure ?_
  rw [if_neg (by decide)]
  refine wpAny_pure ⟨plainId_quiet F.plain_extend_loop _, codeAny_extend_loopS W hn _ hSf _ n 0 _ _ _ rfl (Nat.zero_le _) hst hS (ItemsOf.nil P) fun s' acc' c' hm hS' hacc => hR s' acc' c' hm hS' hacc⟩
theorem init_rev (W : WalksS prog w A.in1 I fp wr G n P St) (hT : ∀ i s, St i s → s.TypeIs (.ref I) "list_reverseiterator") (S : Addr) (hst : St 0 s) (hSf : S ∉ fp) (hI : I ∈ fp)
    (hS : s.heap.get? S = some { cls := .type "list", data := .seq #[] })
    (hR : ∀ s' acc' c', Moved (S :: wr) G s s' → s'.heap.get? S = some { cls := .type "list", dict := none, data := .seq acc' c', slots := #[] } → ItemsOf P acc' n → R (.ok (.ret .none)) s') (hn : n ≤ sizeLine) :
    wpAny (model prog w) A.in1 (Builtin.«list.__init__» ⟨[.ref S, .ref I], []⟩)
      (fun fin s' => match fin with | .done f => R (.ok f) s' | .again c' => c'.quiet = true ∧ codeAny (model prog w) A c' R s') (fun e s' => R (.error e) s') s := by
  show wpAny _ A.in1 (do let old ← Builtin.List.listItems (.ref S); Builtin.List.listUpdate (.ref S) (fun _ => #[]); letGo old.toList.reverse; Builtin.List.listExtendWith (.ref S) (.ref I) .none) _ _ s
  refine wpAny_bind ?_
  unfold Builtin.List.listItems
  refine wpAny_bind (wpAny_seqItems hS rfl (wpAny_pure ?_))
  show wpAny _ A.in1 (updateSeq S (fun _ => #[]) >>= fun _ => letGo (#[] : Array Value).toList.reverse >>= fun _ => Builtin.List.listExtendWith (.ref S) (.ref I) .none) _ _ s
  refine wpAny_bind (wpAny_updateSeq hS rfl ?_)
  have hS₂ := Heap.get?_update_self (Obj.mapSeq (fun _ => (#[] : Array Value))) hS rfl
  have oth : ∀ b o, b ≠ S → s.heap.get? b = some o → (s.heap.update S (Obj.mapSeq (fun _ => (#[] : Array Value)))).get? b = some o :=
    fun b o hb e => (Heap.get?_update_other _ _ (Ne.symm hb)).trans e
  refine wpAny_bind (wpAny_letGo ?_)
  refine extend_rev W hT S .none _ (W.frame 0 s _ s.toks hst (Nat.le_refl _) fun b hb o e => oth b o (fun h => hSf (h ▸ hb)) e) hSf hI hS₂ (fun s' acc' c' hm hS' hacc => ?_) hn
  exact hR s' acc' c' (Moved.trans W.gtrans ((Moved.refl W.grefl).then_heap (Nat.le_refl _) fun b o hb e => oth b o (fun h => hb (h ▸ List.mem_cons_self)) e) hm) hS' hacc
end
section
variable {prog : Program} {w : World} {A : Around} {E : Value → Shared → Prop} {s : Shared}
/-- list(reversed(l)), from the iterator on -/
theorem list_of_rev {it l : Addr} {items : Array Value} {Q : Value → Shared → Prop} (hh : A.handled = none) (hit : s.heap.IsRevIter it l ((items.size : Int) - 1)) (hl : s.heap.IsList l items) (hne : l ≠ it) (hz : items.size ≤ sizeLine)
    (h : ∀ (h' : Heap) (tk : Nat) (acc : Array Value) (c : Nat), (∀ b o, b ≠ it → s.heap.get? b = some o → h'.get? b = some o) → h'.get? s.heap.objs.size = some (seqObj "list" acc c) →
      ItemsOf (fun i v => items[items.size - 1 - i]? = some v) acc items.size → Q (.ref s.heap.objs.size) { s with heap := h', toks := tk }) :
    wpAny (model prog w) A (call (.type "list") [.ref it]) Q E s := by
  have W := (Walks.listRev (prog := prog) (w := w) (A := A.in1.in1) hh it l hne items).toS
  have hst : 0 ≤ items.size ∧ s.heap.IsRevIter it l ((items.size : Int) - 1 - ((0 : Nat) : Int)) ∧ s.heap.IsList l items := ⟨Nat.zero_le _, by rw [show (items.size : Int) - 1 - ((0 : Nat) : Int) = (items.size : Int) - 1 by omega]; exact hit, hl⟩
  obtain ⟨oi, hoi, _⟩ := id hit
  obtain ⟨ol, hol, _⟩ := id hl
  have hfp : ∀ b ∈ [it, l], b < s.heap.objs.size := fun b hb => by
    rcases List.mem_cons.mp hb with e | hb
    · rw [e]; exact Heap.lt_size hoi
    · rw [List.mem_singleton.mp hb]; exact Heap.lt_size hol
  have hSf : s.heap.objs.size ∉ [it, l] := fun hm => Nat.lt_irrefl _ (hfp _ hm)
  refine callType_codes (Q₁ := fun obj s₁ => obj = .ref s.heap.objs.size ∧ s₁ = { s with heap := s.heap.push { cls := .type "list", data := .seq #[] } }) F.called_list (F.typeCall_list_1 _) F.entry_list_init
    (code_list_new _ ⟨rfl, rfl⟩) fun obj s₁ h₁ => ?_
  obtain ⟨rfl, rfl⟩ := h₁
  have hS : (s.heap.push { cls := .type "list", data := .seq #[] }).get? s.heap.objs.size = some { cls := .type "list", data := .seq #[] } := Heap.get?_push_size _ rfl
  refine ⟨⟨_, hS, rfl⟩, F.args_list_init_2 _ _, init_rev W (fun i s' st => st.2.1.typeIs) _ (W.frame 0 s _ s.toks hst (Nat.le_refl _) fun b _ o e => Heap.get?_push_of_some _ e) hSf (by simp) hS (fun s' acc' c' hm hS' hacc => ?_) hz⟩
  refine ⟨rfl, ?_⟩
  rw [Moved.eq_with hm]
  refine h s'.heap s'.toks acc' c' (fun b o hb e => ?_) hS' hacc
  refine hm.heap b o (fun hmem => ?_) (Heap.get?_push_of_some _ e)
  rcases List.mem_cons.mp hmem with z | hmem
  · exact absurd (Heap.lt_size e) (by rw [z]; exact Nat.lt_irrefl _)
  · exact hb (List.mem_singleton.mp hmem)
end
end RV

namespace L2
open PySem PySem.Spec PyProof.Rows
theorem bt_reversed : bootBuiltins "reversed" = some (.type "reversed") := by decide +kernel
theorem bt_range : bootBuiltins "range" = some (.type "range") := by decide +kernel
/-! ### reversed -/
def ItR (a : Addr) (n : Nat) : It := ⟨fun i H => ∃ xs, Rd H a (.lst xs) ∧ xs.length = n ∧ i < n, fun i H x H' => H' = H ∧ ∀ xs, Rd H a (.lst xs) → xs[n - 1 - i]? = some x, fun i _ => n ≤ i⟩
theorem turn_rev {P : Program} {w : World} {K : PySem.W.Frag} {tg : Expr} (a it : Addr) (n : Nat) : Turn P w K tg (ItR a n) [it] it (fun i h => i ≤ n ∧ h.IsRevIter it a ((n : Int) - 1 - (i : Int))) where
  mem := by simp
  obj := fun i h st b hb => by
    have e : b = it := by simpa using hb
    subst e
    obtain ⟨_, o, e, c, d⟩ := st
    exact ⟨o, e, fun v z => by rw [d] at z; cases z⟩
  keep := fun i h h' st k => ⟨st.1, st.2.at fun o e => k it (by simp) o e⟩
  item := by
    intro X hP hw hK hc i pins s σ H E I hf st hg
    subst hP hw hK
    obtain ⟨xs, hq, hl, hi⟩ := hg
    obtain ⟨its, rv, p, hz⟩ := I.list (.inl hq)
    have hx : xs[n - 1 - i]? = some (xs[n - 1 - i]'(by omega)) := List.getElem?_eq_getElem (by omega)
    obtain ⟨u, hu, ru⟩ := rv.get hx
    obtain ⟨f0, f1, f2, f3, f4, f5⟩ := hf it (by simp)
    have hit := st.2
    rw [show (n : Int) - 1 - (i : Int) = ((n - 1 - i : Nat) : Int) by omega] at hit
    refine wpAny_pyNext_rev_item hit p.isList (x := u) (by simpa using hu) fun h' st' sb => ?_
    have I1 : Inv X pins σ H { s with heap := h' } := I.turned (t' := s.toks) (fun b o hb e => (sb.2 b hb).trans e) f0 f1 f3 f4 f5
    rw [show ((n - 1 - i : Nat) : Int) - 1 = (n : Int) - 1 - ((i + 1 : Nat) : Int) by omega] at st'
    obtain ⟨o, e, c, d⟩ := id st'
    exact ⟨u, rfl, go_of (s := { s with heap := h' }) e c d (by decide) ⟨_, H, I1, ru, ⟨rfl, fun ys hy => by rw [I.list_inj (.inl hy) (.inl hq)]; exact hx⟩, ⟨hi, st'⟩, fun b hb => (hf b hb).1⟩⟩
  done := by
    intro X hP hw hK hc i pins s σ H E I hf st hg
    subst hP hw hK
    obtain ⟨f0, f1, f2, f3, f4, f5⟩ := hf it (by simp)
    have hg' : n ≤ i := hg
    have hit := st.2
    rw [show (n : Int) - 1 - (i : Int) = -1 by have := st.1; omega] at hit
    exact wpAny_pyNext_rev_end (I.ok.hd hc) hit fun h' eb => ⟨rfl, I.turned (t' := s.toks) (fun b o hb e => eb b o hb e) f0 f1 f3 f4 f5⟩
  self := fun _ _ _ _ _ st h => wpAny_pyIter_revIter st.2 h
section
variable {X : Cx} {tg : Expr}
def iRevQ (tl : TE) : TI := fun σ H R => tl σ H fun x H1 => ∃ a xs, x = .ref a ∧ Rd H1 a (.lst xs) ∧ R (ItR a xs.length) H1
theorem pi_revQ {l : Expr} {tl : TE} {p pos : Pos} (hg : Gl X "reversed") (hm : X.mg "reversed" = none) (hl : PE X l tl) (hs : starEach [l] X.env = [(false, eval l X.env)] := by rfl) :
    PI X tg (.Call (.Name "reversed" p) [l] [] pos) (iRevQ tl) := by
  intro pins s σ H R I h
  have ha : PA X [l] (tCons tl tNil) := pa_cons hl pa_nil hs
  refine Call_ (ld_blt I hg hm bt_reversed (PyProof.Rows.callWith_type1 (thn (ha pos pins s σ H (fun vs H1 => match vs with | [x] => ∃ a xs, x = .ref a ∧ Rd H1 a (.lst xs) ∧ R (ItR a xs.length) H1 | _ => False) I h) fun us s1 ⟨vs, H1, I1, r1, q1⟩ => ?_) hs rfl))
  obtain ⟨a, xs, e, hq, q⟩ : ∃ a xs, vs = [.ref a] ∧ Rd H1 a (.lst xs) ∧ R (ItR a xs.length) H1 := by
    match vs, q1 with
    | [x], q1 => obtain ⟨a, xs, e, hq, q⟩ := q1; exact ⟨a, xs, by rw [e], hq, q⟩
  subst e
  cases r1 with
  | cons r rr =>
    cases rr
    cases (show _ = Value.ref a from r)
    obtain ⟨its, rv, pl, hz⟩ := I1.list (.inl hq)
    refine call_reversed_list pl.isList ?_
    have hsz : ((its.toArray.size : Nat) : Int) - 1 = (xs.length : Int) - 1 - ((0 : Nat) : Int) := by rw [List.size_toArray, rv.length]; omega
    have hit : (s1.heap.push (revObj a (((its.toArray.size : Nat) : Int) - 1))).IsRevIter s1.heap.objs.size a ((xs.length : Int) - 1 - ((0 : Nat) : Int)) := by
      rw [← hsz]
      exact ⟨_, Heap.get?_push_size _ rfl, rfl, rfl⟩
    have I2 : Inv X pins σ H1 { s1 with heap := s1.heap.push (revObj a (((its.toArray.size : Nat) : Int) - 1)), toks := s1.toks } := I1.kept fun b o e => Heap.get?_push_of_some _ e
    refine wpAny_pyIter_revIter hit ?_
    refine ⟨s1.heap.objs.size, [s1.heap.objs.size], _, _, H1, rfl, I2, turn_rev a s1.heap.objs.size xs.length, ⟨Nat.zero_le _, hit⟩, fun b hb => ?_, q⟩
    have e : b = s1.heap.objs.size := by simpa using hb
    subst e
    exact I1.fpOk (Nat.le_refl _) (I1.hok.fresh (Nat.le_refl _))
/-- list(reversed(l)) -/
def tListRev (tl : TE) : TE := fun σ H Q => tl σ H fun x H1 => ∃ a xs, x = .ref a ∧ Rd H1 a (.lst xs) ∧ ∀ p H2, New H1 p (.lst xs.reverse) H2 → Q (.ref p) H2
theorem vals_rev {xs : List V} {its : List Value} {acc : Array Value} (rv : Vals xs its) (h : ItemsOf (fun i v => its.toArray[its.toArray.size - 1 - i]? = some v) acc its.toArray.size) : Vals xs.reverse acc.toList := by
  have e : acc.toList = its.reverse := by
    apply List.ext_getElem?
    intro i
    have hl : acc.toList.length = its.length := by rw [Array.length_toList, h.1, List.size_toArray]
    by_cases hi : i < its.length
    · have h1 : i < acc.toList.length := by omega
      have h2 := h.2 i (acc.toList[i]) (by rw [← Array.getElem?_toList]; exact List.getElem?_eq_getElem h1)
      rw [List.getElem?_eq_getElem h1, List.getElem?_reverse hi, ← h2]
      simp
    · rw [List.getElem?_eq_none (by omega), List.getElem?_eq_none (by simp; omega)]
  rw [e]
  exact rv.reverse
theorem pe_listRev {l : Expr} {tl : TE} {p p2 pos pos2 : Pos} (hc : X.calm = true) (hg : Gl X "list") (hg2 : Gl X "reversed") (hm : X.mg "list" = none) (hm2 : X.mg "reversed" = none) (hl : PE X l tl)
    (hs : starEach [l] X.env = [(false, eval l X.env)] := by rfl)
    (hs2 : starEach [.Call (.Name "reversed" p2) [l] [] pos2] X.env = [(false, eval (.Call (.Name "reversed" p2) [l] [] pos2) X.env)] := by rfl) :
    PE X (.Call (.Name "list" p) [.Call (.Name "reversed" p2) [l] [] pos2] [] pos) (tListRev tl) := by
  intro pins s σ H Q I h
  have ha : PA X [l] (tCons tl tNil) := pa_cons hl pa_nil hs
  refine Call_ (ld_blt I hg hm bt_list (PyProof.Rows.callWith_type1 ?_ hs2 rfl))
  rw [hs2]
  show wpAny _ _ (spliced ((false, eval (.Call (.Name "reversed" p2) [l] [] pos2) X.env) :: backTo pos [])) _ _ s
  refine Calls.spliced_cons ?_
  refine Call_ (ld_blt I hg2 hm2 bt_reversed (PyProof.Rows.callWith_type1 (thn (ha pos2 pins s σ H (fun vs H1 => match vs with | [x] => ∃ a xs, x = .ref a ∧ Rd H1 a (.lst xs) ∧ ∀ p H2, New H1 p (.lst xs.reverse) H2 → Q (.ref p) H2 | _ => False) I h) fun us s1 ⟨vs, H1, I1, r1, q1⟩ => ?_) hs rfl))
  obtain ⟨a, xs, e, hq, q⟩ : ∃ a xs, vs = [.ref a] ∧ Rd H1 a (.lst xs) ∧ ∀ p H2, New H1 p (.lst xs.reverse) H2 → Q (.ref p) H2 := by
    match vs, q1 with
    | [x], q1 => obtain ⟨a, xs, e, hq, q⟩ := q1; exact ⟨a, xs, by rw [e], hq, q⟩
  subst e
  cases r1 with
  | cons r rr =>
    cases rr
    cases (show _ = Value.ref a from r)
    obtain ⟨its, rv, pl, hz⟩ := I1.list (.inl hq)
    refine call_reversed_list pl.isList ?_
    refine Calls.spliced_nil ?_
    have hit : (s1.heap.push (revObj a (((its.toArray.size : Nat) : Int) - 1))).IsRevIter s1.heap.objs.size a (((its.toArray.size : Nat) : Int) - 1) := ⟨_, Heap.get?_push_size _ rfl, rfl, rfl⟩
    obtain ⟨oa, na, ea, _⟩ := id pl
    refine RV.list_of_rev (s := { s1 with heap := s1.heap.push (revObj a (((its.toArray.size : Nat) : Int) - 1)) }) (I1.ok.hd hc) hit (pl.isList.push _) (Nat.ne_of_lt (Heap.lt_size ea)) (by rw [List.size_toArray, ← rv.length]; exact hz) fun h' tk acc c k1 k2 k3 => ?_
    have hk : ∀ b o, s1.heap.get? b = some o → h'.get? b = some o := fun b o e => k1 b o (Nat.ne_of_lt (Heap.lt_size e)) (Heap.get?_push_of_some _ e)
    refine list_fin (s := s1) (n' := c) (out := acc.toList) (tk := tk) I1 hk (fun b o e => Heap.lt_size (Heap.get?_push_of_some _ e)) (by simpa using k2) (vals_rev rv k3) (by simpa using hz) fun H2 n => q _ H2 n
end
theorem lc_rev {a : Addr} {xs : List V} {g : TG} {tc : TT} {te : TE} {σ0 : St} {H : Hp} {Q : VK} (Pv : Nat → St → Hp → List V → Prop) (h0 : Pv 0 σ0 H []) (hl : ∀ i σ H ys, i ≤ xs.length → Pv i σ H ys → Rd H a (.lst xs) ∧ ys.length ≤ i) (hz : xs.length ≤ sizeLine)
    (hs : ∀ i x σ H ys (N : St → Hp → List V → Prop), (∀ σ H ys, Pv (i + 1) σ H ys → N σ H ys) → xs.reverse[i]? = some x → Pv i σ H ys → g x σ H fun σ2 H2 => tc σ2 H2 fun b H3 => if b = true then te σ2 H3 fun v H4 => N σ2 H4 (ys ++ [v]) else N σ2 H3 ys)
    (hd : ∀ σ H ys, Pv xs.length σ H ys → ∀ D H2, New H D (.lst ys) H2 → Q (.ref D) H2) :
    ∃ W : Nat → Nat → St → Hp → List V → Prop, (∃ m, W 0 m σ0 H []) ∧ ∀ i m σ H ys, W i m σ H ys →
      ((ItR a xs.length).stop i H ∧ ys.length ≤ sizeLine ∧ ∀ D H2, New H D (.lst ys) H2 → Q (.ref D) H2) ∨
      ((ItR a xs.length).go i H ∧ ys.length < sizeLine ∧ ∀ x H', (ItR a xs.length).yld i H x H' → g x σ H' fun σ2 H2 => tc σ2 H2 fun b H3 => if b = true then te σ2 H3 fun v H4 => ∃ m', m' < m ∧ W (i + 1) m' σ2 H4 (ys ++ [v]) else ∃ m', m' < m ∧ W (i + 1) m' σ2 H3 ys) := by
  refine ⟨fun i m σ H ys => m = xs.length - i ∧ i ≤ xs.length ∧ Pv i σ H ys, ⟨xs.length, by simp, Nat.zero_le _, h0⟩, ?_⟩
  rintro i m σ H ys ⟨rfl, hi, p⟩
  obtain ⟨q, hy⟩ := hl i σ H ys hi p
  by_cases hlt : i < xs.length
  · refine .inr ⟨⟨xs, q, rfl, hlt⟩, by omega, fun x H' y => ?_⟩
    obtain ⟨e, y⟩ := y
    subst e
    exact hs i x σ _ ys (fun σ H ys => ∃ m', m' < xs.length - i ∧ (m' = xs.length - (i + 1) ∧ i + 1 ≤ xs.length ∧ Pv (i + 1) σ H ys)) (fun σ H ys q4 => ⟨xs.length - (i + 1), by omega, rfl, hlt, q4⟩) (by rw [List.getElem?_reverse hlt]; exact y xs q) p
  · have e : i = xs.length := by omega
    subst e
    exact .inl ⟨Nat.le_refl _, by omega, hd σ H ys p⟩
end L2

set_option Elab.async false
set_option linter.all false
set_option maxRecDepth 100000
set_option maxHeartbeats 4000000
namespace L2
open PySem PySem.Spec PyProof.Rows

theorem compEq {osc sc : Scope} {N N' : List Str} {ix : List (Option Nat)} (h : compOk osc sc N N' ix = true) : compOk osc sc N N' ix = true := h
/-- the built-in names stand as they are -/
structure Blt (mg : Str → Option Value) : Prop where
  len : mg "len" = none
  list : mg "list" = none
  int : mg "int" = none
  bool : mg "bool" = none
  tuple : mg "tuple" = none
  str : mg "str" = none
  sum : mg "sum" = none
  sorted : mg "sorted" = none
  max : mg "max" = none
  isi : mg "isinstance" = none
  enumerate : mg "enumerate" = none
  set : mg "set" = none
  range : mg "range" = none
  reversed : mg "reversed" = none
  zip : mg "zip" = none
  verr : mg "ValueError" = none

theorem small {n : Nat} (h : n ≤ 1000) : n ≤ sizeLine := Nat.le_of_lt (small1000 h)
theorem smallL {n : Nat} (h : n < 1000) : n < sizeLine := small1000 (Nat.le_of_lt h)
theorem hu8_of {A : Around} {k : Nat} (hr : Room k A) : A.units + 8 < cLine := Nat.lt_of_le_of_lt (Nat.add_le_add_left (by decide : 8 ≤ 64) _) hr.units

/-! ### places -/
theorem atI_at {α : Type} {xs : List α} {i : Int} (h0 : 0 ≤ i) (h1 : i < xs.length) : ∃ v, atI xs i = some v ∧ xs[i.toNat]? = some v := by
  have hj : i.toNat < xs.length := by omega
  refine ⟨xs[i.toNat], ?_, List.getElem?_eq_getElem hj⟩
  have := atI_nat (xs := xs) (j := i.toNat) (v := xs[i.toNat]) (List.getElem?_eq_getElem hj)
  rwa [show ((i.toNat : Nat) : Int) = i by omega] at this
theorem atI_int {zs : List Int} {i : Int} (h0 : 0 ≤ i) (h1 : i < zs.length) : atI (zs.map V.int) i = some (.int (zs.getD i.toNat 0)) := by
  obtain ⟨v, e1, e2⟩ := atI_at (xs := zs.map V.int) h0 (by simpa using h1)
  rw [e1]
  rw [List.getElem?_map] at e2
  have hj : i.toNat < zs.length := by omega
  rw [List.getElem?_eq_getElem hj] at e2
  simp only [Option.map_some, Option.some.injEq] at e2
  rw [← e2, List.getD_eq_getElem?_getD, List.getElem?_eq_getElem hj]
  rfl
theorem map_get {zs : List Int} {i : Nat} {x : V} (h : (zs.map V.int)[i]? = some x) : ∃ z, zs[i]? = some z ∧ x = .int z := by
  rw [List.getElem?_map] at h
  cases e : zs[i]? with
  | none => rw [e] at h; cases h
  | some z => rw [e] at h; exact ⟨z, rfl, (Option.some.inj h).symm⟩
theorem lt_of_get {α : Type} {xs : List α} {i : Nat} {x : α} (h : xs[i]? = some x) : i < xs.length := (List.getElem?_eq_some_iff.mp h).1

/-! ### lists of tuples of plain values -/
def Tl {α : Type} (sc : α → List V) (H : Hp) (l : Addr) (xs : List α) : Prop :=
  ∃ ps : List Addr, H l = some (.lst (ps.map V.ref)) ∧ ps.length = xs.length ∧ ∀ (i : Nat) p x, ps[i]? = some p → xs[i]? = some x → H p = some (.tup (sc x))
abbrev scT (t : Int × Int) : List V := [.int t.1, .int t.2]
abbrev scS (t : Int × Bool) : List V := [.int t.1, .bl t.2]
abbrev scP (t : Int × Int × Bool) : List V := [.int t.1, .int t.2.1, .bl t.2.2]
abbrev Til := Tl scT
abbrev Row := Tl scS
abbrev Prt := Tl scP
section
variable {α : Type} {sc : α → List V} {H H' H2 : Hp} {l : Addr} {xs ys : List α}
theorem Tl.same (h : Tl sc H l xs) (s : Same H H') : Tl sc H' l xs := by
  obtain ⟨ps, h1, h2, h3⟩ := h
  exact ⟨ps, s _ _ h1, h2, fun i p x e1 e2 => s _ _ (h3 i p x e1 e2)⟩
theorem Tl.get (h : Tl sc H l xs) {i : Nat} {x : α} (e : xs[i]? = some x) : ∃ ps : List Addr, ∃ p, H l = some (.lst (ps.map V.ref)) ∧ ps.length = xs.length ∧ (ps.map V.ref)[i]? = some (.ref p) ∧ H p = some (.tup (sc x)) := by
  obtain ⟨ps, h1, h2, h3⟩ := h
  have hi : i < ps.length := by rw [h2]; exact lt_of_get e
  refine ⟨ps, ps[i], h1, h2, ?_, h3 i ps[i] x (List.getElem?_eq_getElem hi) e⟩
  rw [List.getElem?_map, List.getElem?_eq_getElem hi]
  rfl
theorem Tl.atI (h : Tl sc H l xs) {i : Int} (h0 : 0 ≤ i) (h1 : i < xs.length) : ∃ ps : List Addr, ∃ p x, H l = some (.lst (ps.map V.ref)) ∧ ps.length = xs.length ∧ L2.atI (ps.map V.ref) i = some (.ref p) ∧ xs[i.toNat]? = some x ∧ H p = some (.tup (sc x)) := by
  have hj : i.toNat < xs.length := by omega
  obtain ⟨ps, p, e1, e2, e3, e4⟩ := h.get (List.getElem?_eq_getElem hj)
  refine ⟨ps, p, xs[i.toNat], e1, e2, ?_, List.getElem?_eq_getElem hj, e4⟩
  have := atI_nat (j := i.toNat) e3
  rwa [show ((i.toNat : Nat) : Int) = i by omega] at this
theorem Tl.len (h : Tl sc H l xs) : ∃ vs, H l = some (.lst vs) ∧ vs.length = xs.length := by
  obtain ⟨ps, h1, h2, _⟩ := h
  exact ⟨_, h1, by simpa using h2⟩
theorem Tl.nil (h : H l = some (.lst [])) : Tl sc H l ([] : List α) := ⟨[], h, rfl, fun i p x e => by simp at e⟩
/-- one more -/
theorem Tl.snoc (h : Tl sc H l xs) {p : Addr} {x : α} (hp : H p = some (.tup (sc x))) : ∃ vs, H l = some (.lst vs) ∧ vs.length = xs.length ∧ ∀ H', Chg H l (.lst (vs ++ [.ref p])) H' → Tl sc H' l (xs ++ [x]) := by
  obtain ⟨ps, h1, h2, h3⟩ := h
  refine ⟨ps.map V.ref, h1, by simpa using h2, fun H' c => ⟨ps ++ [p], by rw [c.is]; simp, by simp [h2], fun i q y e1 e2 => ?_⟩⟩
  have ne : ∀ {a : Addr} {zs}, H a = some (.tup zs) → a ≠ l := fun e => ne_of e h1 (by intro z; cases z)
  by_cases hi : i < ps.length
  · rw [List.getElem?_append_left hi] at e1
    rw [List.getElem?_append_left (by omega)] at e2
    have := h3 i q y e1 e2
    rw [c.oth q (ne this)]
    exact this
  · have e : i = ps.length := by
      have := lt_of_get e1
      simp at this
      omega
    subst e
    simp at e1
    rw [h2] at e2
    simp at e2
    subst e1 e2
    rw [c.oth p (ne hp)]
    exact hp
/-- a slice, a list put together of two: new ones -/
theorem Tl.cut (h : Tl sc H l xs) (lo hi : Nat) {p : Addr} (s : Same H H') (e : ∀ vs, H l = some (.lst vs) → H' p = some (.lst ((vs.drop lo).take (hi - lo)))) : Tl sc H' p ((xs.drop lo).take (hi - lo)) := by
  obtain ⟨ps, h1, h2, h3⟩ := h
  refine ⟨(ps.drop lo).take (hi - lo), by rw [e _ h1, List.map_take, List.map_drop], by simp [h2], fun i q x e1 e2 => ?_⟩
  rw [List.getElem?_take] at e1 e2
  split at e1
  · rename_i hlt
    rw [if_pos hlt] at e2
    rw [List.getElem?_drop] at e1 e2
    exact s _ _ (h3 _ q x e1 e2)
  · cases e1
theorem Tl.cat {l2 : Addr} (h : Tl sc H l xs) (h' : Tl sc H l2 ys) {p : Addr} (s : Same H H') (e : ∀ vs ws, H l = some (.lst vs) → H l2 = some (.lst ws) → H' p = some (.lst (vs ++ ws))) : Tl sc H' p (xs ++ ys) := by
  obtain ⟨ps, h1, h2, h3⟩ := h
  obtain ⟨qs, g1, g2, g3⟩ := h'
  refine ⟨ps ++ qs, by rw [e _ _ h1 g1, List.map_append], by simp [h2, g2], fun i q x e1 e2 => ?_⟩
  by_cases hi : i < ps.length
  · rw [List.getElem?_append_left hi] at e1
    rw [List.getElem?_append_left (by omega)] at e2
    exact s _ _ (h3 i q x e1 e2)
  · rw [List.getElem?_append_right (by omega)] at e1 e2
    rw [← h2] at e2
    exact s _ _ (g3 _ q x e1 e2)
theorem Tl.copy (h : Tl sc H l xs) {p : Addr} (s : Same H H') (e : ∀ vs, H l = some (.lst vs) → H' p = some (.lst vs)) : Tl sc H' p xs := by
  obtain ⟨ps, h1, h2, h3⟩ := h
  exact ⟨ps, e _ h1, h2, fun i q x e1 e2 => s _ _ (h3 i q x e1 e2)⟩
/-- two lists of like tuples are equal -/
theorem Tl.eqT {l2 : Addr} (h : Tl sc H l xs) (h' : Tl sc H l2 xs) (hf : ∀ x, ∀ v ∈ sc x, flatT v = true) {n : Nat} : EqR H (n + 1) (.ref l) (.ref l2) := by
  obtain ⟨ps, h1, h2, h3⟩ := h
  obtain ⟨qs, g1, g2, g3⟩ := h'
  refine ⟨l, l2, _, _, rfl, rfl, by simp [h2, g2], .inr ⟨.inl h1, .inl g1⟩, fun i x y e1 e2 => ?_⟩
  rw [List.getElem?_map] at e1 e2
  cases c1 : ps[i]? with
  | none => rw [c1] at e1; cases e1
  | some p =>
    cases c2 : qs[i]? with
    | none => rw [c2] at e2; cases e2
    | some q =>
      rw [c1] at e1
      rw [c2] at e2
      simp only [Option.map_some, Option.some.injEq] at e1 e2
      subst e1 e2
      have hi : i < xs.length := by rw [← h2]; exact lt_of_get c1
      have z1 := h3 i p xs[i] c1 (List.getElem?_eq_getElem hi)
      have z2 := g3 i q xs[i] c2 (List.getElem?_eq_getElem hi)
      refine .inr ⟨p, q, _, _, rfl, rfl, rfl, .inl ⟨.inl z1, .inl z2⟩, fun j x y e3 e4 => ?_⟩
      rw [e3] at e4
      have e5 := Option.some.inj e4
      subst e5
      exact EqT.flat (hf _ x (List.mem_of_getElem? e3))
theorem flS (t : Int × Bool) : ∀ v ∈ scS t, flatT v = true := by intro v hv; simp at hv; rcases hv with rfl | rfl <;> rfl
theorem flT (t : Int × Int) : ∀ v ∈ scT t, flatT v = true := by intro v hv; simp at hv; rcases hv with rfl | rfl <;> rfl
end
theorem EqR.list {H : Hp} {a b : Addr} {xs ys : List V} {n : Nat} (ha : H a = some (.lst xs)) (hb : H b = some (.lst ys)) (hl : xs.length = ys.length) (h : ∀ (i : Nat) x y, xs[i]? = some x → ys[i]? = some y → EqT H n x y) : EqR H n (.ref a) (.ref b) :=
  ⟨a, b, xs, ys, rfl, rfl, hl, .inr ⟨.inl ha, .inl hb⟩, h⟩
theorem EqR.toT {H : Hp} {n : Nat} {x y : V} (h : EqR H n x y) : EqT H (n + 1) x y := by
  obtain ⟨a, b, xs, ys, h1, h2, h3, h4, h5⟩ := h
  exact .inr ⟨a, b, xs, ys, h1, h2, h3, h4, h5⟩
theorem EqR.ints {H : Hp} {a b : Addr} {ns : List Int} {n : Nat} (ha : H a = some (.lst (ns.map V.int))) (hb : H b = some (.lst (ns.map V.int))) : EqR H n (.ref a) (.ref b) :=
  EqR.list ha hb rfl fun i x y e1 e2 => by
    rw [e1] at e2
    have := Option.some.inj e2
    subst this
    obtain ⟨z, _, rfl⟩ := map_get e1
    exact EqT.flat rfl
end L2
namespace L2
open PySem PySem.Spec PyProof.Rows
/-! ### a block with a word in the middle -/
section
variable {X : Cx} {st : Stmt} {rest : List Stmt} {t u : TS}
def tMid (t u : TS) : TS := fun D σ H => ∃ J : St → Hp → Prop, t { D with nx := J } σ H ∧ ∀ σ' H', J σ' H' → u D σ' H'
theorem pss_mid (h1 : PS X st t) (h2 : PSs X rest u) : PSs X (st :: rest) (tMid t u) := by
  intro pins s σ H D I h
  obtain ⟨J, q1, q2⟩ := h
  refine wpAny_execs_cons (thn (h1 pins s σ H { D with nx := J } I q1) fun f s1 q => ?_)
  cases f with
  | next =>
    obtain ⟨σ', H', I', q⟩ := q
    exact h2 pins s1 σ' H' D I' (q2 σ' H' q)
  | ret v => exact q
  | brk => exact q
  | cont => exact q
end
theorem iteNF {c A B : Prop} [Decidable c] (hc : ¬ c) (h : A) : if (!decide c) = true then A else B := by
  rw [decide_eq_false hc]; exact h
theorem iteP {c A B : Prop} [Decidable c] (hc : c) (h : A) : if decide c = true then A else B := by
  rw [decide_eq_true hc]; exact h
theorem iteN {c A B : Prop} [Decidable c] (hc : ¬ c) (h : B) : if decide c = true then A else B := by
  rw [decide_eq_false hc]; exact h
theorem dec_iff {p q : Prop} [Decidable p] [Decidable q] (h : p ↔ q) : decide p = decide q := by
  by_cases c : p
  · rw [decide_eq_true c, decide_eq_true (h.mp c)]
  · rw [decide_eq_false c, decide_eq_false (fun z => c (h.mpr z))]
theorem New.free {H0 H H2 : Hp} {l : Addr} {o : HO} (n : New H l o H2) (s : Same H0 H) : H0 l = none := s.free n.was
end L2
namespace L2
open PySem PySem.Spec PyProof.Rows
/-! ### slices -/
theorem cutV_hi {xs : List V} {m : Int} (h : 0 ≤ m) : cutV xs none (some m) = xs.take m.toNat := by
  obtain ⟨k, rfl⟩ := Int.eq_ofNat_of_zero_le h
  unfold cutV
  have e1 : HT.sIx xs.length xs.length (some (k : Int)) = min k xs.length := HT.sIx_nat _ _ _
  have e2 : HT.sIx xs.length 0 none = 0 := rfl
  rw [e1, e2, List.drop_zero, Nat.sub_zero, Int.toNat_natCast]
  by_cases c : k ≤ xs.length
  · rw [Nat.min_eq_left c]
  · rw [Nat.min_eq_right (by omega), List.take_of_length_le (Nat.le_refl _), List.take_of_length_le (by omega)]
theorem cutV_lo {xs : List V} {m : Int} (h : 0 ≤ m) : cutV xs (some m) none = xs.drop m.toNat := by
  obtain ⟨k, rfl⟩ := Int.eq_ofNat_of_zero_le h
  unfold cutV
  have e1 : HT.sIx xs.length 0 (some (k : Int)) = min k xs.length := HT.sIx_nat _ _ _
  have e2 : HT.sIx xs.length xs.length none = xs.length := rfl
  rw [e1, e2, Int.toNat_natCast]
  by_cases c : k ≤ xs.length
  · rw [Nat.min_eq_left c, List.take_of_length_le (by simp)]
  · rw [Nat.min_eq_right (by omega), List.drop_of_length_le (Nat.le_refl _), List.drop_of_length_le (show xs.length ≤ k by omega)]
    simp
theorem map_take_int (zs : List Int) (n : Nat) : (zs.map V.int).take n = (zs.take n).map V.int := by rw [List.map_take]
theorem map_drop_int (zs : List Int) (n : Nat) : (zs.map V.int).drop n = (zs.drop n).map V.int := by rw [List.map_drop]
section
variable {α : Type} {sc : α → List V} {H H' H2 : Hp} {l : Addr} {xs ys : List α}
/-- any slice of it is one -/
theorem Tl.lenE {vs : List V} (h : Tl sc H l xs) (e : H l = some (.lst vs)) : vs.length = xs.length := by
  obtain ⟨ws, e1, e2⟩ := h.len
  rw [e] at e1
  cases e1
  exact e2
theorem Tl.cutN {vs : List V} {lo hi : Option Int} {p : Addr} (h : Tl sc H l xs) (e1 : H l = some (.lst vs)) (n : New H p (.lst (cutV vs lo hi)) H2) : ∃ ys, ys.length ≤ xs.length ∧ Tl sc H2 p ys := by
  refine ⟨_, ?_, h.cut (HT.sIx vs.length 0 lo) (HT.sIx vs.length vs.length hi) n.same fun ws ew => ?_⟩
  · rw [List.length_take, List.length_drop]; omega
  · rw [e1] at ew
    cases ew
    exact n.is
theorem Tl.catN {vs ws : List V} {l2 p : Addr} (h : Tl sc H l xs) (h' : Tl sc H l2 ys) (e1 : H l = some (.lst vs)) (e2 : H l2 = some (.lst ws)) (n : New H p (.lst (vs ++ ws)) H2) : Tl sc H2 p (xs ++ ys) :=
  h.cat h' n.same fun vs' ws' e3 e4 => by rw [e1] at e3; rw [e2] at e4; cases e3; cases e4; exact n.is
theorem Tl.rev {vs : List V} {p : Addr} (h : Tl sc H l xs) (e1 : H l = some (.lst vs)) (n : New H p (.lst vs.reverse) H2) : Tl sc H2 p xs.reverse := by
  obtain ⟨ps, h1, h2, h3⟩ := h
  rw [e1] at h1
  injection h1 with h1
  injection h1 with h1
  subst h1
  refine ⟨ps.reverse, by rw [n.is, List.map_reverse], by simp [h2], fun i q x e3 e4 => ?_⟩
  have hi : i < ps.length := by have := lt_of_get e3; simpa using this
  rw [List.getElem?_reverse (by omega)] at e3 e4
  rw [h2] at e3
  exact n.same _ _ (h3 _ q x e3 e4)
theorem atI_neg {α : Type} {xs : List α} {v : α} (h : xs[xs.length - 1]? = some v) : L2.atI xs (-1) = some v := by
  have hl := lt_of_get h
  unfold L2.atI ixN
  rw [if_neg (by decide), if_pos (by omega)]
  show xs[(-1 + (xs.length : Int)).toNat]? = some v
  rw [show (-1 + (xs.length : Int)).toNat = xs.length - 1 by omega]
  exact h
theorem Tl.last (h : Tl sc H l xs) {x : α} (e : xs[xs.length - 1]? = some x) : ∃ vs p, H l = some (.lst vs) ∧ L2.atI vs (-1) = some (.ref p) ∧ H p = some (.tup (sc x)) := by
  obtain ⟨ps, p, e1, e2, e3, e4⟩ := h.get e
  refine ⟨_, p, e1, atI_neg ?_, e4⟩
  rw [List.length_map, e2]
  exact e3
/-! ### tuples that are gathered -/
def Tg {α : Type} (sc : α → List V) (H : Hp) (ys : List V) (xs : List α) : Prop := ∃ ps : List Addr, ys = ps.map V.ref ∧ ps.length = xs.length ∧ ∀ (i : Nat) p x, ps[i]? = some p → xs[i]? = some x → H p = some (.tup (sc x))
theorem Tg.nil : Tg sc H [] ([] : List α) := ⟨[], rfl, rfl, fun i p x e => by simp at e⟩
theorem Tg.len {vs : List V} (h : Tg sc H vs xs) : vs.length = xs.length := by
  obtain ⟨ps, h1, h2, _⟩ := h
  rw [h1, List.length_map, h2]
theorem Tg.same {vs : List V} (h : Tg sc H vs xs) (s : Same H H') : Tg sc H' vs xs := by
  obtain ⟨ps, h1, h2, h3⟩ := h
  exact ⟨ps, h1, h2, fun i p x e1 e2 => s _ _ (h3 i p x e1 e2)⟩
theorem Tg.snoc {vs : List V} (h : Tg sc H vs xs) (s : Same H H') {p : Addr} {x : α} (e : H' p = some (.tup (sc x))) : Tg sc H' (vs ++ [.ref p]) (xs ++ [x]) := by
  obtain ⟨ps, h1, h2, h3⟩ := h
  refine ⟨ps ++ [p], by rw [h1]; simp, by simp [h2], fun i q y e1 e2 => ?_⟩
  by_cases hi : i < ps.length
  · rw [List.getElem?_append_left hi] at e1
    rw [List.getElem?_append_left (by omega)] at e2
    exact s _ _ (h3 i q y e1 e2)
  · have e' : i = ps.length := by
      have := lt_of_get e1
      simp at this
      omega
    subst e'
    simp at e1
    rw [h2] at e2
    simp at e2
    subst e1 e2
    exact e
theorem Tg.tl {vs : List V} (h : Tg sc H vs xs) {D : Addr} (n : New H D (.lst vs) H2) : Tl sc H2 D xs := by
  obtain ⟨ps, h1, h2, h3⟩ := h
  exact ⟨ps, by rw [n.is, h1], h2, fun i p x e1 e2 => n.same _ _ (h3 i p x e1 e2)⟩
theorem Tl.tg (h : Tl sc H l xs) : ∃ vs, H l = some (.lst vs) ∧ Tg sc H vs xs := by
  obtain ⟨ps, h1, h2, h3⟩ := h
  exact ⟨_, h1, ps, rfl, h2, h3⟩
theorem Tg.get {vs : List V} (h : Tg sc H vs xs) {i : Nat} {v : V} (e : vs[i]? = some v) : ∃ p x, v = .ref p ∧ xs[i]? = some x ∧ H p = some (.tup (sc x)) := by
  obtain ⟨ps, h1, h2, h3⟩ := h
  subst h1
  rw [List.getElem?_map] at e
  cases c : ps[i]? with
  | none => rw [c] at e; cases e
  | some p =>
    rw [c] at e
    have hi : i < xs.length := by rw [← h2]; exact lt_of_get c
    exact ⟨p, xs[i], (Option.some.inj e).symm, List.getElem?_eq_getElem hi, h3 i p _ c (List.getElem?_eq_getElem hi)⟩
end
theorem tOr_of {t u : TT} {σ : St} {H : Hp} {Q : Bool → Hp → Prop} (b1 b2 : Bool) (h1 : ∀ Q' : Bool → Hp → Prop, Q' b1 H → t σ H Q') (h2 : ∀ Q' : Bool → Hp → Prop, Q' b2 H → u σ H Q') (q : Q (b1 || b2) H) : tOr t u σ H Q := by
  refine h1 _ ?_
  cases b1 with
  | true => exact q
  | false => exact h2 _ q
theorem tAnd_of {t u : TT} {σ : St} {H : Hp} {Q : Bool → Hp → Prop} (b1 b2 : Bool) (h1 : ∀ Q' : Bool → Hp → Prop, Q' b1 H → t σ H Q') (h2 : ∀ Q' : Bool → Hp → Prop, Q' b2 H → u σ H Q') (q : Q (b1 && b2) H) : tAnd t u σ H Q := by
  refine h1 _ ?_
  cases b1 with
  | true => exact h2 _ q
  | false => exact q
theorem seq_or {c1 c2 : TT} {t u v : TS} {D : Ends} {σ : St} {H : Hp} (b1 b2 : Bool) (h1 : ∀ Q' : Bool → Hp → Prop, Q' b1 H → c1 σ H Q') (h2 : ∀ Q' : Bool → Hp → Prop, Q' b2 H → c2 σ H Q')
    (q : if (b1 || b2) = true then t { D with nx := v D } σ H else u { D with nx := v D } σ H) : tSeq (tIfS (tOr c1 c2) t u) v D σ H := tOr_of b1 b2 h1 h2 q
end L2

set_option Elab.async false
set_option linter.all false
set_option maxRecDepth 100000
set_option maxHeartbeats 4000000
namespace L2
open PySem PySem.Spec PyProof.Rows

structure Kit (K : PySem.W.Frag) : Prop where
  ii : PySem.W.kitOne K (.type "int") (.type "int") = some true
  ib : PySem.W.kitOne K (.type "int") (.type "bool") = some false
  bb : PySem.W.kitOne K (.type "bool") (.type "bool") = some true
  ll : PySem.W.kitOne K (.type "list") (.type "list") = some true
  tt : PySem.W.kitOne K (.type "tuple") (.type "tuple") = some true
  ss : PySem.W.kitOne K (.type "str") (.type "str") = some true

/-! ### what the defs promise -/
def spCell (K : PySem.W.Frag) : Sp := fun vs H Q _ => ∃ (a : Addr) (ns : List Int) (k : Int), vs = [.ref a, .int k] ∧ SqL K H a (ns.map V.int) ∧ 0 ≤ k ∧ Q (.int (ns.getD k.toNat 0)) H
def spWhole : Sp := fun vs H Q _ => ∃ i : Int, vs = [.int i] ∧ Q (.bl true) H
def spNames : Sp := fun vs H Q _ => ∃ c f : Int, vs = [.int c, .int f] ∧
  ∀ (l : Addr) (zs : List Int) (H' : Hp), 1 ≤ zs.length → zs.length ≤ 40 → H l = none → Same H H' → H' l = some (.lst (zs.map V.int)) → Q (.ref l) H'
def spNumbers : Sp := fun vs H Q _ => ∃ (l : Addr) (ns : List Int) (b : Bool) (m : Int), vs = [.ref l, .bl b, .int m] ∧ H l = some (.lst (ns.map V.int)) ∧ 0 ≤ m ∧ ns.length ≤ 63 ∧
  ∀ (l' : Addr) (zs : List Int) (H' : Hp), zs.length ≤ m.toNat → zs.length ≤ 126 → (∀ z ∈ zs, 0 ≤ z) → H l' = none → Same H H' → H' l' = some (.lst (zs.map V.int)) → Q (.ref l') H'
def spFree : Sp := fun vs H Q _ => ∃ (l n : Addr) (zs ns : List Int), vs = [.ref l, .ref n] ∧ H l = some (.lst (zs.map V.int)) ∧ H n = some (.lst (ns.map V.int)) ∧ (∀ z ∈ zs, 0 ≤ z) ∧ zs.length ≤ 126 ∧ 1 ≤ ns.length ∧ ns.length ≤ 40 ∧
  ∀ (l' : Addr) (ts : List (Int × Int)) (H' : Hp), ts.length = zs.length → H l' = none → Same H H' → Til H' l' ts → Q (.ref l') H'

/-- one step of the walk: from the k-th number's mark to the next one's, turned by a bit -/
def walkAt (zs ns : List Int) (k : Nat) : Int × Int × Bool :=
  (ns.getD (zs.getD k 0 % ns.length).toNat 0, ns.getD (zs.getD ((k + 1) % zs.length) 0 % ns.length).toNat 0, decide (zs.getD k 0 / ns.length % 2 = 1))
def walkTo (zs ns : List Int) (c : Bool) (n : Nat) : List (Int × Int × Bool) := ((List.range n).filter fun k => decide (k + 1 < zs.length) || c).map (walkAt zs ns)
def walkF (zs ns : List Int) (c : Bool) : List (Int × Int × Bool) := walkTo zs ns c zs.length
theorem walkTo_succ (zs ns : List Int) (c : Bool) (n : Nat) : walkTo zs ns c (n + 1) = walkTo zs ns c n ++ (if (decide (n + 1 < zs.length) || c) = true then [walkAt zs ns n] else []) := by
  unfold walkTo
  rw [List.range_succ, List.filter_append, List.map_append]
  congr 1
  by_cases h : (decide (n + 1 < zs.length) || c) = true
  · rw [if_pos h, List.filter_cons, if_pos h]
    rfl
  · rw [if_neg h, List.filter_cons, if_neg h]
    rfl
theorem walkTo_le (zs ns : List Int) (c : Bool) (n : Nat) : (walkTo zs ns c n).length ≤ n := by
  unfold walkTo
  rw [List.length_map]
  exact Nat.le_trans (List.length_filter_le _ _) (by simp)
def spWalk : Sp := fun vs H Q _ => ∃ (l n : Addr) (zs ns : List Int) (c : Bool), vs = [.ref l, .ref n, .bl c] ∧ H l = some (.lst (zs.map V.int)) ∧ H n = some (.lst (ns.map V.int)) ∧ (∀ z ∈ zs, 0 ≤ z) ∧ zs.length ≤ 126 ∧ 1 ≤ ns.length ∧ ns.length ≤ 40 ∧
  ∀ (l' : Addr) (H' : Hp), H l' = none → Same H H' → Prt H' l' (walkF zs ns c) → Q (.ref l') H'

def tileF (t : Int × Int × Bool) : Int × Int := if t.2.2 = true then (t.2.1, t.1) else (t.1, t.2.1)
def spTile : Sp := fun vs H Q _ => ∃ (p : Addr) (t : Int × Int × Bool), vs = [.ref p] ∧ H p = some (.tup (scP t)) ∧ ∀ (q : Addr) (H' : Hp), New H q (.tup (scT (tileF t))) H' → Q (.ref q) H'
def nI (k : Nat) : V := .int k
def spOrder : Sp := fun vs H Q _ => ∃ (l : Addr) (zs : List Int) (n w : Int), vs = [.ref l, .int n, .int w] ∧ H l = some (.lst (zs.map V.int)) ∧ 0 ≤ n ∧ n.toNat ≤ zs.length ∧ zs.length ≤ 126 ∧
  ∀ (l' : Addr) (os : List Nat) (H' : Hp), os.Perm (List.range n.toNat) → H l' = none → Same H H' → H' l' = some (.lst (os.map nI)) → Q (.ref l') H'
def spTiles : Sp := fun vs H Q _ => ∃ (p o : Addr) (ps : List (Int × Int × Bool)) (os : List Nat), vs = [.ref p, .ref o] ∧ Prt H p ps ∧ H o = some (.lst (os.map nI)) ∧ (∀ k ∈ os, k < ps.length) ∧ os.length ≤ 126 ∧
  ∀ (l' : Addr) (H' : Hp), H l' = none → Same H H' → Til H' l' (os.map fun k => tileF (ps.getD k (0, 0, false))) → Q (.ref l') H'
/-- the row in which the parts lie, each at its place in the order -/
def LaidAs (ps : List (Int × Int × Bool)) (os : List Nat) (row : List (Int × Bool)) : Prop :=
  row.length = ps.length ∧ ∀ k x, row[k]? = some x → ∃ i : Nat, os[i]? = some k ∧ x = ((i : Int), (ps.getD k (0, 0, false)).2.2)
def spLaid : Sp := fun vs H Q _ => ∃ (p o : Addr) (ps : List (Int × Int × Bool)) (os : List Nat), vs = [.ref p, .ref o] ∧ Prt H p ps ∧ H o = some (.lst (os.map nI)) ∧ os.Perm (List.range ps.length) ∧ ps.length ≤ 126 ∧
  ∀ (l' : Addr) (row : List (Int × Bool)) (H' : Hp), LaidAs ps os row → H l' = none → Same H H' → Row H' l' row → Q (.ref l') H'
def spBeyond : Sp := fun vs H Q _ => ∃ c n : Int, vs = [.int c, .int n] ∧ ∀ (z : Int) (H' : Hp), Same H H' → Q (.int z) H'
def spSpoiled : Sp := fun vs H Q _ => ∃ (l : Addr) (row : List (Int × Bool)) (c n : Int), vs = [.ref l, .int c, .int n] ∧ Row H l row ∧ row.length ≤ 10000 ∧
  ∀ (l' : Addr) (row' : List (Int × Bool)) (H' : Hp), row'.length ≤ 3 * row.length + 1 → Same H H' → Row H' l' row' → Q (.ref l') H'

/-! ### laying: what is not good at a place -/
def faceF (t : Int × Int) (b : Bool) : Int × Int := if b = true then (t.2, t.1) else (t.1, t.2)
def faceAt (ts : List (Int × Int)) (st : Int × Bool) : Int × Int := faceF (ts.getD st.1.toNat (0, 0)) st.2
def inT (ts : List (Int × Int)) (n : Int) : Prop := 0 ≤ n ∧ n < ts.length
instance (ts : List (Int × Int)) (n : Int) : Decidable (inT ts n) := by unfold inT; exact inferInstance
def sNone : Str := "none"
def sTwice : Str := "twice"
def sApart : Str := "apart"
def badAt (ts : List (Int × Int)) (row : List (Int × Bool)) (i : Nat) : Option Str := match row[i]? with
  | none => none
  | some st => if ¬ inT ts st.1 then some sNone else if st.1 ∈ (row.take i).map (·.1) then some sTwice
    else if 0 < i ∧ (faceAt ts st).1 ≠ (faceAt ts (row.getD (i - 1) (0, false))).2 then some sApart else none
def FlawAt (ts : List (Int × Int)) (row : List (Int × Bool)) (w : Str) (i : Nat) : Prop := badAt ts row i = some w ∧ ∀ j, j < i → badAt ts row j = none
def NoFlaw (ts : List (Int × Int)) (row : List (Int × Bool)) : Prop := ∀ j, j < row.length → badAt ts row j = none
theorem badAt_lt {ts : List (Int × Int)} {row : List (Int × Bool)} {i : Nat} {w : Str} (h : badAt ts row i = some w) : i < row.length := by
  unfold badAt at h
  cases e : row[i]? with
  | none => rw [e] at h; cases h
  | some st => exact lt_of_get e
theorem FlawAt.not {ts : List (Int × Int)} {row : List (Int × Bool)} {w : Str} {i : Nat} (h : FlawAt ts row w i) (n : NoFlaw ts row) : False := by
  have := n i (badAt_lt h.1)
  rw [h.1] at this
  cases this
theorem FlawAt.uniq {ts : List (Int × Int)} {row : List (Int × Bool)} {w w' : Str} {i i' : Nat} (h : FlawAt ts row w i) (h' : FlawAt ts row w' i') : w = w' ∧ i = i' := by
  have e : i = i' := by
    rcases Nat.lt_trichotomy i i' with c | c | c
    · have := h'.2 i c; rw [h.1] at this; cases this
    · exact c
    · have := h.2 i' c; rw [h'.1] at this; cases this
  subst e
  exact ⟨Option.some.inj (h.1.symm.trans h'.1), rfl⟩
theorem bad_none {ts : List (Int × Int)} {row : List (Int × Bool)} {i : Nat} {st : Int × Bool} (e : row[i]? = some st) (h : ¬ inT ts st.1) : badAt ts row i = some sNone := by
  unfold badAt; rw [e]; dsimp only; rw [if_pos h]
theorem bad_twice {ts : List (Int × Int)} {row : List (Int × Bool)} {i : Nat} {st : Int × Bool} (e : row[i]? = some st) (h : inT ts st.1) (m : st.1 ∈ (row.take i).map (·.1)) : badAt ts row i = some sTwice := by
  unfold badAt; rw [e]; dsimp only; rw [if_neg (by simpa using h), if_pos m]
theorem bad_apart {ts : List (Int × Int)} {row : List (Int × Bool)} {i : Nat} {st : Int × Bool} (e : row[i]? = some st) (h : inT ts st.1) (m : st.1 ∉ (row.take i).map (·.1)) (c : 0 < i ∧ (faceAt ts st).1 ≠ (faceAt ts (row.getD (i - 1) (0, false))).2) : badAt ts row i = some sApart := by
  unfold badAt; rw [e]; dsimp only; rw [if_neg (by simpa using h), if_neg m, if_pos c]
theorem bad_no {ts : List (Int × Int)} {row : List (Int × Bool)} {i : Nat} {st : Int × Bool} (e : row[i]? = some st) (h : inT ts st.1) (m : st.1 ∉ (row.take i).map (·.1)) (c : ¬ (0 < i ∧ (faceAt ts st).1 ≠ (faceAt ts (row.getD (i - 1) (0, false))).2)) : badAt ts row i = none := by
  unfold badAt; rw [e]; dsimp only; rw [if_neg (by simpa using h), if_neg m, if_neg c]
theorem bad_in {ts : List (Int × Int)} {row : List (Int × Bool)} {i : Nat} {st : Int × Bool} (e : row[i]? = some st) (h : badAt ts row i = none) : inT ts st.1 := by
  by_cases c : inT ts st.1
  · exact c
  · rw [bad_none e c] at h; cases h

def spHas : Sp := fun vs H Q _ => ∃ (l : Addr) (ts : List (Int × Int)) (n : Int), vs = [.ref l, .int n] ∧ Til H l ts ∧ Q (.bl (decide (inT ts n))) H
/-- the faces of a step that lays a tile -/
def spFaces : Sp := fun vs H Q _ => ∃ (l p : Addr) (ts : List (Int × Int)) (st : Int × Bool), vs = [.ref l, .ref p] ∧ Til H l ts ∧ H p = some (.tup (scS st)) ∧ inT ts st.1 ∧ ∀ (q : Addr) (H' : Hp), New H q (.tup (scT (faceAt ts st))) H' → Q (.ref q) H'
def spFlaw : Sp := fun vs H Q _ => ∃ (t r : Addr) (ts : List (Int × Int)) (row : List (Int × Bool)), vs = [.ref t, .ref r] ∧ Til H t ts ∧ Row H r row ∧ row.length ≤ 100000 ∧
  (NoFlaw ts row → ∀ H', Same H H' → Q .non H') ∧ ∀ w i, FlawAt ts row w i → ∀ (p : Addr) (H' : Hp), Same H H' → H' p = some (.tup [.str w, .int (i : Nat)]) → Q (.ref p) H'
def meetsF (ts : List (Int × Int)) (row : List (Int × Bool)) : Bool := match row with
  | [] => true
  | st :: _ => decide ((faceAt ts (row.getD (row.length - 1) (0, false))).2 = (faceAt ts st).1)
theorem meetsF_cons (ts : List (Int × Int)) (st : Int × Bool) (rest : List (Int × Bool)) : meetsF ts (st :: rest) = decide ((faceAt ts ((st :: rest).getD ((st :: rest).length - 1) (0, false))).2 = (faceAt ts st).1) := rfl
def spRing : Sp := fun vs H Q _ => ∃ (t r : Addr) (ts : List (Int × Int)) (row : List (Int × Bool)), vs = [.ref t, .ref r] ∧ Til H t ts ∧ Row H r row ∧ row.length ≤ 100000 ∧
  (NoFlaw ts row → ∀ H', Same H H' → Q (.bl (meetsF ts row)) H') ∧ ((∃ w i, FlawAt ts row w i) → ∀ H', Same H H' → Q (.bl false) H')
def spMeets : Sp := fun vs H Q _ => ∃ (t r : Addr) (ts : List (Int × Int)) (row : List (Int × Bool)), vs = [.ref t, .ref r] ∧ Til H t ts ∧ Row H r row ∧ NoFlaw ts row ∧ ∀ H', Same H H' → Q (.bl (meetsF ts row)) H'
/-- law's: a list of at most 63 ints is handed in, True comes out -/
def spLaw (K : PySem.W.Frag) : Sp := fun vs H Q _ => ∃ (a : Addr) (ns : List Int), vs = [.ref a] ∧ SqL K H a (ns.map V.int) ∧ ns.length ≤ 63 ∧ ∀ H', Q (.bl true) H'
end L2

set_option Elab.async false
set_option linter.all false
set_option maxRecDepth 100000
set_option maxHeartbeats 4000000
namespace L2
open PySem PySem.Spec PyProof.Rows

/-! ### the marks of tiles, how often each stands -/
def flat (ts : List (Int × Int)) : List Int := ts.flatMap fun t => [t.1, t.2]
def stands (ts : List (Int × Int)) (m : Int) : Int := ((flat ts).count m : Nat)
def IsMarks (ts : List (Int × Int)) (ms : List Int) : Prop := ms.Pairwise (· < ·) ∧ ∀ x, x ∈ ms ↔ x ∈ flat ts
theorem sorted_uniq : ∀ {a b : List Int}, a.Pairwise (· < ·) → b.Pairwise (· < ·) → (∀ x, x ∈ a ↔ x ∈ b) → a = b
  | [], [], _, _, _ => rfl
  | [], y :: b, _, _, h => absurd ((h y).mpr List.mem_cons_self) (by simp)
  | x :: a, [], _, _, h => absurd ((h x).mp List.mem_cons_self) (by simp)
  | x :: a, y :: b, ha, hb, h => by
    rw [List.pairwise_cons] at ha hb
    have e : x = y := by
      rcases List.mem_cons.mp ((h x).mp List.mem_cons_self) with z | z
      · exact z
      · rcases List.mem_cons.mp ((h y).mpr List.mem_cons_self) with z' | z'
        · exact z'.symm
        · have := hb.1 x z; have := ha.1 y z'; omega
    subst e
    rw [sorted_uniq ha.2 hb.2 fun z => ?_]
    constructor
    · intro hz
      rcases List.mem_cons.mp ((h z).mp (List.mem_cons_of_mem _ hz)) with q | q
      · have := ha.1 z hz; omega
      · exact q
    · intro hz
      rcases List.mem_cons.mp ((h z).mpr (List.mem_cons_of_mem _ hz)) with q | q
      · have := hb.1 z hz; omega
      · exact q
theorem IsMarks.uniq {ts : List (Int × Int)} {a b : List Int} (ha : IsMarks ts a) (hb : IsMarks ts b) : a = b := sorted_uniq ha.1 hb.1 fun x => (ha.2 x).trans (hb.2 x).symm
theorem strict_of {ms : List Int} (h : ms.Pairwise (· ≤ ·)) (n : ms.Nodup) : ms.Pairwise (· < ·) := by
  have h2 : ms.Pairwise (· ≠ ·) := n
  exact (List.pairwise_and_iff.mpr ⟨h, h2⟩).imp fun {a b} ⟨x, y⟩ => by omega
theorem flat_mem (ts : List (Int × Int)) (x : Int) : x ∈ flat ts ↔ x ∈ ts.map (·.1) ++ ts.map (·.2) := by
  unfold flat
  rw [List.mem_flatMap, List.mem_append, List.mem_map, List.mem_map]
  constructor
  · rintro ⟨t, ht, hx⟩
    simp at hx
    rcases hx with rfl | rfl
    · exact .inl ⟨t, ht, rfl⟩
    · exact .inr ⟨t, ht, rfl⟩
  · rintro (⟨t, ht, rfl⟩ | ⟨t, ht, rfl⟩)
    · exact ⟨t, ht, by simp⟩
    · exact ⟨t, ht, by simp⟩
theorem flat_take {ts : List (Int × Int)} {i : Nat} {t : Int × Int} (e : ts[i]? = some t) : flat (ts.take (i + 1)) = flat (ts.take i) ++ [t.1] ++ [t.2] := by
  unfold flat
  rw [List.take_add_one, e, List.flatMap_append]
  simp
theorem flat_len (ts : List (Int × Int)) : (flat ts).length = 2 * ts.length := by
  unfold flat
  induction ts with
  | nil => rfl
  | cons t r ih => rw [List.flatMap_cons, List.length_append, ih]; simp; omega
theorem nodup_len : ∀ {a b : List Int}, a.Nodup → (∀ x ∈ a, x ∈ b) → a.length ≤ b.length
  | [], b, _, _ => Nat.zero_le _
  | x :: a, b, hn, h => by
    rw [List.nodup_cons] at hn
    have hx := h x List.mem_cons_self
    have ih := nodup_len (b := b.erase x) hn.2 fun y hy => (List.mem_erase_of_ne (fun z : y = x => hn.1 (z ▸ hy))).mpr (h y (List.mem_cons_of_mem _ hy))
    have := List.length_erase_of_mem hx
    have := List.length_pos_of_mem hx
    rw [List.length_cons]
    omega
/-- a dict that counts what was met -/
def CI (es : List (Int × Int)) (fs : List Int) : Prop := (es.map (·.1)).Nodup ∧ (∀ m, m ∈ es.map (·.1) ↔ m ∈ fs) ∧ ∀ e ∈ es, e.2 = ((fs.count e.1 : Nat) : Int)
def kvE (es : List (Int × Int)) : List (Key × V) := es.map fun e => (Sum.inl e.1, V.int e.2)
theorem valV_kvE (m : Int) : ∀ es : List (Int × Int), valV (kvE es) (Sum.inl m) = (es.find? fun e => decide (e.1 = m)).map fun e => V.int e.2
  | [] => rfl
  | e :: es => by
    have ih := valV_kvE m es
    by_cases h : e.1 = m
    · rw [List.find?_cons, decide_eq_true h]
      exact valV_pos (p := (Sum.inl e.1, V.int e.2)) (by rw [h])
    · rw [List.find?_cons, decide_eq_false h]
      rw [← ih]
      exact valV_neg (p := (Sum.inl e.1, V.int e.2)) (fun z => h (by injection z))
theorem CI.get {es : List (Int × Int)} {fs : List Int} (h : CI es fs) (m : Int) : (valV (kvE es) (Sum.inl m)).getD (V.int 0) = V.int ((fs.count m : Nat) : Int) := by
  rw [valV_kvE]
  cases e : es.find? fun e => decide (e.1 = m) with
  | none =>
    have hm : m ∉ fs := fun hm => by
      obtain ⟨x, hx, ex⟩ := List.mem_map.mp ((h.2.1 m).mpr hm)
      have := List.find?_eq_none.mp e x hx
      exact this (decide_eq_true ex)
    rw [List.count_eq_zero_of_not_mem hm]
    rfl
  | some x =>
    have h1 := List.find?_some e
    have h2 := List.mem_of_find?_eq_some e
    have e1 : x.1 = m := of_decide_eq_true h1
    rw [← e1, ← h.2.2 x h2]
    rfl
theorem CI.put {es : List (Int × Int)} {fs : List Int} (h : CI es fs) (m : Int) : ∃ es', putK (kvE es) (Sum.inl m) (V.int (((fs.count m : Nat) : Int) + 1)) = kvE es' ∧ CI es' (fs ++ [m]) := by
  have cnt : ∀ x, ((fs ++ [m]).count x : Nat) = fs.count x + if x = m then 1 else 0 := fun x => by
    rw [List.count_append]
    by_cases z : x = m
    · subst z; simp
    · rw [if_neg z, List.count_eq_zero_of_not_mem (l := [m]) (a := x) (by simpa using z)]
  by_cases hm : m ∈ fs
  · have ha : ((kvE es).any fun kv => decide (kv.1 = Sum.inl m)) = true := by
      obtain ⟨x, hx, ex⟩ := List.mem_map.mp ((h.2.1 m).mpr hm)
      rw [List.any_eq_true]
      exact ⟨_, List.mem_map.mpr ⟨x, hx, rfl⟩, decide_eq_true (by rw [ex])⟩
    have hk : (es.map fun e => if e.1 = m then (e.1, ((fs.count m : Nat) : Int) + 1) else e).map (·.1) = es.map (·.1) := by
      rw [List.map_map]
      apply List.map_congr_left
      intro e _
      show (if e.1 = m then (e.1, ((fs.count m : Nat) : Int) + 1) else e).1 = e.1
      split <;> rfl
    refine ⟨es.map fun e => if e.1 = m then (e.1, ((fs.count m : Nat) : Int) + 1) else e, ?_, ?_, ?_, ?_⟩
    · unfold putK
      rw [if_pos ha]
      unfold kvE
      rw [List.map_map, List.map_map]
      apply List.map_congr_left
      intro e _
      show (if (Sum.inl e.1 : Key) = Sum.inl m then _ else _) = _
      by_cases z : e.1 = m
      · rw [if_pos (by rw [z])]
        show _ = ((Sum.inl (if e.1 = m then (e.1, ((fs.count m : Nat) : Int) + 1) else e).1 : Key), V.int (if e.1 = m then (e.1, ((fs.count m : Nat) : Int) + 1) else e).2)
        rw [if_pos z]
      · rw [if_neg (fun q => z (by injection q))]
        show _ = ((Sum.inl (if e.1 = m then (e.1, ((fs.count m : Nat) : Int) + 1) else e).1 : Key), V.int (if e.1 = m then (e.1, ((fs.count m : Nat) : Int) + 1) else e).2)
        rw [if_neg z]
    · rw [hk]; exact h.1
    · intro x
      rw [hk, h.2.1 x, List.mem_append, List.mem_singleton]
      exact ⟨.inl, fun q => q.elim id fun z => z ▸ hm⟩
    · intro e he
      obtain ⟨x, hx, rfl⟩ := List.mem_map.mp he
      by_cases z : x.1 = m
      · rw [if_pos z]
        show ((fs.count m : Nat) : Int) + 1 = _
        rw [cnt, if_pos z, z]; omega
      · rw [if_neg z, cnt, if_neg z]
        exact h.2.2 x hx
  · have hnk : m ∉ es.map (·.1) := fun z => hm ((h.2.1 m).mp z)
    have hv : valV (kvE es) (Sum.inl m) = none := by
      rw [valV_kvE, Option.map_eq_none_iff, List.find?_eq_none]
      intro x hx z
      exact hnk (List.mem_map.mpr ⟨x, hx, of_decide_eq_true z⟩)
    refine ⟨es ++ [(m, ((fs.count m : Nat) : Int) + 1)], by rw [putK_new _ hv]; unfold kvE; rw [List.map_append]; rfl, ?_, ?_, ?_⟩
    · rw [List.map_append, List.nodup_append]
      refine ⟨h.1, by simp, fun x hx y hy => ?_⟩
      have : y = m := by simpa using hy
      rw [this]
      exact fun z => hnk (z ▸ hx)
    · intro x
      rw [List.map_append, List.mem_append, List.mem_append, h.2.1 x]
      rfl
    · intro e he
      rcases List.mem_append.mp he with he | he
      · have ne : e.1 ≠ m := fun z => hnk (z ▸ List.mem_map.mpr ⟨e, he, rfl⟩)
        rw [cnt, if_neg ne]
        exact h.2.2 e he
      · have : e = (m, ((fs.count m : Nat) : Int) + 1) := by simpa using he
        subst this
        rw [cnt, if_pos rfl]
        show ((fs.count m : Nat) : Int) + 1 = ((fs.count m + 1 : Nat) : Int)
        omega
theorem CI.len {es : List (Int × Int)} {fs : List Int} (h : CI es fs) : es.length ≤ fs.length := by
  have := nodup_len (b := fs) h.1 fun x hx => (h.2.1 x).mp hx
  rwa [List.length_map] at this
theorem CI.sorted {es fs : List (Int × Int)} {xs : List Int} (h : CI es xs) (p : fs.Perm es) (w : fs.Pairwise (fun e f => TS.lexP f e = false)) :
    (fs.map (·.1)).Pairwise (· < ·) ∧ (∀ x, x ∈ fs.map (·.1) ↔ x ∈ xs) ∧ fs = (fs.map (·.1)).map fun m => (m, ((xs.count m : Nat) : Int)) := by
  have hp := p.map (·.1)
  refine ⟨?_, fun x => hp.mem_iff.trans (h.2.1 x), ?_⟩
  · refine strict_of ?_ (hp.nodup_iff.mpr h.1)
    rw [List.pairwise_map]
    refine w.imp fun {a b} q => ?_
    unfold TS.lexP at q
    split at q
    · omega
    · have := of_decide_eq_false q
      omega
  · rw [List.map_map]
    conv => lhs; rw [← List.map_id fs]
    apply List.map_congr_left
    intro e he
    show e = (e.1, ((xs.count e.1 : Nat) : Int))
    rw [← h.2.2 e (p.mem_iff.mp he)]

theorem small1e4L {n : Nat} (h : n < 10000) : n < sizeLine := by rw [sizeLine_eq]; omega
theorem lc_listB {a : Addr} {xs : List V} {ix : List (Option Nat)} {g : TG} {tc : TT} {te : TE} {σ0 : St} {H : Hp} {Q : VK} (Pv : Nat → St → Hp → List V → Prop) (h0 : Pv 0 (pick σ0 ix) H []) (hl : ∀ i σ H ys, i ≤ xs.length → Pv i σ H ys → Rd H a (.lst xs) ∧ ys.length ≤ i) (hz : xs.length ≤ sizeLine)
    (hs : ∀ i x σ H ys (N : St → Hp → List V → Prop), (∀ σ H ys, Pv (i + 1) σ H ys → N σ H ys) → xs[i]? = some x → Pv i σ H ys → g x σ H fun σ2 H2 => tc σ2 H2 fun b H3 => if b = true then te σ2 H3 fun v H4 => N σ2 H4 (ys ++ [v]) else N σ2 H3 ys)
    (hd : ∀ σ H ys, Pv xs.length σ H ys → ∀ D H2, New H D (.lst ys) H2 → Q (.ref D) H2) : tLCb ix (ItQ a) g tc te σ0 H Q := lc_list Pv h0 hl hz hs hd
theorem lc_rangeB {lo : Int} {n : Nat} {ix : List (Option Nat)} {g : TG} {tc : TT} {te : TE} {σ0 : St} {H : Hp} {Q : VK} (Pv : Nat → St → Hp → List V → Prop) (h0 : Pv 0 (pick σ0 ix) H []) (hl : ∀ i σ H ys, i ≤ n → Pv i σ H ys → ys.length ≤ i) (hz : n ≤ sizeLine)
    (hs : ∀ i σ H ys (N : St → Hp → List V → Prop), (∀ σ H ys, Pv (i + 1) σ H ys → N σ H ys) → i < n → Pv i σ H ys → g (.int (lo + i)) σ H fun σ2 H2 => tc σ2 H2 fun b H3 => if b = true then te σ2 H3 fun v H4 => N σ2 H4 (ys ++ [v]) else N σ2 H3 ys)
    (hd : ∀ σ H ys, Pv n σ H ys → ∀ D H2, New H D (.lst ys) H2 → Q (.ref D) H2) : tLCb ix (Itr lo n) g tc te σ0 H Q := lc_range Pv h0 hl hz hs hd
theorem small1e4 {n : Nat} (h : n ≤ 10000) : n ≤ sizeLine := by rw [sizeLine_eq]; omega
/-! ### promises -/
def spMarks : Sp := fun vs H Q _ => ∃ (l : Addr) (ts : List (Int × Int)), vs = [.ref l] ∧ Til H l ts ∧ ts.length ≤ 1000 ∧
  ∀ (l' : Addr) (ms : List Int) (H' : Hp), IsMarks ts ms → H l' = none → Same H H' → H' l' = some (.lst (ms.map V.int)) → Q (.ref l') H'
def spStands : Sp := fun vs H Q _ => ∃ (l : Addr) (ts : List (Int × Int)) (m : Int), vs = [.ref l, .int m] ∧ Til H l ts ∧ ts.length ≤ 1000 ∧ ∀ H', Same H H' → Q (.int (stands ts m)) H'
def spCounts : Sp := fun vs H Q _ => ∃ (l : Addr) (ts : List (Int × Int)), vs = [.ref l] ∧ Til H l ts ∧ ts.length ≤ 1000 ∧
  ∀ (l' : Addr) (ms : List Int) (H' : Hp), IsMarks ts ms → H l' = none → Same H H' → Til H' l' (ms.map fun m => (m, stands ts m)) → Q (.ref l') H'
def oddOf (ts : List (Int × Int)) (ms : List Int) : List Int := ms.filter fun m => decide (stands ts m % 2 = 1)
def spOdd : Sp := fun vs H Q _ => ∃ (l : Addr) (ts : List (Int × Int)), vs = [.ref l] ∧ Til H l ts ∧ ts.length ≤ 1000 ∧
  ∀ (l' : Addr) (ms : List Int) (H' : Hp), IsMarks ts ms → H l' = none → Same H H' → H' l' = some (.lst ((oddOf ts ms).map V.int)) → Q (.ref l') H'
def spAlike : Sp := fun vs H Q _ => ∃ (a b : Addr) (ns : List Int), vs = [.ref a, .ref b] ∧ H a = some (.lst (ns.map V.int)) ∧ H b = some (.lst (ns.map V.int)) ∧ ns.length ≤ 10000 ∧ ∀ H', Same H H' → Q (.bl true) H'
theorem IsMarks.len {ts : List (Int × Int)} {ms : List Int} (h : IsMarks ts ms) : ms.length ≤ 2 * ts.length := by
  have hn : ms.Nodup := h.1.imp fun z => Int.ne_of_lt z
  have := nodup_len (b := flat ts) hn fun x hx => (h.2 x).mp hx
  rwa [flat_len] at this
theorem filter_take {α : Type} {xs : List α} {i : Nat} {x : α} {p : α → Bool} (e : xs[i]? = some x) : (xs.take (i + 1)).filter p = (xs.take i).filter p ++ if p x = true then [x] else [] := by
  rw [List.take_add_one, e, List.filter_append]
  congr 1
  simp only [Option.toList_some, List.filter_cons, List.filter_nil]
theorem sum_snoc (xs : List Int) (x : Int) : (xs ++ [x]).sum = xs.sum + x := by simp
theorem stands_step {ts : List (Int × Int)} {i : Nat} {t : Int × Int} (m : Int) (e : ts[i]? = some t) : stands (ts.take (i + 1)) m = stands (ts.take i) m + ((if decide (t.1 = m) = true then 1 else 0) + if decide (t.2 = m) = true then 1 else 0) := by
  unfold stands
  rw [flat_take e, List.count_append, List.count_append]
  have c : ∀ x : Int, (([x].count m : Nat) : Int) = if decide (x = m) = true then 1 else 0 := fun x => by
    by_cases z : x = m
    · subst z; simp
    · rw [List.count_eq_zero_of_not_mem (by simpa using fun q => z q.symm), decide_eq_false z]; rfl
  have c1 := c t.1
  have c2 := c t.2
  omega
end L2

set_option Elab.async false
set_option linter.all false
set_option maxRecDepth 100000
set_option maxHeartbeats 4000000
namespace XC
open PySem PySem.Spec PyProof.Rows PySem.W

/-! ### an exception that passes: its object stays without a dict -/
theorem dict_mapFields (f : Array Value → Array Value) (o : Obj) : (Obj.mapFields f o).dict = o.dict := by
  unfold Obj.mapFields
  first | rfl | (split <;> rfl) | (cases o.data <;> rfl)
def TrD (h base : Heap) (e : Addr) (cls fl : Value) : Prop :=
  ∃ oe vs T oT ts, h.get? e = some oe ∧ (oe.cls = cls ∧ oe.dict = none) ∧ oe.data = .fields vs ∧ vs[1]? = some (.ref T) ∧ base.get? T = none ∧ T ≠ e ∧ h.get? T = some oT ∧ oT.data = .fields ts ∧ ts[3]? = some fl
def NotD (base : Heap) (l : List Env) (e : Addr) (cls fl : Value) (h h' : Heap) : Prop := base.StaysIn h' ∧ h'.FunFrames base l ∧ TrD h' base e cls fl ∧ h.UpToSlots h'
section
variable {M : Model} {A : Around} {E : Value → Shared → Prop} {s : Shared}
theorem entryD {base : Heap} {env : Env} {outer : List Env} {L e : Addr} {oe : Obj} {vs : Array Value} {head : Value} {hadNext : Bool} {Q : Unit → Shared → Prop}
    (hfr : A.frames = some (env :: outer)) (hl : s.heap.FunFrames base (env :: outer)) (hf : env.frame = some L)
    (he : s.heap.get? e = some oe) (hkb : base.StaysIn s.heap) (hen : base.get? e = none) (hd : oe.data = .fields vs) (hsz : 1 < vs.size) (hdn : oe.dict = none)
    (h : ∀ h', NotD base (env :: outer) e oe.cls (rawInt L) s.heap h' → Q () { s with heap := h' }) :
    wpAny M A (do let a ← frameOf env; let pl ← entryPlaceOf L hadNext; let b ← EntryCells.newEntry head a .none (rawInt L) .none pl; setField (.ref e) 1 b) Q E s := by
  have hene : e ∉ (env :: outer).filterMap (·.frame) := fun hm => by
    obtain ⟨_, o, ho, hnf⟩ := hl.mem hm
    rw [he] at ho; injection ho with ho; subst ho; exact hnf vs hd
  refine wpAny_bind (wpAny_frameOf_fun hfr hl hf fun h₁ hs₁ => ?_)
  refine wpAny_bind (wpAny_entryPlaceOf fun pl hpl => ?_)
  unfold EntryCells.newEntry newFields
  refine wpAny_bind (wpAny_newObj_type ?_ (hpl.sizeOk5 _ _ _ _ _))
  have he₁ : h₁.get? e = some oe := (hs₁.2.1 e hene).trans he
  have kb₁ : base.StaysIn h₁ := fun b o hbo => (hs₁.2.1 b fun hm => by rw [(hl.mem hm).1] at hbo; cases hbo).trans (hkb b o hbo)
  generalize hto : ({ cls := .type "traceback", dict := none, data := .fields ([head, .ref L, .none, rawInt L, .none] ++ (if pl.isEmpty then List.replicate 6 Value.none else pl)).toArray } : Obj) = to
  have he₂ := Heap.get?_push_of_some (h := h₁) to he₁
  refine wpAny_setField he₂ hd hsz (h _ ?_)
  have hTe : h₁.objs.size ≠ e := Nat.ne_of_gt (Heap.lt_size he₁)
  have hd₃ := Obj.data_mapFields hd (·.setIfInBounds 1 (Value.ref h₁.objs.size))
  have he₃ := Heap.get?_update_self (Obj.mapFields (·.setIfInBounds 1 (Value.ref h₁.objs.size))) he₂ (Obj.isFreed_of_fields hd₃)
  have hT₃ := (Heap.get?_update_other (h₁.push to) (Obj.mapFields (·.setIfInBounds 1 (Value.ref h₁.objs.size))) (Ne.symm hTe)).trans (Heap.get?_push_size h₁ (by rw [← hto]; rfl))
  have keep : ∀ b o, b ≠ e → h₁.get? b = some o → ((h₁.push to).update e (Obj.mapFields (·.setIfInBounds 1 (Value.ref h₁.objs.size)))).get? b = some o := fun b o hbe hb => by
    rw [Heap.get?_update_other _ _ (Ne.symm hbe)]
    exact Heap.get?_push_of_some _ hb
  have noRecord : ∀ b o, s.heap.get? b = some o → (∀ vs, o.data ≠ .fields vs) → b ≠ e := fun b o hb hnf q => by
    rw [q, he] at hb; injection hb with hb; subst hb; exact hnf vs hd
  refine ⟨fun b o hbo => keep b o (fun q => by rw [q, hen] at hbo; cases hbo) (kb₁ b o hbo), hl.of_keeps fun b o hb hnf => ?_, ?_, fun b o hb hnf => ?_⟩
  · obtain ⟨sl, hs⟩ := hs₁.2.2 b o hb
    exact ⟨_, keep b _ (noRecord b o hb hnf) hs, rfl⟩
  · subst hto
    exact ⟨_, _, h₁.objs.size, _, _, he₃, ⟨Obj.cls_mapFields _ _, (dict_mapFields _ _).trans hdn⟩, hd₃, by simp [hsz], kb₁.fresh, hTe, hT₃, rfl, by first | (simp; done) | (rcases hpl with rfl | ⟨_, _, _, _, _, _, _, rfl⟩ <;> simp)⟩
  · obtain ⟨sl, hs⟩ := hs₁.2.2 b o hb
    exact ⟨sl, keep b _ (noRecord b o hb hnf) hs⟩
/-- a first note of it -/
theorem note_first {base : Heap} {env : Env} {outer : List Env} {L e : Addr} {oe : Obj} {vs : Array Value} {Q : Unit → Shared → Prop}
    (hfr : A.frames = some (env :: outer)) (hl : s.heap.FunFrames base (env :: outer)) (hf : env.frame = some L)
    (he : s.heap.get? e = some oe) (hkb : base.StaysIn s.heap) (hen : base.get? e = none) (hd : oe.data = .fields vs) (h1 : vs[1]? = some .none) (hdn : oe.dict = none)
    (h : ∀ h', NotD base (env :: outer) e oe.cls (rawInt L) s.heap h' → Q () { s with heap := h' }) : wpAny M A (noteFrame (.ref e) env) Q E s := by
  unfold noteFrame
  simp only [hf]
  refine wpAny_bind (wpAny_field he hd h1 ?_)
  rw [if_neg (by decide)]
  exact entryD hfr hl hf he hkb hen hd (Array.getElem?_eq_some_iff.mp h1).1 hdn h
/-- a later one, in a caller -/
theorem note_on {base : Heap} {env : Env} {outer : List Env} {L e : Addr} {cls : Value} {Q : Unit → Shared → Prop}
    (hfr : A.frames = some (env :: outer)) (hl : s.heap.FunFrames base (env :: outer)) (hf : env.frame = some L) (ht : TrD s.heap base e cls .none) (hkb : base.StaysIn s.heap) (hen : base.get? e = none)
    (h : ∀ h', NotD base (env :: outer) e cls (rawInt L) s.heap h' → Q () { s with heap := h' }) : wpAny M A (noteFrame (.ref e) env) Q E s := by
  obtain ⟨oe, vs, T, oT, ts, he, ⟨hcls, hdn⟩, hd, h1, hnT, hTe, hT, hdT, h3⟩ := ht
  subst hcls
  unfold noteFrame
  simp only [hf]
  refine wpAny_bind (wpAny_field he hd h1 ?_)
  rw [if_pos (show (Value.ref T != Value.none) = true from by simp)]
  refine wpAny_bind (wpAny_field hT hdT h3 ?_)
  rw [if_neg (show ¬ ((Value.none == rawInt L) = true) from by simp [rawInt])]
  refine wpAny_bind (wpAny_setField hT hdT (Array.getElem?_eq_some_iff.mp h3).1 ?_)
  have other : ∀ b, b ≠ T → (s.heap.update T (Obj.mapFields (·.setIfInBounds 3 Value.none))).get? b = s.heap.get? b := fun b hb => Heap.get?_update_other _ _ (Ne.symm hb)
  have noRecord : ∀ b o, s.heap.get? b = some o → (∀ vs, o.data ≠ .fields vs) → b ≠ T := fun b o hb hnf q => by
    rw [q, hT] at hb; injection hb with hb; subst hb; exact hnf ts hdT
  refine entryD hfr (hl.of_keeps fun b o hb hnf => ⟨o, (other b (noRecord b o hb hnf)).trans hb, rfl⟩) hf ((other e (Ne.symm hTe)).trans he)
    (fun b o hbo => (other b fun q => by rw [q, hnT] at hbo; cases hbo).trans (hkb b o hbo)) hen hd (Array.getElem?_eq_some_iff.mp h1).1 hdn
    fun h' ⟨x1, x2, x3, x4⟩ => h h' ⟨x1, x2, x3, fun b o hb hnf => x4 b o ((other b (noRecord b o hb hnf)).trans hb) hnf⟩
theorem flightD {base : Heap} {l : List Env} {e : Addr} {cls fl : Value} {Q : Unit → Shared → Prop} (hkb : base.StaysIn s.heap) (hl : s.heap.FunFrames base l) (ht : TrD s.heap base e cls fl)
    (h : ∀ h', NotD base l e cls .none s.heap h' → Q () { s with heap := h' }) : wpAny M A (setFlight (.ref e) none) Q E s := by
  obtain ⟨oe, vs, T, oT, ts, he, hcls, hd, h1, hnT, hTe, hT, hdT, h3⟩ := ht
  have hsz3 : 3 < ts.size := (Array.getElem?_eq_some_iff.mp h3).1
  have other : ∀ b, b ≠ T → (s.heap.update T (Obj.mapFields (·.setIfInBounds 3 ((none : Option Addr).elim Value.none fun f => rawInt f)))).get? b = s.heap.get? b :=
    fun b hb => Heap.get?_update_other _ _ (Ne.symm hb)
  have noRecord : ∀ b o, s.heap.get? b = some o → (∀ vs, o.data ≠ .fields vs) → b ≠ T := fun b o hb hnf q => by
    rw [q, hT] at hb; injection hb with hb; subst hb; exact hnf ts hdT
  unfold setFlight
  refine wpAny_bind (wpAny_field he hd h1 ?_)
  rw [if_pos (show (Value.ref T != Value.none) = true from by simp)]
  refine wpAny_setField hT hdT hsz3 (h _ ⟨fun b o hbo => (other b fun q => by rw [q, hnT] at hbo; cases hbo).trans (hkb b o hbo),
    hl.of_keeps fun b o hb hnf => ⟨o, (other b (noRecord b o hb hnf)).trans hb, rfl⟩, ?_, fun b o hb hnf => ⟨o.slots, (other b (noRecord b o hb hnf)).trans hb⟩⟩)
  exact ⟨oe, vs, T, _, _, (other e (Ne.symm hTe)).trans he, hcls, hd, h1, hnT, hTe, Heap.get?_update_self _ hT (Obj.isFreed_of_fields (Obj.data_mapFields hdT _)), Obj.data_mapFields hdT _, by simp [hsz3]⟩
end
end XC

set_option Elab.async false
set_option linter.all false
set_option maxRecDepth 100000
set_option maxHeartbeats 4000000
namespace L2
open PySem PySem.Spec PyProof.Rows

/-! ### own classes over ValueError -/
abbrev bmV : List Value := [.type "ValueError", .type "Exception", .type "BaseException", .type "object"]
structure XCls (K : PySem.W.Frag) (C : Addr) : Prop where
  exc : PySem.W.excIn K C bmV "ValueError.__new__" = true
  ga : PySem.W.findIn K (.ref C) "__getattribute__" = some (some (.builtin "BaseException.__getattribute__"))
  g2 : PySem.W.findIn K (.ref C) "__getattr__" = some none
  has : PySem.W.hasDictIn K C = true
  fnd : PySem.W.findObj K C none "__class__" = some (.bind (.builtin "getset_descriptor.__get__") (.builtin "object.__class__"))
  mro : PySem.W.mroIn K C (.type "object") = some true
  bx : PySem.W.mroIn K C (.type "BaseException") = some true
theorem own_in {K : PySem.W.Frag} {h : Heap} {mg : Str → Option Value} {x : Str} {C : Addr} {bm : List Value} {newId : String} (X : K.In h) (hm : mg x = some (.ref C)) (q : PySem.W.excIn K C bm newId = true) : OwnCls x C bm newId mg h := by
  refine ⟨hm, ?_⟩
  unfold PySem.W.excIn at q
  split at q
  · rename_i dd cd sl ho
    split at q
    · rename_i C' bm' k0 k1 k2 k3 n k5 hmr hs
      simp only [Bool.and_eq_true, beq_iff_eq, Bool.not_eq_true'] at q
      obtain ⟨⟨⟨⟨⟨e1, e2⟩, hdel⟩, ht⟩, hok⟩, hni⟩ := q
      subst e1 e2
      obtain ⟨nm, bs, mro, ns, qn, hd, sn, sub, ab, col, del⟩ := cd
      dsimp only at hmr hdel hok hni
      subst hmr hdel
      have hsl : sl = #[k0, k1, k2, k3, some (.builtin n), k5] := by
        obtain ⟨l⟩ := sl
        simp only at hs
        rw [hs]
      subst hsl
      exact ⟨bm', ns, nm, qn, bs, hd, sn, sub, ab, col, dd, k0, k1, k2, k3, k5, _, X _ _ ho, .of_isNs (PySem.W.isNs_of_in X hok), PySem.W.nsMap_none_of_in X hok hni, PySem.W.tail_of_in X ht⟩
    · cases q
  · cases q
/-- an exception's object -/
def IsE (x C : Addr) (h : Heap) : Prop := ∃ o vs, h.get? x = some o ∧ o.cls = .ref C ∧ o.dict = none ∧ o.data = .fields vs
theorem IsE.inst {x C : Addr} {h : Heap} (e : IsE x C h) : ∃ ox, PySem.W.InstAt h x ox C none := by
  obtain ⟨o, vs, h1, h2, h3, h4⟩ := e
  exact ⟨o, h1, h2, by unfold PySem.W.notCls; rw [h4], by rw [h3]; trivial⟩
section
open PySem.W
theorem class_exc {prog : Program} {w : World} {A : Around} {E : Value → Shared → Prop} {s : Shared} {K : PySem.W.Frag} {x C : Addr} {ox : Obj} {Q : Option Value → Shared → Prop} (X : K.In s.heap) (I : InstAt s.heap x ox C none)
    (hga : findIn K (.ref C) "__getattribute__" = some (some (.builtin "BaseException.__getattribute__"))) (hg2 : findIn K (.ref C) "__getattr__" = some none)
    (hf : findObj K C none "__class__" = some (.bind (.builtin "getset_descriptor.__get__") (.builtin "object.__class__"))) (hm : mroIn K C (.type "object") = some true) (hb : mroIn K C (.type "BaseException") = some true)
    (h : Q (some (.ref C)) { s with toks := s.toks + 1 }) : wpAny (model prog w) A (getAttr? (.ref x) "__class__") Q E s := by
  obtain ⟨hh, g, d, t, os⟩ := s
  have L0 := I.type (M := model prog w)
  have L1 := looks_findIn (M := model prog w) X hga
  have L2 := looks_find (M := model prog w) X I hf
  have L3 := looks_hook (M := model prog w) (mc := .ref C) X (r := none) hg2
  unfold getAttr? getAttrBy? getAttrBy
  refine wpAny_bind (wpAny_mkText (wpAny_bind (wpAny_attempt (wpAny_holding (wpAny_bind (L0.at (wpAny_bind (L1.at ?_))))))))
  show wpAny _ _ (getAttrByItsOwn _ _ _ _ _ _) _ _ _
  unfold getAttrByItsOwn
  refine wpAny_bind (L3.at ?_)
  refine wpAny_bind (wpAny_attempt (wpAny_holding ?_))
  show wpAny _ _ (boundAndCalled (.builtin "BaseException.__getattribute__") (.ref x) (.str "__class__" t)) _ _ _
  unfold boundAndCalled
  rw [PySem.F.attr_ValueError.ga.bind]
  refine wpAny_bind (wpAny_pure ?_)
  show wpAny _ _ (call (.builtin "BaseException.__getattribute__") [.ref x, .str "__class__" t]) _ _ _
  refine wpAny_call (codeAny_call_builtin PySem.F.attr_ValueError.ga.plain PySem.F.entry_bexc_ga ?_)
  refine @check_slot (model prog w) _ _ ⟨hh, g, d, t + 1, os⟩ "BaseException.__getattribute__" "BaseException" "__getattribute__" (.ref x) [.str "__class__" t] [] _ (by decide +kernel) (by decide +kernel) (L0.andThen (looks_mroIn X hb)) (PySem.F.args_bexc_ga _ _) ?_
  unfold Builtin.«object.__getattribute__»
  refine wpAny_bind (wpAny_pure ?_)
  refine wpAny_bind (wpAny_pure ?_)
  refine wpAny_bind (L0.at ?_)
  refine wpAny_bind (L2.at ?_)
  show wpAny _ _ (holding [.builtin "object.__class__"] (call (.builtin "getset_descriptor.__get__") [.builtin "object.__class__", .ref x, .ref C]) >>= ret) _ _ _
  refine wpAny_bind (wpAny_holding (wpAny_call (class_get (s := ⟨hh, g, d, t + 1, os⟩) (ox := ox) (od := none) X I hm ?_)))
  show wpAny _ A.in1 (ret (.ref C)) _ _ _
  refine wpAny_pure ?_
  show wpAny _ A (handedOut (.ref C)) _ _ _
  exact PySem.W.handed_on rfl (wpAny_pure h)
end
theorem kitx_exc {K : PySem.W.Frag} {x C : Addr} (c : XCls K C) : PySem.W.KitX K (.ref x) (.ref C) (IsE x C) where
  ty := fun _ _ _ e => let ⟨_, i⟩ := e.inst; i.type
  it := fun _ _ X _ => by
    obtain ⟨cdD, hcD, _⟩ := PySem.W.any_some c.has
    unfold PySem.W.clsIn at hcD
    split at hcD
    · rename_i c' d' cd' sl' ho
      intro A' Q' E' s' k q
      unfold isType loadHead
      exact wpAny_bind (wpAny_loadPart (k _ _ (X _ _ ho)) (wpAny_pure q))
    · cases hcD
  ne := fun h tp dd its n sl X htp => by
    obtain ⟨cdD, hcD, _⟩ := PySem.W.any_some c.has
    refine Bool.eq_false_iff.mpr fun q => ?_
    have e : C = tp := Value.ref.inj (beq_iff_eq.mp q)
    subst e
    unfold PySem.W.clsIn at hcD
    split at hcD
    · rename_i c' d' cd' sl' ho
      have z := (X _ _ ho).symm.trans htp
      cases z
    · cases hcD
  ca := fun {prog w A E Q s} X e k => by
    obtain ⟨ox, I⟩ := e.inst
    exact class_exc X I c.ga c.g2 c.fnd c.mro c.bx k
section
variable {X : Cx}
def tIsiE (K : PySem.W.Frag) (c : Value) (te : TE) : TE := fun σ H Q => te σ H fun x H1 => ∃ (a C : Addr) (b : Bool), x = .ref a ∧ H1 a = some (.ext (IsE a C)) ∧ XCls K C ∧ PySem.W.kitOne K (.ref C) c = some b ∧ Q (.bl b) H1
theorem isiE_ok {pins : List (Addr × Obj)} {σ : St} {H : Hp} {s : Shared} {Q : Value → Shared → Prop} {E : Value → Shared → Prop} {A : Around} {a C : Addr} {b : Bool} {c : Value} (I : Inv X pins σ H s) (ha : H a = some (.ext (IsE a C))) (x : XCls X.K C) (e : PySem.W.kitOne X.K (.ref C) c = some b)
    (h : ∀ tk, Q (.bool b) { s with toks := tk }) : wpAny (model X.prog X.w) A (call (.builtin "isinstance") [.ref a, c]) Q E s := by
  obtain ⟨p, _, _⟩ := (show ObjOk X.prog X.w H s.heap a (.ext (IsE a C)) from I.hok a _ ha)
  exact PySem.W.kia_one (kitx_exc x) I.kIn p e (fun z => nomatch z) h
theorem pe_isiB {e : Expr} {te : TE} {x : Str} {T : String} {p p2 pos : Pos} (K : PySem.W.Frag) (hK : X.K = K) (hm : X.mg "isinstance" = none) (hm2 : X.mg x = none) (hv2 : bootBuiltins x = some (.type T)) (hg : Gl X "isinstance") (hg2 : Gl X x) (he : PE X e te)
    (hn2 : x ≠ "__name__" := by decide) (hd2 : (x == ("__debug__" : Str)) = false := by decide)
    (hs : starEach [e, .Name x p2] X.env = (false, eval e X.env) :: starEach [.Name x p2] X.env := by rfl) (hs2 : starEach [.Name x p2] X.env = [(false, eval (.Name x p2) X.env)] := by rfl) (hpl : (backTo pos (starEach [.Name x p2] X.env)).any (·.1) = false := by rfl) :
    PE X (.Call (.Name "isinstance" p) [e, .Name x p2] [] pos) (tIsiE K (.type T) te) := by
  subst hK
  intro pins s σ H Q I h
  refine wpAny_Call_Name_kw (ld_blt I hg hm bt_isinstance ?_)
  refine PyProof.Rows.callWith_builtin1 ?_ hs hpl
  rw [hs]
  show wpAny _ _ (spliced ((false, eval e X.env) :: backTo pos (starEach [.Name x p2] X.env))) _ _ s
  refine Calls.spliced_cons (thn (he pins s σ H _ I h) fun u s1 ⟨y, H1, I1, r1, a, C, b, ey, ha, xc, k, q⟩ => ?_)
  subst ey
  cases (show u = Value.ref a from r1)
  rw [hs2]
  show wpAny _ _ (spliced ((false, eval (.Name x p2) X.env) :: backTo pos [])) _ _ s1
  refine Calls.spliced_cons (ld_blt I1 hg2 hm2 hv2 ?_ hn2 hd2)
  refine Calls.spliced_nil ?_
  exact isiE_ok I1 ha xc k fun tk => ⟨.bl b, H1, I1.tok tk, rfl, q⟩
theorem pe_isiO {e : Expr} {te : TE} {x : Str} {D : Addr} {p p2 pos : Pos} (K : PySem.W.Frag) (hK : X.K = K) (hm : X.mg "isinstance" = none) (hm2 : X.mg x = some (.ref D)) (hg : Gl X "isinstance") (hg2 : Gl X x) (he : PE X e te)
    (hd2 : (x == ("__debug__" : Str)) = false := by decide)
    (hs : starEach [e, .Name x p2] X.env = (false, eval e X.env) :: starEach [.Name x p2] X.env := by rfl) (hs2 : starEach [.Name x p2] X.env = [(false, eval (.Name x p2) X.env)] := by rfl) (hpl : (backTo pos (starEach [.Name x p2] X.env)).any (·.1) = false := by rfl) :
    PE X (.Call (.Name "isinstance" p) [e, .Name x p2] [] pos) (tIsiE K (.ref D) te) := by
  subst hK
  intro pins s σ H Q I h
  refine wpAny_Call_Name_kw (ld_blt I hg hm bt_isinstance ?_)
  refine PyProof.Rows.callWith_builtin1 ?_ hs hpl
  rw [hs]
  show wpAny _ _ (spliced ((false, eval e X.env) :: backTo pos (starEach [.Name x p2] X.env))) _ _ s
  refine Calls.spliced_cons (thn (he pins s σ H _ I h) fun u s1 ⟨y, H1, I1, r1, a, C, b, ey, ha, xc, k, q⟩ => ?_)
  subst ey
  cases (show u = Value.ref a from r1)
  rw [hs2]
  show wpAny _ _ (spliced ((false, eval (.Name x p2) X.env) :: backTo pos [])) _ _ s1
  refine Calls.spliced_cons (ld_glob I1 hg2 hm2 ?_ hd2)
  refine Calls.spliced_nil ?_
  exact isiE_ok I1 ha xc k fun tk => ⟨.bl b, H1, I1.tok tk, rfl, q⟩
end

/-! ### an exception that left a def -/
structure Fly (P : Program) (w : World) (outer : List Env) (H H' : Hp) (h0 : Heap) (x C : Addr) (B h : Heap) : Prop where
  stays : B.StaysIn h
  new : B.get? x = none
  frames : h.FunFrames B outer
  trd : XC.TrD h B x (.ref C) .none
  keep : ∀ b o, h0.get? b = some o → H b = none → b ∉ frs outer → B.get? b = some o
  slot : ∀ b o, h0.get? b = some o → H b = none → b ∈ frs outer → ∃ sl, h.get? b = some { o with slots := sl }
  free : ∀ b o, h0.get? b = some o → H b = none → H' b = none
  there : ∀ b o, h0.get? b = some o → b ∉ frs outer → ∃ o', B.get? b = some o'
  tups : ∀ b xs, H b = some (.tup xs) → H' b = some (.tup xs)
  frzs : ∀ b o u, H b = some (.frz o u) → H' b = some (.frz o u)
  tbls : ∀ b ps, H b = some (.tbl ps) → ∃ more, H' b = some (.tbl (ps ++ more))
  hok : HOk P w H' h
  inB : ∀ a u o, H' a = some u → h.get? a = some o → B.get? a = some o
section
variable {P : Program} {w : World} {outer : List Env} {H H' : Hp} {h0 B h h2 : Heap} {x C : Addr}
theorem Fly.un (f : Fly P w outer H H' h0 x C B h) : Un (frs outer) [] H H' h0 h where
  keep := fun b o e n hb _ => f.stays b o (f.keep b o e n hb)
  slot := fun b o e n hb _ => f.slot b o e n hb
  free := fun b o e n _ => f.free b o e n
  there := fun b o e _ => by
    by_cases hb : b ∈ frs outer
    · obtain ⟨_, o', e', _⟩ := f.frames.mem hb
      exact ⟨o', e'⟩
    · obtain ⟨o', e'⟩ := f.there b o e hb
      exact ⟨o', f.stays _ _ e'⟩
  tups := f.tups
  frzs := f.frzs
  tbls := f.tbls
theorem Fly.to (f : Fly P w outer H H' h0 x C B h) (n : XC.NotD B outer x (.ref C) .none h h2) : Fly P w outer H H' h0 x C B h2 := by
  obtain ⟨n1, n2, n3, n4⟩ := n
  refine ⟨n1, f.new, n2, n3, f.keep, fun b o e hn hb => ?_, f.free, f.there, f.tups, f.frzs, f.tbls, fun a u e => ?_, fun a u o e q => ?_⟩
  · obtain ⟨sl, e1⟩ := f.slot b o e hn hb
    obtain ⟨_, o', e', hd⟩ := f.frames.mem hb
    rw [e1] at e'
    have e2 := Option.some.inj e'
    obtain ⟨sl', e3⟩ := n4 b _ e1 (by rw [e2]; exact hd)
    exact ⟨sl', e3⟩
  · refine (f.hok a u e).stay (fun b v hb q => n1 _ _ ?_) (fun _ q => q) fun _ _ q => q
    rcases hb with rfl | hb
    · exact f.inB _ _ _ e q
    · exact f.inB _ _ _ hb q
  · obtain ⟨o0, e0⟩ := (f.hok a u e).there
    have eB := f.inB a u o0 e e0
    have := n1 _ _ eB
    rw [q] at this
    rw [Option.some.inj this]
    exact eB
theorem Fly.hx (f : Fly P w outer H H' h0 x C B h) : H' x = none := by
  cases e : H' x with
  | none => rfl
  | some u =>
    obtain ⟨o, eo⟩ := (f.hok x u e).there
    have := f.inB x u o e eo
    rw [f.new] at this
    cases this
theorem Fly.isE (f : Fly P w outer H H' h0 x C B h) : IsE x C h := by
  obtain ⟨oe, vs, T, oT, ts, he, ⟨hc, hd⟩, hda, _⟩ := f.trd
  exact ⟨oe, vs, he, hc, hd, hda⟩
theorem Fly.nofr (f : Fly P w outer H H' h0 x C B h) : x ∉ frs outer := fun hm => by
  obtain ⟨o, vs, e, _, _, hd⟩ := f.isE
  obtain ⟨_, o', e', hnf⟩ := f.frames.mem hm
  rw [e] at e'
  cases e'
  exact hnf vs hd
theorem Fly.was (f : Fly P w outer H H' h0 x C B h) : h0.get? x = none := by
  cases e : h0.get? x with
  | none => rfl
  | some o =>
    obtain ⟨o', e'⟩ := f.there x o e f.nofr
    rw [f.new] at e'
    cases e'
end
def CXE (P : Program) (w : World) : CXT := fun outer H s E e s' => ∃ (x C : Addr) (H' : Hp) (B : Heap), e = .ref x ∧ s'.os = s.os ∧ AllBare s'.gens ∧ Fly P w outer H H' s.heap x C B s'.heap ∧ E (.ref C) none H'

section
variable {X : Cx}
/-! ### raise C(..) -/
def tRaise (E : XK) (C : Addr) (te : TE) : TS := fun _ σ H => te σ H fun _ H1 => E (.ref C) none H1
theorem ps_raise {E : XK} {x : Str} {C : Addr} {e0 : Expr} {te : TE} {np cpos pos : Pos} (hg : Gl X x) (hm : X.mg x = some (.ref C)) (hx : XCls X.K C) (he : PE X e0 te)
    (hxe : X.xe = fun e s' => wpAny (model X.prog X.w) X.A (leaving X.env e) (fun _ s'' => CXE X.prog X.w X.outer X.H₀ X.s₀ E e s'') (fun e' s'' => CXE X.prog X.w X.outer X.H₀ X.s₀ E e' s'') s')
    (hstk : X.stack = X.env :: X.outer) (hfr : X.env.frame = some X.env.locals) (hexn : X.ex = []) (hc : X.calm = true)
    (hs : starEach [e0] X.env = [(false, eval e0 X.env)] := by rfl) (hpl : (backTo cpos (starEach [e0] X.env)).any (·.1) = false := by rfl) (hd : (x == ("__debug__" : Str)) = false := by decide) :
    PS X (.Raise (some (.Call (.Name x np) [e0] [] cpos)) none pos) (tRaise E C te) := by
  intro pins s σ H D I h
  obtain ⟨tl, N, nm, q, bs, hdct, sn, sub, ab, col, dd, k0, k1, k2, k3, k5, mN, hC, hN, hni, T⟩ := (own_in I.mod.kin hm hx.exc).obj
  refine wpAny_Raise_call_subT (C := C) (nm := nm) (q := q) (N := N) (bs := bs) (bm := tl) (hdct := hdct) (sn := sn) (sub := sub) (ab := ab) (col := col) (dd := dd) (k0 := k0) (k1 := k1) (k2 := k2) (k3 := k3) (k5 := k5)
    PySem.F.excBase_ValueError (mN := mN) (T.hasType PySem.F.excBase_ValueError.hasBase) (I.ok.hd hc) hpl hni (ld_glob I hg hm ⟨rfl, ?_⟩ hd)
  rw [hs]
  refine Calls.evalArgs_plain ?_
  show wpAny _ _ (spliced ((false, eval e0 X.env) :: backTo cpos [])) _ _ s
  refine Calls.spliced_cons (thn (he pins s σ H _ I h) fun u s1 ⟨v, H1, I1, rv, q1⟩ => Calls.spliced_nil ?_)
  refine ⟨rfl, (by show 1 ≤ sizeLine; decide), I1.bk _ _ hC, hN.keeps I1.bk, T.keeps I1.bk, fun h' e hmade => ?_⟩
  rw [hxe]
  obtain ⟨t, het, htn, ht⟩ := hmade.there
  have hfrA : X.A.frames = some (X.env :: X.outer) := I1.ok.frames.trans (by rw [hstk])
  have hst := I1.stack
  rw [hstk] at hst
  have hfl : ∀ b ∈ frs (X.env :: X.outer), H1 b = none := fun b hb => I1.stkFree b (by rw [hstk]; exact hb)
  generalize hB : PySem.W.hideAll s1.heap (frs (X.env :: X.outer)) = B
  have hBof : ∀ b o, B.get? b = some o → s1.heap.get? b = some o := fun b o e => PySem.W.of_hideAll _ (by rw [hB]; exact e)
  have hBget : ∀ b o, s1.heap.get? b = some o → b ∉ frs (X.env :: X.outer) → B.get? b = some o := fun b o e n => by rw [← hB]; exact PySem.W.hideAll_get _ e n
  have hF : s1.heap.FunFrames B (X.env :: X.outer) := by
    rw [← hB]
    exact PySem.W.funFrames_hide hst fun env he' a ha => List.mem_filterMap.mpr ⟨env, he', ha⟩
  have hen : B.get? e = none := by
    cases z : B.get? e with
    | none => rfl
    | some o => have := hBof _ _ z; rw [hmade.new] at this; cases this
  unfold leaving
  refine wpAny_bind (XC.note_first (s := { s1 with heap := h' }) (base := B) hfrA (hF.of_keeps fun b o hb _ => ⟨o, hmade.keeps b o hb, rfl⟩) hfr het (fun b o hb => hmade.keeps b o (hBof b o hb)) hen rfl rfl rfl fun h1 n1 => ?_)
  refine XC.flightD (s := { s1 with heap := h1 }) n1.1 n1.2.1 n1.2.2.1 fun h2 n2 => ?_
  have up : h'.UpToSlots h2 := n1.2.2.2.trans n2.2.2.2
  have hL : ∀ b o, X.s₀.heap.get? b = some o → b ∉ frs X.outer → b ∉ frs (X.env :: X.outer) := fun b o e0 hb hm' => by
    have hm2 : b ∈ (X.env :: X.outer).filterMap (·.frame) := hm'
    rw [List.filterMap_cons, hfr] at hm2
    rcases List.mem_cons.mp hm2 with z | z
    · exact absurd (Nat.lt_of_lt_of_le (Heap.lt_size e0) I1.ok.above) (by rw [z]; exact Nat.lt_irrefl _)
    · exact hb z
  refine ⟨e, C, H1, B, rfl, I1.os, I1.bare, ⟨n2.1, hen, n2.2.1.2.2, n2.2.2.1, fun b o e0 hn hb => ?_, fun b o e0 hn hb => ?_, fun b o e0 hn => ?_, fun b o e0 hb => ?_, I1.base.tups, I1.base.frzs, I1.base.tbls, fun a u ea => ?_, fun a u o ea eo => ?_⟩, q1⟩
  · exact hBget b o (I1.base.keep b o e0 hn hb (by rw [hexn]; simp)) (hL b o e0 hb)
  · obtain ⟨sl, e1⟩ := I1.base.slot b o e0 hn hb (by rw [hexn]; simp)
    have hb' : b ∈ frs (X.env :: X.outer) := by
      show b ∈ (X.env :: X.outer).filterMap (·.frame)
      rw [List.filterMap_cons, hfr]
      exact List.mem_cons_of_mem _ hb
    obtain ⟨_, o', e', hd'⟩ := hst.mem hb'
    rw [e1] at e'
    have e2 := Option.some.inj e'
    obtain ⟨sl', e3⟩ := up b _ (hmade.keeps _ _ e1) (by rw [e2]; exact hd')
    exact ⟨sl', e3⟩
  · exact I1.base.free b o e0 hn (by rw [hexn]; simp)
  · obtain ⟨o', e1⟩ := I1.base.there b o e0 (by rw [hexn]; simp)
    exact ⟨o', hBget b o' e1 (hL b o e0 hb)⟩
  · refine (I1.hok a u ea).stay (fun b v hb q => n2.1 _ _ (hBget b v q fun hm' => ?_)) (fun _ q => q) fun _ _ q => q
    have hz := hfl b hm'
    rcases hb with rfl | hb
    · rw [hz] at ea; cases ea
    · rw [hz] at hb; cases hb
  · obtain ⟨o0, e0⟩ := (I1.hok a u ea).there
    have eB := hBget a o0 e0 fun hm' => by have hz := hfl a hm'; rw [hz] at ea; cases ea
    have e1 := n2.1 _ _ eB
    have eo' : h2.get? a = some o := eo
    rw [eo'] at e1
    rw [Option.some.inj e1]
    exact eB
end
section
variable {P : Program} {w : World} {K : PySem.W.Frag} {mg : Str → Option Value} {base : Heap}
/-- a def that may raise -/
theorem Fun.okX {x qual : Str} {st : Stmt} {f : Addr} {fd : FuncData} {N ps : List Str} {k : Nat} {sp : Sp} (F : Fun K x qual st f fd) (S : FnScope N ps (defScope st)) (len : ∀ vs H Q E, sp vs H Q E → vs.length = ps.length)
    (hbody : ∀ (cdv : Value) (A : Around) (outer : List Env) (s : Shared) (H : Hp) (vs : List V) (Q : VK) (E : XK), Room k (A.deeper (envOfC qual (defScope st) s.heap.objs.size f cdv)) → sp vs H Q E →
      ∃ t, PSs (cxOf (CXE P w) P w K mg base N qual (defScope st) f cdv A outer s H E) (defBody st) t ∧ t { nx := fun _ H' => Q .non H', rt := Q } (start N vs) H) : FnOk P w K mg base (CXE P w) (k + 1) f fd ps sp := by
  obtain ⟨oc, od, kV, doc, pm, an, cdv, ct, osl, rfl, lk, hcd⟩ := F.ex
  exact fn_of lk hcd S len fun A outer s H vs Q E hr hsp => hbody cdv A outer s H vs Q E hr hsp
end
structure CalleeX (P : Program) (w : World) (K : PySem.W.Frag) (mg : Str → Option Value) (base : Heap) (k : Nat) (x : Str) (ps : List Str) (sp : Sp) : Prop where
  ex : ∃ f fd, FnOk P w K mg base (CXE P w) k f fd ps sp ∧ mg x = some (.ref f) ∧ PySem.W.keepIn K (.ref f) = true ∧ Binds K fd ps []
theorem PS.nox {X : Cx} {st : Stmt} {t : TS} (h : PS X.nox st t) : PS X st t := fun pins s σ H D I hw =>
  wpAny_mono (h pins s σ H D (I.wish _) hw) (fun _ _ q => q.unwish) fun _ _ z => False.elim z
end L2

set_option Elab.async false
set_option linter.all false
set_option maxRecDepth 100000
set_option maxHeartbeats 4000000
namespace L2
open PySem PySem.Spec PyProof.Rows

/-! ### within an except suite -/
abbrev Cx.held (X : Cx) (y : Addr) (xe : Value → Shared → Prop) : Cx := { X with A := X.A.mark (some (.ref y)), calm := false, xe := xe }
section
variable {X : Cx} {pins : List (Addr × Obj)} {σ : St} {H : Hp} {s : Shared} {y : Addr} {xe : Value → Shared → Prop}
theorem Inv.held (I : Inv X pins σ H s) : Inv (X.held y xe) pins σ H s :=
  ⟨⟨I.ok.mod, I.ok.kind, I.ok.glob, I.ok.blt, I.ok.above, I.ok.inj, I.ok.has, I.ok.cab, fun z => (nomatch z), I.ok.frames, I.ok.stk, I.ok.exf, I.ok.bs, I.ok.bsz, I.ok.noex, I.ok.exfs, I.ok.funs, I.ok.frf⟩, I.os, I.bare, I.base, I.loc, I.cell, I.free, I.freeC, I.pin, I.hok, I.len⟩
theorem Inv.unheld (ok : X.Ok) (I : Inv (X.held y xe) pins σ H s) : Inv X pins σ H s := ⟨ok, I.os, I.bare, I.base, I.loc, I.cell, I.free, I.freeC, I.pin, I.hok, I.len⟩
/-- an untracked object becomes tracked, wherever it lies -/
theorem Inv.track0 {D : Addr} {o : HO} (I : Inv X pins σ H s) (hn : H D = none) (h1 : X.s₀.heap.get? D = none) (hL : D ≠ X.env.locals)
    (h2 : ∀ x c, X.env.cells.lookup x = some c → c ≠ D) (h3 : ∀ p ∈ X.pn ++ pins, p.1 ≠ D) (new : ObjOk X.prog X.w (upd H D o) s.heap D o) : Inv X pins σ (upd H D o) s := by
  have nD : ∀ b ob, X.s₀.heap.get? b = some ob → b ≠ D := fun b ob e z => by rw [z, h1] at e; cases e
  refine ⟨I.ok, I.os, I.bare, ⟨I.base.keep, I.base.slot, fun b ob e n hx => ?_, I.base.there, fun b xs e => ?_, fun b ob u e => ?_, fun b ps e => ?_⟩, I.loc, I.cell, ?_, fun x c e => ?_, fun p hp => ?_, fun b u e => ?_, I.len⟩
  · rw [upd_ne (nD b ob e)]; exact I.base.free b ob e n hx
  · have := I.base.tups b xs e
    rw [upd_ne (ne_of_none this hn)]; exact this
  · have := I.base.frzs b ob u e
    rw [upd_ne (ne_of_none this hn)]; exact this
  · obtain ⟨m, this⟩ := I.base.tbls b ps e
    exact ⟨m, by rw [upd_ne (ne_of_none this hn)]; exact this⟩
  · rw [upd_ne hL.symm]; exact I.free
  · rw [upd_ne (h2 x c e)]; exact I.freeC x c e
  · obtain ⟨e, n, r⟩ := I.pin p hp
    exact ⟨e, by rw [upd_ne (h3 p hp)]; exact n, r⟩
  · by_cases hb : b = D
    · subst hb; rw [upd_same] at e; cases e; exact new
    · rw [upd_ne hb] at e
      exact (I.hok b u e).stay (fun c v _ q => q) (fun c q => by rw [upd_ne (ne_of_none q hn)]; exact q) fun c xs q => by rw [upd_ne (ne_of_none q hn)]; exact q
/-- the names are forgotten -/
theorem Inv.lost {h' : Heap} {m' : Str → Option Value} {tk : Nat} (I : Inv X pins σ H s) (hn : h'.Ns X.env.locals m') (hs : Heap.SameBut X.env.locals s.heap h') : Inv X pins (List.replicate X.N.length none) H { s with heap := h', toks := tk } := by
  have neL : ∀ b o, X.s₀.heap.get? b = some o → b ≠ X.env.locals := fun b o e => Nat.ne_of_lt (Nat.lt_of_lt_of_le (Heap.lt_size e) I.ok.above)
  refine ⟨I.ok, I.os, I.bare, ⟨fun b o e n hb hx => ?_, fun b o e n hb hx => ?_, I.base.free, fun b o e hx => ?_, I.base.tups, I.base.frzs, I.base.tbls⟩, ⟨m', hn, fun j y v' e1 e2 e3 => ?_⟩, fun y c e => ?_, I.free, I.freeC, fun p hp => ?_, fun b u e => ?_, by simp⟩
  · exact (hs.2 b (neL b o e)).trans (I.base.keep b o e n hb hx)
  · obtain ⟨sl, e1⟩ := I.base.slot b o e n hb hx
    exact ⟨sl, (hs.2 b (neL b o e)).trans e1⟩
  · obtain ⟨o', e1⟩ := I.base.there b o e hx
    exact ⟨o', (hs.2 b (neL b o e)).trans e1⟩
  · rw [List.getElem?_replicate] at e2
    split at e2
    · have := Option.some.inj e2; cases this
    · cases e2
  · obtain ⟨w', z⟩ := I.cell y c e
    exact ⟨w', z.sameBut hs (I.cne y c e)⟩
  · obtain ⟨e, n, ne, nf, d⟩ := I.pin p hp
    exact ⟨(hs.2 p.1 ne).trans e, n, ne, nf, d⟩
  · refine (I.hok b u e).stay (fun c w' hc q => (hs.2 c ?_).trans q) (fun _ q => q) fun _ _ q => q
    rintro rfl
    have hz := I.free
    rcases hc with rfl | hc
    · rw [hz] at e; cases e
    · rw [hz] at hc; cases hc
end
section
variable {X : Cx}
/-- try: f(..) except D as n: .. , where f raises -/
def tTryE (K : PySem.W.Frag) (D : Addr) (i : Nat) (sp : Sp) (ta : TA) (ts : TS) : TS := fun Dd σ H => ta σ H fun vs H1 => sp vs H1 (fun _ _ => False) fun c _ H2 =>
  ∃ C, c = .ref C ∧ PySem.W.exmOne K (.ref C) (.ref D) = some true ∧ ∀ y H3, New H2 y (.ext (IsE y C)) H3 → ts { nx := fun _ _ => False, rt := Dd.rt } (σ.set i (some (.ref y))) H3
theorem ps_tryE {D : Addr} {i k : Nat} {n fx cn : Str} {ps : List Str} {sp : Sp} {e : Expr} {es : List Expr} {ta : TA} {ts : TS} {b0 : Stmt} {suite : List Stmt} {p np cpos epos hpos pos : Pos}
    (c : CalleeX X.prog X.w X.K X.mg X.base k fx ps sp) (hr : Room k X.A) (hgf : Gl X fx) (ha : PA X.nox (e :: es) ta) (hmc : X.mg cn = some (.ref D)) (hgc : Gl X cn)
    (hstk : X.stack = X.env :: X.outer) (hfr : X.env.frame = some X.env.locals) (hexn : X.ex = []) (hN : X.N.Nodup) (hi : X.N[i]? = some n) (hln : X.env.scope.names.lookup n = some .local)
    (hsuite : ∀ (y : Addr) xe, PSs (X.held y xe) (b0 :: suite) ts)
    (hdb : (fx == ("__debug__" : Str)) = false := by decide) (hdc : (cn == ("__debug__" : Str)) = false := by decide) (he : starEach (e :: es) X.env = (false, eval e X.env) :: starEach es X.env := by rfl) (hpl : (backTo cpos (starEach es X.env)).any (·.1) = false := by rfl)
    (hsw : swapsWith (.Call (.Name fx p) (e :: es) [] cpos) none epos.line X.env = pure false := by rfl) :
    PS X (.Try [.Expr (.Call (.Name fx p) (e :: es) [] cpos) epos] [.ExceptHandler (some (.Name cn np)) (some n) (b0 :: suite) hpos] [] [] pos) (tTryE X.K D i sp ta ts) := by
  intro pins s σ H Dd I h
  obtain ⟨f, fd, F, hmf, hkf, hb⟩ := c.ex
  refine wpAny_Try_except (wpAny_execs_cons (wpAny_Expr_any ?_ I.quiet hsw))
  refine wpAny_Call_Name_kw (ld_glob I hgf hmf ?_ hdb)
  refine PySem.W.callWith_K (h₀ := X.base) I.ok.mod.kin hkf (wpAny_mono (ha cpos pins s σ H _ (I.wish _) h) (fun us s1 ⟨vs, H1, I1', r, q⟩ => ⟨I1'.kIn, ?_⟩) fun _ _ z => False.elim z) he hpl
  have I1 := I1'.unwish
  have hl : us.length = ps.length := by rw [← r.length]; exact F.len _ _ _ _ q
  refine wpAny_call (codeAny_mono (F.run X.A X.stack s1 H1 ⟨us, []⟩ us vs _ _ hr I1.env0 (by have := hb s1 us I1.kIn (by rw [List.append_nil]; exact hl); rw [List.append_nil] at this; exact this) r q) fun rr s' hq => ?_)
  cases rr with
  | ok fl =>
    cases fl with
    | ret u => obtain ⟨_, _, _, _, _, _, _, z⟩ := hq; exact z.elim
    | next => exact False.elim hq
    | brk => exact False.elim hq
    | cont => exact False.elim hq
  | error ee =>
    obtain ⟨x, C, H2, B, rfl, hos, hbare, fly, C', hC', hexm, hts⟩ := hq
    have eC := Value.ref.inj hC'
    subst eC
    have hfrA : X.A.frames = some (X.env :: X.outer) := I1.ok.frames.trans (by rw [hstk])
    have fl := fly
    rw [hstk] at fl
    refine XC.note_on (base := B) hfrA fl.frames hfr fl.trd fl.stays fl.new fun h1 n1 => ?_
    refine XC.flightD (s := { s' with heap := h1 }) n1.1 n1.2.1 n1.2.2.1 fun h2 n2 => ?_
    have fly2 : Fly X.prog X.w X.stack H1 H2 s1.heap x C B h2 := fly.to (by rw [hstk]; exact ⟨n2.1, n2.2.1, n2.2.2.1, n1.2.2.2.trans n2.2.2.2⟩)
    have I2 : Inv X pins σ H2 { s' with heap := h2 } := I1.call' (s' := { s' with heap := h2 }) hos fly2.un fly2.hok hbare (fun b z => absurd z (by simp))
    refine wpAny_handleBy_cons (codeAny_handlers_test ?_) (by intro q; cases q)
    refine ld_glob (X := X.held x fun _ _ => True) I2.held hgc hmc ?_ hdc
    refine (PySem.W.exm_one (M := model X.prog X.w) I2.kIn (let ⟨_, i⟩ := fly2.isE.inst; i.type) hexm).here ?_
    show codeAny _ _ _ _ _
    refine codeAny_handlers_suite_as ?_
    refine XC.flightD (s := { s' with heap := h2 }) n2.1 n2.2.1 n2.2.2.1 fun h3 n3 => ?_
    have fly3 : Fly X.prog X.w X.stack H1 H2 s1.heap x C B h3 := fly2.to (by rw [hstk]; exact n3)
    have I3 : Inv X pins σ H2 { s' with heap := h3 } := I1.call' (s' := { s' with heap := h3 }) hos fly3.un fly3.hok hbare (fun b z => absurd z (by simp))
    obtain ⟨oe, vse, hoe, hoc, hod, hof⟩ := id fly3.isE
    have hLfr : X.env.locals ∈ frs X.stack := by
      rw [hstk]
      show _ ∈ (X.env :: X.outer).filterMap (·.frame)
      rw [List.filterMap_cons, hfr]
      exact List.mem_cons_self
    have hxL : x ≠ X.env.locals := fun z => fly3.nofr (by rw [z]; exact hLfr)
    have hx0 : X.s₀.heap.get? x = none := by
      cases z : X.s₀.heap.get? x with
      | none => rfl
      | some o =>
        obtain ⟨o', e'⟩ := I1.base.there x o z (by rw [hexn]; simp)
        rw [fly3.was] at e'
        cases e'
    have hxc : ∀ y c, X.env.cells.lookup y = some c → c ≠ x := fun y c e z => by
      obtain ⟨v, o, ho, hd⟩ := I3.cell y c e
      rw [z] at ho
      have : o = oe := Option.some.inj (ho.symm.trans hoe)
      rw [this, hof] at hd
      cases hd
    have hxp : ∀ q ∈ X.pn ++ pins, q.1 ≠ x := fun q hq z => by
      obtain ⟨e, n, ne, nf, d⟩ := I1.pin q hq
      have hnf : q.1 ∉ frs X.stack := fun hm => by
        rw [hstk] at hm
        have hm2 : q.1 ∈ (X.env :: X.outer).filterMap (·.frame) := hm
        rw [List.filterMap_cons, hfr] at hm2
        rcases List.mem_cons.mp hm2 with zz | zz
        · exact ne zz
        · exact nf zz
      have := fly3.keep q.1 q.2 e n hnf
      rw [z, fly3.new] at this
      cases this
    have I4 : Inv X pins σ (upd H2 x (.ext (IsE x C))) { s' with heap := h3 } := I3.track0 (o := .ext (IsE x C)) fly3.hx hx0 hxL hxc hxp ⟨fly3.isE, ⟨oe, hoe⟩, fun g1 g2 ⟨o, vs, e1, r⟩ k => ⟨o, vs, k o e1, r⟩⟩
    refine store_ok I4 hN hi (.inl hln) (v := .ref x) rfl (fun s4 I5 => ?_) (.inr hln)
    refine thn (hsuite x _ pins s4 _ _ { nx := fun _ _ => False, rt := Dd.rt } I5.held (hts x _ (.upd fly3.hx))) fun fl2 s5 q5 => ?_
    cases fl2 with
    | next => obtain ⟨_, _, _, z⟩ := q5; exact z.elim
    | brk => obtain ⟨_, _, _, z⟩ := q5; exact z.elim
    | cont => obtain ⟨_, _, _, z⟩ := q5; exact z.elim
    | ret u =>
      obtain ⟨v, σ5, H5, I6', rv, q6⟩ := q5
      have I6 : Inv X pins σ5 H5 s5 := I6'.unheld I.ok
      obtain ⟨m, hn, _⟩ := id I6.loc
      refine wpAny_nameGoes hln hn (by rw [I.ok.kind]; rfl) fun h6 m6 hn6 hs6 => ?_
      exact ⟨v, _, H5, I6.lost hn6 hs6, rv, q6⟩
end
end L2

set_option Elab.async false
set_option linter.all false
set_option maxRecDepth 100000
set_option maxHeartbeats 4000000
namespace L2
open PySem PySem.Spec PyProof.Rows
/-- what is asked of a caught exception of the class at C -/
structure XKit (K : PySem.W.Frag) (C TE OTH : Addr) : Prop where
  exm : PySem.W.exmOne K (.ref C) (.ref TE) = some true
  kv : PySem.W.kitOne K (.ref C) (.type "ValueError") = some true
  ks : PySem.W.kitOne K (.ref C) (.ref C) = some true
  ko : PySem.W.kitOne K (.ref C) (.ref OTH) = some false
def spFacesX (C : Addr) : Sp := fun vs H _ E => ∃ (l p : Addr) (ts : List (Int × Int)) (st : Int × Bool), vs = [.ref l, .ref p] ∧ Til H l ts ∧ H p = some (.tup (scS st)) ∧ ¬ inT ts st.1 ∧ E (.ref C) none H
def spRefused1 : Sp := fun vs H Q _ => ∃ (l p : Addr) (ts : List (Int × Int)) (st : Int × Bool), vs = [.ref l, .ref p] ∧ Til H l ts ∧ H p = some (.tup (scS st)) ∧ ¬ inT ts st.1 ∧ ∀ H', Same H H' → Q (.bl true) H'
def spShows : Sp := fun vs H Q _ => ∃ (p : Addr) (t : Int × Int), vs = [.ref p, .int t.1, .int t.2] ∧ H p = some (.tup (scT t)) ∧ ∀ H', Same H H' → Q (.bl true) H'
end L2

set_option Elab.async false
set_option linter.all false
set_option maxRecDepth 100000
set_option maxHeartbeats 4000000
namespace L2
open PySem PySem.Spec PyProof.Rows
section
variable {X : Cx}
/-! ### in, over a list of ints -/
theorem inV_int (i : Int) : ∀ ns : List Int, inV (.int i) (ns.map V.int) = decide (i ∈ ns)
  | [] => rfl
  | n :: ns => by
    have ih := inV_int i ns
    show (eqV (.int n) (.int i) || inV (.int i) (ns.map V.int)) = _
    rw [ih]
    show ((n == i) || _) = _
    by_cases h : n = i
    · subst h; simp
    · have h' : ¬ i = n := fun z => h z.symm
      simp [h, h']
theorem flat_int : ∀ ns : List Int, (ns.map V.int).all flatV = true
  | [] => rfl
  | _ :: ns => flat_int ns
def rInI (k : Bool → Bool) : R2 := fun x y H Q => ∃ (p : Addr) (i : Int) (ns : List Int), x = .int i ∧ y = .ref p ∧ Rd H p (.lst (ns.map V.int)) ∧ Q (.bl (k (decide (i ∈ ns)))) H
theorem in_q : OpR X (compareOp .In) (rInI id) := op_in_seq.imp fun x y H Q ⟨p, i, ns, h1, h2, h3, q⟩ => ⟨p, ns.map V.int, h2, .inl (.inl h3), by rw [h1]; rfl, flat_int ns, by rw [h1, inV_int]; exact q⟩
theorem notIn_q : OpR X (compareOp .NotIn) (rInI not) := op_notIn_seq.imp fun x y H Q ⟨p, i, ns, h1, h2, h3, q⟩ => ⟨p, ns.map V.int, h2, .inl (.inl h3), by rw [h1]; rfl, flat_int ns, by rw [h1, inV_int]; exact q⟩
theorem ints_atI {vs : List Value} {ns : List Int} (h : IntsAre vs ns) : ∀ (i : Nat) v, vs[i]? = some v → ∃ t, v = Value.int (ns.getD i 0) t := by
  induction h with
  | nil => intro i v e; simp at e
  | cons n t h ih =>
    intro i v e
    cases i with
    | zero => simp at e; exact ⟨t, by rw [← e]; rfl⟩
    | succ i => obtain ⟨u, hu⟩ := ih i v (by simpa using e); exact ⟨u, by rw [hu]; rfl⟩
/-! ### l.index(i), there -/
def tIndex (to te : TE) : TE := fun σ H Q => to σ H fun x H1 => ∃ (l : Addr) (ns : List Int), x = .ref l ∧ H1 l = some (.lst (ns.map V.int)) ∧ te σ H1 fun y H2 => ∃ (i : Int) (j : Nat), y = .int i ∧ H2 l = some (.lst (ns.map V.int)) ∧ ns[j]? = some i ∧ (∀ m, m < j → ns[m]? ≠ some i) ∧ Q (.int (j : Nat)) H2
theorem pe_index {o e : Expr} {to te : TE} {apos cpos : Pos} (ho : PE X o to) (he : PE X e te)
    (hbase : attributeBase o "index" X.env (eval o X.env) = eval o X.env := by rfl)
    (hfew : ((backTo cpos (starEach [e] X.env)).all (fun x => !x.1) && (backToKw cpos (keywordEach [] X.env)).all (fun x => x.1.isSome)
      && decide ([e].length + ([] : List Keyword).length + (if ([] : List Keyword).isEmpty then 0 else 1) < 30)) = true := by rfl)
    (hline : (apos.endLine == cpos.line) = true := by rfl) (hs : starEach [e] X.env = [(false, eval e X.env)] := by rfl) :
    PE X (.Call (.Attribute o "index" apos) [e] [] cpos) (tIndex to te) := by
  intro pins s σ H Q I h
  refine wpAny_Call_method_late hbase hfew hline rfl (thn (ho pins s σ H _ I h) fun v s1 ⟨x, H1, I1, r1, l, ns, ex, hl, q1⟩ => ?_)
  subst ex
  obtain ⟨h1, h2⟩ := tyV_is (T := "list") I1 r1 (.inl ⟨rfl, ns.map V.int, SqL.of hl⟩)
  refine ⟨"list", "list.index", PySem.F.plainAttrs_list, PySem.F.slot_list_index, PySem.F.type_list_index, h1, h2, ?_⟩
  have hA := (pa_cons he pa_nil hs : PA X [e] (tCons te tNil)) cpos pins s1 σ H1 (fun vs H2 => match vs with | [y] => ∃ (i : Int) (j : Nat), y = .int i ∧ H2 l = some (.lst (ns.map V.int)) ∧ ns[j]? = some i ∧ (∀ m, m < j → ns[m]? ≠ some i) ∧ Q (.int (j : Nat)) H2 | _ => False) I1 q1
  rw [hs] at hA ⊢
  refine Calls.callWith_builtin rfl (Calls.evalArgs_plain ?_)
  refine thn hA fun us s2 ⟨vs, H2, I2, r2, q2⟩ => ?_
  match vs, q2, r2 with
  | [y], ⟨i, j, ey, e1, e2, e3, q3⟩, r2 =>
    subst ey
    obtain ⟨u, rfl, t, rfl⟩ := vals1 r2
    cases (show v = Value.ref l from r1)
    obtain ⟨z, its, n, rv, hlen, hob⟩ := I2.lstM e1
    have hI := intsAre_of rv
    have hat := ints_atI hI
    have hjl : j < its.length := by rw [← hlen, List.length_map]; exact (List.getElem?_eq_some_iff.mp e2).1
    have hgd : ∀ m (hm : m < its.length), ∃ t', its[m] = Value.int (ns.getD m 0) t' := fun m hm => hat m its[m] (List.getElem?_eq_getElem hm)
    have hnl : ns.length = its.length := by rw [← hlen, List.length_map]
    have hns : ∀ m, m < its.length → ns[m]? = some (ns.getD m 0) := fun m hm => by
      rw [List.getD_eq_getElem?_getD, List.getElem?_eq_getElem (by omega)]; rfl
    have hsz : its.length ≤ sizeLine := by rw [← hnl]; rwa [List.length_map] at z
    refine call_meets PySem.F.slot_list_index ⟨_, hob, rfl⟩ PySem.F.entry_list_index (PySem.F.args_list_index_2 _ _)
      (SeqAt.list_indexAt l its.toArray n none #[] (.int i t) (eqU (.int i)) j (by simpa using hjl) (by have := sizeLine_eq; omega) ?_ ?_) ⟨hob, fun w' hw => mem_eqAt (x := .int i) ⟨t, rfl⟩ rfl rv (flat_int ns) w' (by simpa using hw), ?_⟩
    · obtain ⟨t', ht'⟩ := hgd j hjl
      have : its.toArray[j]'(by simpa using hjl) = its[j] := by simp
      rw [this, ht']
      show (ns.getD j 0 == i) = true
      have e2' := hns j hjl
      rw [e2] at e2'
      rw [← Option.some.inj e2']
      simp
    · intro m hm hmj
      have hm' : m < its.length := by simpa using hm
      obtain ⟨t', ht'⟩ := hgd m hm'
      have : its.toArray[m] = its[m] := by simp
      rw [this, ht']
      show (ns.getD m 0 == i) = false
      have hne := e3 m hmj
      rw [hns m hm'] at hne
      exact beq_false_of_ne fun z => hne (by rw [z])
    · exact ⟨.int (j : Nat), H2, I2.tok _, ⟨_, rfl⟩, q3⟩
end
end L2

set_option Elab.async false
set_option linter.all false
set_option maxRecDepth 100000
set_option maxHeartbeats 4000000
namespace L2
open PySem PySem.Spec PyProof.Rows
theorem turn_long {P : Program} {w : World} {K : PySem.W.Frag} {tg : Expr} (it : Addr) (lo : Int) (n : Nat) : Turn P w K tg (Itr lo n) [it] it (fun i h => IsLongIter h it (lo + (i : Nat)) ((n : Int) - (i : Nat)) 1) where
  mem := by simp
  obj := fun i h st b hb => by
    have e : b = it := by simpa using hb
    subst e
    exact ⟨_, st, fun v z => by
      have z' : Data.fields _ = Data.cell v := z
      cases z'⟩
  keep := fun i h h' st k => k it (by simp) _ st
  item := by
    intro X hP hw hK hc i pins s σ H E I hf st hg
    subst hP hw hK
    obtain ⟨f0, f1, f2, f3, f4, f5⟩ := hf it (by simp)
    have hg' : i < n := hg
    refine wpAny_pyNext_long_item st (by omega) fun h' st' sb => ?_
    have I1 : Inv X pins σ H { s with heap := h', toks := s.toks + 1 } := I.turned (fun b o hb e => (sb.2 b hb).trans e) f0 f1 f3 f4 f5
    have st2 : IsLongIter h' it (lo + ((i + 1 : Nat) : Int)) ((n : Int) - ((i + 1 : Nat) : Int)) 1 := by
      rw [show lo + ((i + 1 : Nat) : Int) = lo + (i : Nat) + 1 by omega, show (n : Int) - ((i + 1 : Nat) : Int) = (n : Int) - (i : Nat) - 1 by omega]
      exact st'
    exact ⟨_, rfl, go_of (s := { s with heap := h', toks := s.toks + 1 }) (n := "longrange_iterator") st' rfl rfl (by decide) ⟨.int (lo + i), H, I1, ⟨_, rfl⟩, ⟨rfl, rfl⟩, st2, fun b hb => (hf b hb).1⟩⟩
  done := by
    intro X hP hw hK hc i pins s σ H E I hf st hg
    subst hP hw hK
    obtain ⟨f0, f1, f2, f3, f4, f5⟩ := hf it (by simp)
    exact wpAny_pyNext_long_end (I.ok.hd hc) st (by have : n ≤ i := hg; omega) fun h' eb => ⟨rfl, I.turned (t' := s.toks) (fun b o hb e => eb b o hb e) f0 f1 f3 f4 f5⟩
  self := fun _ _ _ _ _ st h => wpAny_pyIter_longiter st h
section
variable {X : Cx} {tg : Expr}
/-- range(i, j), whatever i and j -/
def iRng2L (ta : TA) : TI := fun σ H R => ta σ H fun vs H1 => ∃ i j : Int, vs = [.int i, .int j] ∧ R (Itr i (j - i).toNat) H1
theorem range_itL {pins : List (Addr × Obj)} {σ : St} {H : Hp} {s : Shared} {R : It → Hp → Prop} {E : Value → Shared → Prop} {lo hi : Int} {t u v : Tok} {tk : Nat} (I : Inv X pins σ H s)
    (q : R (Itr lo (hi - lo).toNat) H) : wpAny (model X.prog X.w) X.A (pyIter (.ref s.heap.objs.size)) (PIE X pins σ tg R) E { s with heap := s.heap.push { cls := .type "range", data := .fields #[.int lo t, .int hi u, .int 1 v] }, toks := tk } := by
  have I1 : Inv X pins σ H { s with heap := s.heap.push { cls := .type "range", data := .fields #[.int lo t, .int hi u, .int 1 v] }, toks := tk } := I.kept fun b o e => Heap.get?_push_of_some _ e
  have e2 : (((hi - lo).toNat : Nat) : Int) - ((0 : Nat) : Int) = Builtin.Range.rangeSize lo hi 1 := by rw [rangeSize_one]; split <;> omega
  cases hsm : Builtin.Range.small lo hi 1 with
  | true =>
    refine wpAny_pyIter_range (IsRange.new ..) hsm ?_
    refine ⟨(s.heap.push { cls := .type "range", data := .fields #[.int lo t, .int hi u, .int 1 v] }).objs.size, [(s.heap.push { cls := .type "range", data := .fields #[.int lo t, .int hi u, .int 1 v] }).objs.size], _, _, H, rfl,
      I1.kept (t' := tk) fun b o e => Heap.get?_push_of_some _ e, turn_range _ lo (hi - lo).toNat, ?_, fun b hb => ?_, q⟩
    · have e1 : lo + ((0 : Nat) : Int) * 1 = lo := by simp
      show IsRangeIter _ _ (lo + ((0 : Nat) : Int) * 1) ((((hi - lo).toNat : Nat) : Int) - ((0 : Nat) : Int)) 1
      rw [e1, e2]
      exact Heap.get?_push_size _ rfl
    · have e : b = (s.heap.push { cls := .type "range", data := .fields #[.int lo t, .int hi u, .int 1 v] }).objs.size := by simpa using hb
      subst e
      exact I1.fpOk (Nat.le_refl _) (I1.hok.fresh (Nat.le_refl _))
  | false =>
    refine wpAny_pyIter_longrange (IsRange.new ..) hsm ?_
    refine ⟨(s.heap.push { cls := .type "range", data := .fields #[.int lo t, .int hi u, .int 1 v] }).objs.size, [(s.heap.push { cls := .type "range", data := .fields #[.int lo t, .int hi u, .int 1 v] }).objs.size], _, _, H, rfl,
      I1.kept (t' := tk) fun b o e => Heap.get?_push_of_some _ e, turn_long _ lo (hi - lo).toNat, ?_, fun b hb => ?_, q⟩
    · have e1 : lo + ((0 : Nat) : Int) = lo := by simp
      show IsLongIter _ _ (lo + ((0 : Nat) : Int)) ((((hi - lo).toNat : Nat) : Int) - ((0 : Nat) : Int)) 1
      rw [e1, e2]
      exact Heap.get?_push_size _ rfl
    · have e : b = (s.heap.push { cls := .type "range", data := .fields #[.int lo t, .int hi u, .int 1 v] }).objs.size := by simpa using hb
      subst e
      exact I1.fpOk (Nat.le_refl _) (I1.hok.fresh (Nat.le_refl _))
theorem pi_range2L {a b : Expr} {ta : TA} {p pos : Pos} (hg : Gl X "range") (hm : X.mg "range" = none) (ha : PA X [a, b] ta) (hs : starEach [a, b] X.env = [(false, eval a X.env), (false, eval b X.env)] := by rfl) (hs2 : starEach [b] X.env = [(false, eval b X.env)] := by rfl) :
    PI X tg (.Call (.Name "range" p) [a, b] [] pos) (iRng2L ta) := by
  intro pins s σ H R I h
  refine Call_ (ld_blt I hg hm bt_range (PyProof.Rows.callWith_type1 (thn (ha pos pins s σ H _ I h) fun us s1 ⟨vs, H1, I1, r1, q1⟩ => ?_) (by rw [hs, hs2]) (by rw [hs2]; rfl)))
  obtain ⟨i, j, e, q⟩ := q1
  subst e
  cases r1 with
  | cons r rr =>
    cases rr with
    | cons r' rr =>
      cases rr
      obtain ⟨t, rfl⟩ := r
      obtain ⟨t', rfl⟩ := r'
      exact call_range_2 (range_itL I1 q)
end
end L2

set_option Elab.async false
set_option linter.all false
set_option maxRecDepth 100000
set_option maxHeartbeats 4000000
namespace L2
open PySem PySem.Spec PyProof.Rows
/-! ### a ring begun elsewhere -/
def leftsF (ts : List (Int × Int)) (row : List (Int × Bool)) : List Int := row.map fun st => (faceAt ts st).1
def allIn (ts : List (Int × Int)) (row : List (Int × Bool)) : Prop := ∀ st ∈ row, inT ts st.1
theorem first_ix {m : Int} : ∀ {ns : List Int}, m ∈ ns → ∃ j : Nat, ns[j]? = some m ∧ ∀ k, k < j → ns[k]? ≠ some m
  | [], h => absurd h (by simp)
  | n :: ns, h => by
    by_cases e : n = m
    · exact ⟨0, by rw [e]; rfl, fun k hk => absurd hk (Nat.not_lt_zero _)⟩
    · have h' : m ∈ ns := by
        rcases List.mem_cons.mp h with z | z
        · exact absurd z.symm e
        · exact z
      obtain ⟨j, h1, h2⟩ := first_ix h'
      refine ⟨j + 1, by simpa using h1, fun k hk => ?_⟩
      cases k with
      | zero => simpa using e
      | succ k => simpa using h2 k (by omega)
theorem pigeon (ns : List Int) (b : Int) : ∃ k : Nat, k < ns.length + 1 ∧ (b + (k : Int)) ∉ ns := by
  apply Classical.byContradiction
  intro hn
  have hall : ∀ k : Nat, k < ns.length + 1 → (b + (k : Int)) ∈ ns := fun k hk => Classical.byContradiction fun z => hn ⟨k, hk, z⟩
  have hnd : ((List.range (ns.length + 1)).map fun k : Nat => b + (k : Int)).Nodup := by
    have h0 : (List.range (ns.length + 1)).Pairwise (· ≠ ·) := (List.pairwise_lt_range (n := ns.length + 1)).imp fun z => Nat.ne_of_lt z
    show List.Pairwise (· ≠ ·) _
    rw [List.pairwise_map]
    exact h0.imp fun {x y} z q => z (by omega)
  have := nodup_len (b := ns) hnd fun x hx => by
    obtain ⟨k, hk, rfl⟩ := List.mem_map.mp hx
    exact hall k (List.mem_range.mp hk)
  simp at this; omega
theorem allIn.rot {ts : List (Int × Int)} {row : List (Int × Bool)} (h : allIn ts row) (j : Nat) : allIn ts (row.drop j ++ row.take j) := fun st hst => by
  rcases List.mem_append.mp hst with z | z
  · exact h st (List.mem_of_mem_drop z)
  · exact h st (List.mem_of_mem_take z)
theorem lefts_get {ts : List (Int × Int)} {row : List (Int × Bool)} {i : Nat} {st : Int × Bool} (e : row[i]? = some st) : (leftsF ts row)[i]? = some (faceAt ts st).1 := by
  unfold leftsF
  rw [List.getElem?_map, e]
  rfl
theorem lefts_len (ts : List (Int × Int)) (row : List (Int × Bool)) : (leftsF ts row).length = row.length := List.length_map _
/-- ring[j:] + ring[:j] -/
theorem Tl.rot {α : Type} {sc : α → List V} {H H1 H2 H3 : Hp} {l a b c : Addr} {xs : List α} {vs : List V} {j : Nat} (h : Tl sc H l xs) (e : H l = some (.lst vs)) (n1 : New H a (.lst (vs.drop j)) H1) (n2 : New H1 b (.lst (vs.take j)) H2) (n3 : New H2 c (.lst (vs.drop j ++ vs.take j)) H3) :
    Tl sc H3 c (xs.drop j ++ xs.take j) := by
  obtain ⟨ps, h1, h2, h3⟩ := h
  rw [e] at h1
  injection h1 with h1
  injection h1 with h1
  subst h1
  have s3 : Same H H3 := n1.same.trans (n2.same.trans n3.same)
  refine ⟨ps.drop j ++ ps.take j, by rw [n3.is, List.map_append, List.map_drop, List.map_take], by simp [h2], fun i q x e1 e2 => ?_⟩
  by_cases hi : i < (ps.drop j).length
  · rw [List.getElem?_append_left hi] at e1
    rw [List.getElem?_append_left (by rw [List.length_drop, ← h2, ← List.length_drop]; exact hi)] at e2
    rw [List.getElem?_drop] at e1 e2
    exact s3 _ _ (h3 _ q x e1 e2)
  · have hd : (xs.drop j).length = (ps.drop j).length := by rw [List.length_drop, List.length_drop, h2]
    rw [List.getElem?_append_right (by omega)] at e1 e2
    rw [hd] at e2
    rw [List.getElem?_take] at e1 e2
    split at e1
    · rename_i hlt
      rw [if_pos hlt] at e2
      exact s3 _ _ (h3 _ q x e1 e2)
    · cases e1
def spStep : Sp := fun vs H Q _ => ∃ (p : Addr) (st : Int × Bool), vs = [.ref p] ∧ H p = some (.tup (scS st)) ∧ Q (.bl true) H
def spLefts : Sp := fun vs H Q _ => ∃ (t r : Addr) (ts : List (Int × Int)) (row : List (Int × Bool)), vs = [.ref t, .ref r] ∧ Til H t ts ∧ Row H r row ∧ allIn ts row ∧ row.length ≤ 1000 ∧
  ∀ (l' : Addr) (H' : Hp), H l' = none → Same H H' → H' l' = some (.lst ((leftsF ts row).map V.int)) → Q (.ref l') H'
def spMark : Sp := fun vs H Q _ => ∃ (l : Addr) (c : Int) (ns : List Int), vs = [.ref l, .int c] ∧ H l = some (.lst (ns.map V.int)) ∧ ns.length ≤ 1000 ∧ ∀ (m : Int) (H' : Hp), Same H H' → Q (.int m) H'
def spBegun : Sp := fun vs H Q _ => ∃ (t r : Addr) (ts : List (Int × Int)) (row : List (Int × Bool)) (m : Int) (j : Nat), vs = [.ref t, .ref r, .int m] ∧ Til H t ts ∧ Row H r row ∧ allIn ts row ∧ row.length ≤ 1000 ∧ (leftsF ts row)[j]? = some m ∧ (∀ k, k < j → (leftsF ts row)[k]? ≠ some m) ∧
  ∀ (l' : Addr) (H' : Hp), H l' = none → Same H H' → Row H' l' (row.drop j ++ row.take j) → Q (.ref l') H'
def spBegunX (C : Addr) : Sp := fun vs H _ E => ∃ (t r : Addr) (ts : List (Int × Int)) (row : List (Int × Bool)) (m : Int), vs = [.ref t, .ref r, .int m] ∧ Til H t ts ∧ Row H r row ∧ allIn ts row ∧ row.length ≤ 1000 ∧ m ∉ leftsF ts row ∧ ∀ H', Same H H' → E (.ref C) none H'
def spRefused5 : Sp := fun vs H Q _ => ∃ (t r : Addr) (ts : List (Int × Int)) (row : List (Int × Bool)) (m : Int), vs = [.ref t, .ref r, .int m] ∧ Til H t ts ∧ Row H r row ∧ allIn ts row ∧ row.length ≤ 1000 ∧ m ∉ leftsF ts row ∧ ∀ H', Same H H' → Q (.bl true) H'
def spHolds : Sp := fun vs H Q _ => ∃ (t r : Addr) (ts : List (Int × Int)) (row : List (Int × Bool)) (m : Int), vs = [.ref t, .ref r, .int m] ∧ Til H t ts ∧ Row H r row ∧ allIn ts row ∧ row.length ≤ 1000 ∧ ∀ H', Same H H' → Q (.bl true) H'
end L2

namespace Tk05
open PySem L2
def top (i : Nat) : Stmt := PySem.Challenge.pw_tilechain_k05_a_ring_begun_elsewhere.main.body.getD i (.Pass ⟨0, 0, 0, 0⟩)
section
variable {P : Program} {w : World} {K : PySem.W.Frag} {mg : Str → Option Value} {base : Heap}
abbrev s_has_tile : Stmt := top 5
theorem sc_has_tile : FnScope ["tiles", "number"] ["tiles", "number"] (defScope s_has_tile) := ⟨rfl, rfl, rfl, by decide +kernel, rfl, by decide +kernel, by decide +kernel⟩
theorem ok_has_tile {f : Addr} {fd : FuncData} (F : Fun K "has_tile" "has_tile" s_has_tile f fd) (T : Blt mg) : FnOk P w K mg base CX0 1 f fd ["tiles", "number"] spHas := by
  refine F.ok (k := 0) sc_has_tile (fun vs H Q E h => ?_) (fun cdv A outer s H vs Q E hr h => ?_)
  · obtain ⟨l, ts, n, rfl, _⟩ := h
    rfl
  · obtain ⟨l, ts, n, rfl, hT, q⟩ := h
    have hu := hu_of hr
    have hu8 := hu8_of hr
    refine ⟨_, (pss_one (ps_ret (pe_and (pe_cmpR op_ge (pv 1) pe_int (nomark _)) (pe_one (pe_cmpR op_lt (pv 1) (pe_callB len_q rfl T.len bt_len (pa_cons (pv 0) pa_nil)) (nomark _)))))), ?_⟩
    obtain ⟨vs, e1, e2⟩ := hT.len
    refine ⟨_, rfl, _, _, rfl, rfl, _, rfl, ?_⟩
    refine ite2 (fun c => ?_) (fun c => ?_)
    · have c' : (0 : Int) ≤ n := of_decide_eq_true c
      refine ⟨_, rfl, _, rfl, l, _, rfl, Sq.lst e1, _, _, rfl, rfl, ?_⟩
      have e : decide (inT ts n) = decide (n < ((vs.length : Nat) : Int)) := dec_iff (by unfold inT; rw [e2]; exact ⟨fun z => z.2, fun z => ⟨c', z⟩⟩)
      rw [e] at q
      exact q
    · have c' : ¬ (0 : Int) ≤ n := fun z => c (decide_eq_true z)
      rw [decide_eq_false (show ¬ inT ts n from fun z => c' z.1)] at q
      exact q
abbrev s_faces : Stmt := top 6
theorem sc_faces : FnScope ["tiles", "step", "tile"] ["tiles", "step"] (defScope s_faces) := ⟨rfl, rfl, rfl, by decide +kernel, rfl, by decide +kernel, by decide +kernel⟩
theorem ok_faces {f : Addr} {fd : FuncData} (F : Fun K "faces" "faces" s_faces f fd) (T : Blt mg) (c_has_tile : Callee P w K mg base 1 "has_tile" ["tiles", "number"] spHas) : FnOk P w K mg base CX0 2 f fd ["tiles", "step"] spFaces := by
  refine F.ok (k := 1) sc_faces (fun vs H Q E h => ?_) (fun cdv A outer s H vs Q E hr h => ?_)
  · obtain ⟨l, p, ts, st, rfl, _⟩ := h
    rfl
  · obtain ⟨l, p, ts, st, rfl, hT, hp, hin, q⟩ := h
    have hu := hu_of hr
    have hu8 := hu8_of hr
    refine ⟨_, (pss_cons (ps_if (pt_not (pt_val (pe_callee c_has_tile (hr.mono (by decide)) rfl (pa_cons (pv 0) (pa_cons (pe_ix ix_q (pv 1) pe_int (fun _ _ => rfl)) pa_nil))))) (pss_one ps_never) pss_nil)
      (pss_cons (ps_set (i := 2) sc_faces.nd rfl (Or.inl rfl) (pe_ix ix_q (pv 0) (pe_ix ix_q (pv 1) pe_int (fun _ _ => rfl)) (fun _ _ => rfl)))
      (pss_cons (ps_if (pt_val (pe_ix ix_q (pv 1) pe_int (fun _ _ => rfl))) (pss_one (ps_ret (pe_tupN (pa_cons (pe_ix ix_q (pv 2) pe_int (fun _ _ => rfl)) (pa_cons (pe_ix ix_q (pv 2) pe_int (fun _ _ => rfl)) pa_nil))))) pss_nil)
      (pss_one (ps_ret (pe_tupN (pa_cons (pe_ix ix_q (pv 2) pe_int (fun _ _ => rfl)) (pa_cons (pe_ix ix_q (pv 2) pe_int (fun _ _ => rfl)) pa_nil)))))))), ?_⟩
    obtain ⟨ps, tp, t, e1, e2, e3, e4, e5⟩ := hT.atI hin.1 hin.2
    have ht : faceAt ts st = faceF t st.2 := by
      unfold faceAt
      rw [List.getD_eq_getElem?_getD, e4]
      rfl
    refine ⟨_, rfl, _, rfl, p, _, _, _, rfl, rfl, Sq.tup hp, rfl, l, ts, st.1, rfl, hT, _, rfl, ?_⟩
    refine iteNS hin ?_
    refine ⟨_, rfl, _, rfl, p, _, _, _, rfl, rfl, Sq.tup hp, rfl, l, _, _, _, rfl, rfl, Sq.lst e1, e3, ?_⟩
    refine ⟨_, rfl, p, _, _, _, rfl, rfl, Sq.tup hp, rfl, _, rfl, ?_⟩
    refine ite2 (fun c => ?_) (fun c => ?_)
    · refine ⟨_, rfl, tp, _, _, _, rfl, rfl, Sq.tup e5, rfl, _, rfl, tp, _, _, _, rfl, rfl, Sq.tup e5, rfl, (by show 2 ≤ sizeLine; decide), fun r H' n => ?_⟩
      refine q r H' ?_
      rw [ht]
      unfold faceF
      rw [if_pos c]
      exact n
    · refine ⟨_, rfl, tp, _, _, _, rfl, rfl, Sq.tup e5, rfl, _, rfl, tp, _, _, _, rfl, rfl, Sq.tup e5, rfl, (by show 2 ≤ sizeLine; decide), fun r H' n => ?_⟩
      refine q r H' ?_
      rw [ht]
      unfold faceF
      rw [if_neg c]
      exact n
abbrev s_begun_at : Stmt := top 7
theorem sc_begun_at : FnScope ["tiles", "ring", "mark", "place", "step"] ["tiles", "ring", "mark"] (defScope s_begun_at) := ⟨rfl, rfl, rfl, by decide +kernel, rfl, by decide +kernel, by decide +kernel⟩
theorem ok_begun_at {f : Addr} {fd : FuncData} (F : Fun K "begun_at" "begun_at" s_begun_at f fd) (T : Blt mg) (c_faces : Callee P w K mg base 2 "faces" ["tiles", "step"] spFaces) : FnOk P w K mg base CX0 3 f fd ["tiles", "ring", "mark"] spBegun := by
  refine F.ok (k := 2) sc_begun_at (fun vs H Q E h => ?_) (fun cdv A outer s H vs Q E hr h => ?_)
  · obtain ⟨t, r, ts, row, m, j, rfl, _⟩ := h
    rfl
  · obtain ⟨t, r, ts, row, m, j, rfl, hT, hR, hin, hlen, hj, hjno, q⟩ := h
    have hu := hu_of hr
    have hu8 := hu8_of hr
    refine ⟨_, (pss_cons (ps_for PassesOwn.never rfl (pi_enumQ rfl T.enumerate (pv 1)) (pg_tupQ (n := 2) rfl (pgs_cons (pg_name (i := 3) sc_begun_at.nd rfl (Or.inl rfl)) (pgs_cons (pg_name (i := 4) sc_begun_at.nd rfl (Or.inl rfl)) pgs_nil)))
      (pss_one (ps_if (pt_cmpR op_eq (pe_ix ix_q (pe_callee c_faces (hr.mono (by decide)) rfl (pa_cons (pv 0) (pa_cons (pv 4) pa_nil))) pe_int (fun _ _ => rfl)) (pv 2) (nomark _)) (pss_one (ps_ret (pe_op cat_q (pe_slice sl_q (pv 1) (po_some (pv 3)) po_none) (pe_slice sl_q (pv 1) po_none (po_some (pv 3)))))) pss_nil)))
      (pss_one ps_never)), ?_⟩
    obtain ⟨vs, v0, g⟩ := hR.tg
    have v2 := g.len
    have hjl : j < row.length := by have := lt_of_get hj; rwa [lefts_len] at this
    refine ⟨_, rfl, r, _, rfl, .inl v0, for_listE (xs := vs) (fun i σ H2 => ∃ pv sv, σ = [some (.ref t), some (.ref r), some (.int m), pv, sv] ∧ Same H H2 ∧ i ≤ j) ⟨none, none, rfl, Same.refl _, Nat.zero_le _⟩ (fun i σ H2 _ ⟨_, _, _, s, _⟩ => .inl (s _ _ v0)) ?_ ?_⟩
    · rintro i x σ H2 ep H3 hx ⟨pv, sv, rfl, s2, hij⟩ n3
      obtain ⟨sp, st, rfl, est, hsp⟩ := g.get hx
      have s3 := s2.trans n3.same
      refine ⟨ep, _, rfl, .inl n3.is, rfl, _, _, rfl, _, _, rfl, rfl, ?_⟩
      refine ⟨_, rfl, _, rfl, t, sp, ts, st, rfl, hT.same s3, s3 _ _ hsp, hin st (List.mem_of_getElem? est), fun fp H4 n4 => ?_⟩
      have s4 := s3.trans n4.same
      refine ⟨fp, _, _, _, rfl, rfl, Sq.tup n4.is, rfl, _, rfl, rfl, _, rfl, ?_⟩
      have hlf := lefts_get (ts := ts) est
      by_cases c : (faceAt ts st).1 = m
      · refine iteP (by rw [c]) ?_
        have eij : i = j := by
          rcases Nat.lt_or_ge i j with z | z
          · exact absurd (by rw [hlf, c]) (hjno i z)
          · omega
        subst eij
        have v4 := s4 _ _ v0
        refine ⟨_, rfl, _, rfl, _, rfl, r, _, rfl, .inl v4, fun a1 H5 n5 => ?_⟩
        have v5 := n5.same _ _ v4
        refine ⟨_, rfl, _, rfl, _, rfl, r, _, rfl, .inl v5, fun a2 H6 n6 => ?_⟩
        rw [cutV_lo (by omega), Int.toNat_natCast] at n5
        rw [cutV_hi (by omega), Int.toNat_natCast] at n6
        refine ⟨a1, a2, _, _, rfl, rfl, n6.same _ _ n5.is, n6.is, small1e4 (by rw [List.length_drop, List.length_take]; omega), fun a3 H7 n7 => ?_⟩
        have s7 := s4.trans (n5.same.trans (n6.same.trans n7.same))
        exact q a3 H7 (n7.free (s4.trans (n5.same.trans n6.same))) s7 ((hR.same s4).rot v4 n5 n6 n7)
      · refine iteN (fun z => c (by injection z)) ?_
        have hne : i ≠ j := fun z => by
          rw [z] at hlf
          rw [hj] at hlf
          exact c (Option.some.inj hlf).symm
        exact ⟨_, _, rfl, s4, by omega⟩
    · rintro σ H2 ⟨pv, sv, rfl, s2, hij⟩
      exact absurd hij (by omega)

theorem okX_begun_at {f : Addr} {fd : FuncData} (F : Fun K "begun_at" "begun_at" s_begun_at f fd) (T : Blt mg) {a_NoMark : Addr} (h_NoMark : mg "NoMark" = some (.ref a_NoMark)) (hx_NoMark : XCls K a_NoMark) (c_faces : Callee P w K mg base 2 "faces" ["tiles", "step"] spFaces) : FnOk P w K mg base (CXE P w) 3 f fd ["tiles", "ring", "mark"] (spBegunX a_NoMark) := by
  refine F.okX (k := 2) sc_begun_at (fun vs H Q E h => ?_) (fun cdv A outer s H vs Q E hr h => ?_)
  · obtain ⟨t, r, ts, row, m, rfl, _⟩ := h
    rfl
  · obtain ⟨t, r, ts, row, m, rfl, hT, hR, hin, hlen, hno, q⟩ := h
    have hu := hu_of hr
    have hu8 := hu8_of hr
    refine ⟨_, (pss_cons (PS.nox (ps_for PassesOwn.never rfl (pi_enumQ rfl T.enumerate (pv 1)) (pg_tupQ (n := 2) rfl (pgs_cons (pg_name (i := 3) sc_begun_at.nd rfl (Or.inl rfl)) (pgs_cons (pg_name (i := 4) sc_begun_at.nd rfl (Or.inl rfl)) pgs_nil)))
      (pss_one (ps_if (pt_cmpR op_eq (pe_ix ix_q (pe_callee c_faces (hr.mono (by decide)) rfl (pa_cons (pv 0) (pa_cons (pv 4) pa_nil))) pe_int (fun _ _ => rfl)) (pv 2) (nomark _)) (pss_one (ps_ret (pe_op cat_q (pe_slice sl_q (pv 1) (po_some (pv 3)) po_none) (pe_slice sl_q (pv 1) po_none (po_some (pv 3)))))) pss_nil))))
      (pss_one (ps_raise rfl h_NoMark hx_NoMark pe_str rfl rfl rfl rfl rfl))), ?_⟩
    obtain ⟨vs, v0, g⟩ := hR.tg
    have v2 := g.len
    refine ⟨_, rfl, r, _, rfl, .inl v0, for_listE (xs := vs) (fun i σ H2 => ∃ pv sv, σ = [some (.ref t), some (.ref r), some (.int m), pv, sv] ∧ Same H H2) ⟨none, none, rfl, Same.refl _⟩ (fun i σ H2 _ ⟨_, _, _, s⟩ => .inl (s _ _ v0)) ?_ ?_⟩
    · rintro i x σ H2 ep H3 hx ⟨pv, sv, rfl, s2⟩ n3
      obtain ⟨sp, st, rfl, est, hsp⟩ := g.get hx
      have s3 := s2.trans n3.same
      refine ⟨ep, _, rfl, .inl n3.is, rfl, _, _, rfl, _, _, rfl, rfl, ?_⟩
      refine ⟨_, rfl, _, rfl, t, sp, ts, st, rfl, hT.same s3, s3 _ _ hsp, hin st (List.mem_of_getElem? est), fun fp H4 n4 => ?_⟩
      have s4 := s3.trans n4.same
      refine ⟨fp, _, _, _, rfl, rfl, Sq.tup n4.is, rfl, _, rfl, rfl, _, rfl, ?_⟩
      have hlf := lefts_get (ts := ts) est
      refine iteN (fun z => hno ?_) ?_
      · injection z with z
        rw [← z]
        exact List.mem_of_getElem? hlf
      exact ⟨_, _, rfl, s4⟩
    · rintro σ H2 ⟨pv, sv, rfl, s2⟩
      exact q H2 s2
abbrev s_l_cell_at : Stmt := top 9
theorem sc_l_cell_at : FnScope ["_law_script", "_law_k"] ["_law_script", "_law_k"] (defScope s_l_cell_at) := ⟨rfl, rfl, rfl, by decide +kernel, rfl, by decide +kernel, by decide +kernel⟩
theorem ok_l_cell_at {f : Addr} {fd : FuncData} (F : Fun K "_law_cell_at" "_law_cell_at" s_l_cell_at f fd) (T : Blt mg) : FnOk P w K mg base CX0 1 f fd ["_law_script", "_law_k"] (spCell K) := by
  refine F.ok (k := 0) sc_l_cell_at (fun vs H Q E h => ?_) (fun cdv A outer s H vs Q E hr h => ?_)
  · obtain ⟨a, ns, k, rfl, _⟩ := h
    rfl
  · obtain ⟨a, ns, k, rfl, hS, h0, q⟩ := h
    have hu := hu_of hr
    have hu8 := hu8_of hr
    refine ⟨_, (pss_cons (ps_if (pt_cmpR op_lt (pv 1) (pe_callB call_len_seq rfl T.len bt_len (pa_cons (pv 0) pa_nil)) (nomark _)) (pss_one (ps_ret (pe_ix ix_list (pv 0) (pv 1) (fun _ _ => rfl)))) pss_nil)
      (pss_one (ps_ret pe_int))), ?_⟩
    have hl : (ns.map V.int).length = ns.length := List.length_map _
    refine ⟨_, rfl, _, rfl, a, _, rfl, .inl hS, _, _, rfl, rfl, _, rfl, ?_⟩
    refine ite2 (fun c => ?_) (fun c => ?_)
    · have c' : k < (((ns.map V.int).length : Nat) : Int) := of_decide_eq_true c
      rw [hl] at c'
      exact ⟨_, rfl, _, rfl, a, _, _, _, rfl, rfl, hS, atI_int h0 c', q⟩
    · have c' : ¬ k < (((ns.map V.int).length : Nat) : Int) := fun z => c (decide_eq_true z)
      rw [hl] at c'
      have e : ns.getD k.toNat 0 = 0 := by
        rw [List.getD_eq_getElem?_getD, List.getElem?_eq_none (by omega)]
        rfl
      rw [e] at q
      exact q
abbrev s_l_whole : Stmt := top 10
theorem sc_l_whole : FnScope ["_law_found"] ["_law_found"] (defScope s_l_whole) := ⟨rfl, rfl, rfl, by decide +kernel, rfl, by decide +kernel, by decide +kernel⟩
theorem ok_l_whole {f : Addr} {fd : FuncData} (F : Fun K "_law_whole" "_law_whole" s_l_whole f fd) (T : Blt mg) (KT : Kit K) : FnOk P w K mg base CX0 1 f fd ["_law_found"] spWhole := by
  refine F.ok (k := 0) sc_l_whole (fun vs H Q E h => ?_) (fun cdv A outer s H vs Q E hr h => ?_)
  · obtain ⟨i, rfl, _⟩ := h
    rfl
  · obtain ⟨i, rfl, q⟩ := h
    have hu := hu_of hr
    have hu8 := hu8_of hr
    refine ⟨_, (pss_one (ps_ret (pe_and (pe_isi T.isi T.int bt_int rfl rfl (pv 0)) (pe_one (pe_not (pe_isi T.isi T.bool bt_bool rfl rfl (pv 0))))))), ?_⟩
    refine ⟨_, rfl, _, _, .int i, KT.ii, _, rfl, iteT ?_⟩
    exact ⟨_, rfl, _, _, .int i, KT.ib, _, rfl, q⟩
abbrev s_l_names : Stmt := top 11
theorem sc_l_names : FnScope ["_law_cell", "_law_far", "_law_many"] ["_law_cell", "_law_far"] (defScope s_l_names) := ⟨rfl, rfl, rfl, by decide +kernel, rfl, by decide +kernel, by decide +kernel⟩
theorem cs_l_names_1_nd : (["_law_k", "_law_many"] : List Str).Nodup := by decide +kernel
theorem cs_l_names_2_nd : (["_law_k", "_law_far"] : List Str).Nodup := by decide +kernel
theorem cs_l_names_3_nd : (["_law_k", "_law_far"] : List Str).Nodup := by decide +kernel
theorem ok_l_names {f : Addr} {fd : FuncData} (F : Fun K "_law_names" "_law_names" s_l_names f fd) (T : Blt mg) : FnOk P w K mg base CX0 1 f fd ["_law_cell", "_law_far"] spNames := by
  refine F.ok (k := 0) sc_l_names (fun vs H Q E h => ?_) (fun cdv A outer s H vs Q E hr h => ?_)
  · obtain ⟨c, f, rfl, _⟩ := h
    rfl
  · obtain ⟨c, f, rfl, q⟩ := h
    have hu := hu_of hr
    have hu8 := hu8_of hr
    refine ⟨_, (pss_cons (ps_set (i := 2) sc_l_names.nd rfl (Or.inr rfl) (pe_op op_add pe_int (pe_op op_mod (pv 0) pe_int)))
      (pss_mid (ps_if (pt_cmpR op_eq (pe_op op_mod (pe_op op_fdiv (pv 0) pe_int) pe_int) pe_int (nomark _)) (pss_one (ps_set (i := 2) sc_l_names.nd rfl (Or.inr rfl) (pe_op op_add pe_int (pe_op op_mod (pe_op op_fdiv (pv 0) pe_int) pe_int)))) pss_nil)
      (pss_cons (ps_if (pt_cmpR op_eq (pe_op op_mod (pv 1) pe_int) pe_int (nomark _)) (pss_one (ps_ret (pe_lc rfl (compEq (osc := defScope s_l_names) (N := ["_law_cell", "_law_far", "_law_many"]) (N' := ["_law_k", "_law_many"]) (ix := [none, some 2]) (by decide +kernel)) (pi_range1 rfl T.range (pa_cons (pv 2) pa_nil)) (fun _ _ _ _ => (pg_name (i := 0) cs_l_names_1_nd rfl (Or.inl rfl))) (fun _ _ _ _ => pts_nil) (fun _ _ _ _ => (pe_op op_sub (pv 0) (pe_op op_fdiv (pv 1) pe_int)))))) pss_nil)
      (pss_cons (ps_if (pt_cmpR op_eq (pe_op op_mod (pv 1) pe_int) pe_int (nomark _)) (pss_one (ps_ret (pe_lc rfl (compEq (osc := defScope s_l_names) (N := ["_law_cell", "_law_far", "_law_many"]) (N' := ["_law_k", "_law_far"]) (ix := [none, some 1]) (by decide +kernel)) (pi_range1 rfl T.range (pa_cons (pv 2) pa_nil)) (fun _ _ _ _ => (pg_name (i := 0) cs_l_names_2_nd rfl (Or.inl rfl))) (fun _ _ _ _ => pts_nil) (fun _ _ _ _ => (pe_op op_mul (pe_ix ix_q (pe_lstN (pa_cons pe_int (pa_cons (pe_un un_neg pe_int) pa_nil))) (pe_op op_mod (pv 0) pe_int) (fun _ _ => rfl)) (pe_op op_mod (pe_op op_add (pe_op op_fdiv (pv 1) pe_int) (pe_op op_mul (pv 0) (pv 0))) (pe_op op_pow pe_int pe_int))))))) pss_nil)
      (pss_one (ps_ret (pe_lc rfl (compEq (osc := defScope s_l_names) (N := ["_law_cell", "_law_far", "_law_many"]) (N' := ["_law_k", "_law_far"]) (ix := [none, some 1]) (by decide +kernel)) (pi_range1 rfl T.range (pa_cons (pv 2) pa_nil)) (fun _ _ _ _ => (pg_name (i := 0) cs_l_names_3_nd rfl (Or.inl rfl))) (fun _ _ _ _ => pts_nil) (fun _ _ _ _ => (pe_op op_sub (pe_op op_sub (pe_op op_pow pe_int pe_int) pe_int) (pe_op op_mod (pe_op op_add (pe_op op_fdiv (pv 1) pe_int) (pe_op op_mul pe_int (pv 0))) (pe_op op_sub (pe_op op_mul pe_int (pe_op op_pow pe_int pe_int)) pe_int))))))))))), ?_⟩
    refine ⟨_, rfl, _, _, rfl, rfl, (by show (0 : Int) < 12; decide), _, _, rfl, rfl, ?_⟩
    have b12 := Int.emod_nonneg c (show (12 : Int) ≠ 0 by decide)
    have b12' := Int.emod_lt_of_pos c (show (0 : Int) < 12 by decide)
    have b40 := Int.emod_nonneg (c / 96) (show (40 : Int) ≠ 0 by decide)
    have b40' := Int.emod_lt_of_pos (c / 96) (show (0 : Int) < 40 by decide)
    refine ⟨fun σ H' => H' = H ∧ ∃ m : Int, σ = [some (.int c), some (.int f), some (.int m)] ∧ 1 ≤ m ∧ m ≤ 40, ?_, ?_⟩
    · refine ⟨_, rfl, _, _, rfl, rfl, ⟨by decide, by decide⟩, _, _, rfl, rfl, (by show (0 : Int) < 8; decide), rfl, _, rfl, ?_⟩
      refine ite2 (fun _ => ?_) (fun _ => ?_)
      · refine ⟨_, rfl, _, _, rfl, rfl, ⟨by decide, by decide⟩, _, _, rfl, rfl, (by show (0 : Int) < 40; decide), _, _, rfl, rfl, ?_⟩
        exact ⟨rfl, 1 + c / 96 % 40, rfl, by omega, by omega⟩
      · exact ⟨rfl, 1 + c % 12, rfl, by omega, by omega⟩
    rintro σ H' ⟨rfl, m, rfl, m1, m2⟩
    have fin : ∀ (H2 H3 : Hp) (zs : List Int) (D : Addr), Same H' H2 → zs.length = m.toNat → New H2 D (.lst (zs.map V.int)) H3 → Q (.ref D) H3 := fun H2 H3 zs D s hz n =>
      q D zs H3 (by omega) (by omega) (n.free s) (s.trans n.same) n.is
    refine ⟨_, rfl, _, _, rfl, rfl, (by show (0 : Int) < 3; decide), rfl, _, rfl, ?_⟩
    refine ite2 (fun _ => ?_) (fun _ => ?_)
    · refine ⟨_, rfl, m, rfl, by omega, by omega, lc_range (fun i σ H2 ys => ∃ v, σ = [v, some (.int m)] ∧ Same H' H2 ∧ ∃ zs : List Int, ys = zs.map V.int ∧ zs.length = i) ⟨none, rfl, Same.refl _, [], rfl, rfl⟩
        (fun i σ H2 ys _ ⟨_, _, _, zs, e, hz⟩ => by subst e; rw [List.length_map]; omega) (small (by omega)) ?_ (fun σ H2 ys ⟨_, _, s, zs, e, hz⟩ D H3 n => by subst e; exact fin H2 H3 zs D s hz n)⟩
      rintro i σ H2 ys N hN hi ⟨v, rfl, s, zs, rfl, hz⟩
      refine ⟨_, rfl, _, rfl, _, _, rfl, rfl, ⟨by decide, by decide⟩, _, _, rfl, rfl, ?_⟩
      exact hN _ _ _ ⟨_, rfl, s, zs ++ [_], by rw [List.map_append]; rfl, by simp [hz]⟩
    refine ⟨_, rfl, _, _, rfl, rfl, (by show (0 : Int) < 3; decide), rfl, _, rfl, ?_⟩
    refine ite2 (fun _ => ?_) (fun _ => ?_)
    · refine ⟨_, rfl, m, rfl, by omega, by omega, lc_range (fun i σ H2 ys => ∃ v, σ = [v, some (.int f)] ∧ Same H' H2 ∧ ∃ zs : List Int, ys = zs.map V.int ∧ zs.length = i) ⟨none, rfl, Same.refl _, [], rfl, rfl⟩
        (fun i σ H2 ys _ ⟨_, _, _, zs, e, hz⟩ => by subst e; rw [List.length_map]; omega) (small (by omega)) ?_ (fun σ H2 ys ⟨_, _, s, zs, e, hz⟩ D H3 n => by subst e; exact fin H2 H3 zs D s hz n)⟩
      rintro i σ H2 ys N hN hi ⟨v, rfl, s, zs, rfl, hz⟩
      obtain ⟨e, he, e1, e2⟩ : ∃ e : Int, atI [V.int 1, V.int (-1)] ((0 + (i : Int)) % 2) = some (.int e) ∧ -(2 ^ 64) < e ∧ e < 2 ^ 64 := by
        have h0 := Int.emod_nonneg (0 + (i : Int)) (show (2 : Int) ≠ 0 by decide)
        have h1 := Int.emod_lt_of_pos (0 + (i : Int)) (show (0 : Int) < 2 by decide)
        rcases (show (0 + (i : Int)) % 2 = 0 ∨ (0 + (i : Int)) % 2 = 1 by omega) with z | z
        · rw [z]; exact ⟨1, rfl, by decide, by decide⟩
        · rw [z]; exact ⟨-1, rfl, by decide, by decide⟩
      refine ⟨1, rfl, (by show 2 ≤ sizeLine; decide), fun p H3 n => ?_⟩
      refine ⟨_, rfl, _, _, rfl, rfl, (by show (0 : Int) < 2; decide), p, _, _, _, rfl, rfl, Sq.lst n.is, he, ?_⟩
      refine ⟨_, rfl, _, _, rfl, rfl, ⟨by decide, by decide⟩, _, rfl, _, rfl, _, _, rfl, rfl, .inl ⟨by omega, by omega⟩, _, _, rfl, rfl, ?_⟩
      refine ⟨_, _, rfl, rfl, ⟨by decide, by decide, by decide⟩, _, _, rfl, rfl, (by show (0 : Int) < 10 ^ Int.toNat 60; decide), _, _, rfl, rfl, .inl ⟨e1, e2⟩, ?_⟩
      exact hN _ _ _ ⟨_, rfl, s.trans n.same, zs ++ [_], by rw [List.map_append]; rfl, by simp [hz]⟩
    · refine ⟨_, rfl, m, rfl, by omega, by omega, lc_range (fun i σ H2 ys => ∃ v, σ = [v, some (.int f)] ∧ Same H' H2 ∧ ∃ zs : List Int, ys = zs.map V.int ∧ zs.length = i) ⟨none, rfl, Same.refl _, [], rfl, rfl⟩
        (fun i σ H2 ys _ ⟨_, _, _, zs, e, hz⟩ => by subst e; rw [List.length_map]; omega) (small (by omega)) ?_ (fun σ H2 ys ⟨_, _, s, zs, e, hz⟩ D H3 n => by subst e; exact fin H2 H3 zs D s hz n)⟩
      rintro i σ H2 ys N hN hi ⟨v, rfl, s, zs, rfl, hz⟩
      refine ⟨_, _, rfl, rfl, ⟨by decide, by decide, by decide⟩, _, _, rfl, rfl, ?_⟩
      refine ⟨_, rfl, _, _, rfl, rfl, ⟨by decide, by decide⟩, _, rfl, _, _, rfl, rfl, .inl ⟨by decide, by decide⟩, _, _, rfl, rfl, ?_⟩
      refine ⟨_, _, rfl, rfl, ⟨by decide, by decide, by decide⟩, _, _, rfl, rfl, .inl ⟨by decide, by decide⟩, _, _, rfl, rfl, _, _, rfl, rfl, (by show (0 : Int) < 2 * 10 ^ Int.toNat 60 - 1; decide), _, _, rfl, rfl, ?_⟩
      exact hN _ _ _ ⟨_, rfl, s, zs ++ [_], by rw [List.map_append]; rfl, by simp [hz]⟩
abbrev s_l_numbers : Stmt := top 12
theorem sc_l_numbers : FnScope ["_law_cells", "_law_more", "_law_most", "_law_found", "_law_k", "_law_cell"] ["_law_cells", "_law_more", "_law_most"] (defScope s_l_numbers) := ⟨rfl, rfl, rfl, by decide +kernel, rfl, by decide +kernel, by decide +kernel⟩
theorem ok_l_numbers {f : Addr} {fd : FuncData} (F : Fun K "_law_numbers" "_law_numbers" s_l_numbers f fd) (T : Blt mg) : FnOk P w K mg base CX0 1 f fd ["_law_cells", "_law_more", "_law_most"] spNumbers := by
  refine F.ok (k := 0) sc_l_numbers (fun vs H Q E h => ?_) (fun cdv A outer s H vs Q E hr h => ?_)
  · obtain ⟨l, ns, b, m, rfl, _⟩ := h
    rfl
  · obtain ⟨l, ns, b, m, rfl, hl, m0, h63, q⟩ := h
    have hu := hu_of hr
    have hu8 := hu8_of hr
    refine ⟨_, (pss_cons (ps_set (i := 3) sc_l_numbers.nd rfl (Or.inl rfl) (pe_lstN pa_nil))
      (pss_cons (ps_for PassesOwn.never rfl (pi_enumQ rfl T.enumerate (pe_slice sl_q (pv 0) po_none (po_some pe_int))) (pg_tupQ (n := 2) rfl (pgs_cons (pg_name (i := 4) sc_l_numbers.nd rfl (Or.inl rfl)) (pgs_cons (pg_name (i := 5) sc_l_numbers.nd rfl (Or.inl rfl)) pgs_nil)))
      (pss_cons (ps_appQ (pv 3) (pe_op op_mod (pe_op op_add (pe_op op_mul (pv 5) pe_int) (pe_op op_mul (pv 4) (pv 4))) pe_int))
       (pss_one (ps_if (pt_val (pv 1)) (pss_one (ps_appQ (pv 3) (pe_op op_mod (pe_op op_add (pe_op op_mul (pv 5) pe_int) (pe_op op_mul pe_int (pv 4))) pe_int))) pss_nil))))
      (pss_one (ps_ret (pe_slice sl_q (pv 3) po_none (po_some (pv 2))))))), ?_⟩
    refine ⟨(by show 0 ≤ sizeLine; decide), fun p H1 n1 => ?_⟩
    refine ⟨_, rfl, _, rfl, l, _, rfl, .inl (n1.same _ _ hl), fun cp H2 n2 => ?_⟩
    rw [cutV_hi (show (0 : Int) ≤ 120 by decide), map_take_int] at n2
    generalize hms : ns.take (Int.toNat 120) = ms at n2
    have hml : ms.length ≤ 63 := by rw [← hms, List.length_take]; omega
    have npc : p ≠ cp := n2.ne n1.is
    have s2 : Same H H2 := n1.same.trans n2.same
    refine ⟨cp, _, rfl, .inl n2.is, for_listE (xs := ms.map V.int) (fun i σ H3 => ∃ kv cv, ∃ zs : List Int, σ = [some (.ref l), some (.bl b), some (.int m), some (.ref p), kv, cv] ∧ Same H H3 ∧ H3 p = some (.lst (zs.map V.int)) ∧ H3 cp = some (.lst (ms.map V.int)) ∧ zs.length ≤ 2 * i ∧ ∀ z ∈ zs, 0 ≤ z)
      ⟨none, none, [], rfl, s2, n2.same _ _ n1.is, n2.is, by simp, by simp⟩ (fun i σ H3 _ ⟨_, _, _, _, _, _, e, _⟩ => .inl e) ?_ ?_⟩
    · rintro i x σ H3 tp H4 hx ⟨kv, cv, zs, rfl, s3, hp, hc, hz, hz0⟩ n4
      obtain ⟨z, ez, rfl⟩ := map_get hx
      have hi : i < 63 := by have := lt_of_get ez; omega
      refine ⟨tp, _, rfl, .inl n4.is, rfl, _, _, rfl, _, _, rfl, rfl, ?_⟩
      have hp4 := n4.same _ _ hp
      have hc4 := n4.same _ _ hc
      have hsz : (zs.map V.int).length < sizeLine := smallL (by rw [List.length_map]; omega)
      refine ⟨_, rfl, p, _, rfl, hp4, ?_⟩
      refine ⟨_, rfl, _, _, rfl, rfl, .inr ⟨by decide, by decide⟩, _, rfl, _, rfl, _, _, rfl, rfl, .inl ⟨by omega, by omega⟩, _, _, rfl, rfl, _, _, rfl, rfl, (by show (0 : Int) < 2147483647; decide), _, hp4, hsz, fun H5 c5 => ?_⟩
      have s5 : Same H H5 := c5.same (s3.trans n4.same) n1.was
      have hp5 : H5 p = some (.lst ((zs ++ [(z * 48271 + (i : Int) * (i : Int)) % 2147483647]).map V.int)) := by rw [c5.is, List.map_append]; rfl
      have hc5 : H5 cp = some (.lst (ms.map V.int)) := by rw [c5.oth cp (Ne.symm npc)]; exact hc4
      have h50 : ∀ y ∈ zs ++ [(z * 48271 + (i : Int) * (i : Int)) % 2147483647], 0 ≤ y := fun y hy => by
        rcases List.mem_append.mp hy with hy | hy
        · exact hz0 y hy
        · rw [List.mem_singleton.mp hy]; exact Int.emod_nonneg _ (by decide)
      refine ⟨_, rfl, _, rfl, ?_⟩
      refine ite2 (fun _ => ?_) (fun _ => ?_)
      · have hsz5 : ((zs ++ [(z * 48271 + (i : Int) * (i : Int)) % 2147483647]).map V.int).length < sizeLine := smallL (by rw [List.length_map, List.length_append, List.length_singleton]; omega)
        refine ⟨_, rfl, p, _, rfl, hp5, ?_⟩
        refine ⟨_, rfl, _, _, rfl, rfl, .inr ⟨by decide, by decide⟩, _, rfl, _, _, rfl, rfl, .inl ⟨by decide, by decide⟩, _, _, rfl, rfl, _, _, rfl, rfl, (by show (0 : Int) < 2147483629; decide), _, hp5, hsz5, fun H6 c6 => ?_⟩
        refine ⟨_, _, (zs ++ [(z * 48271 + (i : Int) * (i : Int)) % 2147483647]) ++ [(z * 69621 + 7 * (i : Int)) % 2147483629], rfl, c6.same s5 n1.was, by rw [c6.is, List.map_append (l₁ := zs ++ _)]; rfl, by rw [c6.oth cp (Ne.symm npc)]; exact hc5, by rw [List.length_append, List.length_append, List.length_singleton, List.length_singleton]; omega, fun y hy => ?_⟩
        rcases List.mem_append.mp hy with hy | hy
        · exact h50 y hy
        · rw [List.mem_singleton.mp hy]; exact Int.emod_nonneg _ (by decide)
      · exact ⟨_, _, _, rfl, s5, hp5, hc5, by rw [List.length_append, List.length_singleton]; omega, h50⟩
    · rintro σ H3 ⟨kv, cv, zs, rfl, s3, hp, hc, hz, hz0⟩
      rw [List.length_map] at hz
      refine ⟨_, rfl, _, rfl, _, rfl, p, _, rfl, .inl hp, fun r H4 n4 => ?_⟩
      rw [cutV_hi m0, map_take_int] at n4
      exact q r _ H4 (by rw [List.length_take]; omega) (by rw [List.length_take]; omega) (fun z hm => hz0 z (List.mem_of_mem_take hm)) (n4.free s3) (s3.trans n4.same) n4.is
abbrev s_l_walk : Stmt := top 13
theorem sc_l_walk : FnScope ["_law_numbers_here", "_law_names_here", "_law_closed", "_law_many", "_law_found", "_law_k", "_law_after"] ["_law_numbers_here", "_law_names_here", "_law_closed"] (defScope s_l_walk) := ⟨rfl, rfl, rfl, by decide +kernel, rfl, by decide +kernel, by decide +kernel⟩
theorem ok_l_walk {f : Addr} {fd : FuncData} (F : Fun K "_law_walk" "_law_walk" s_l_walk f fd) (T : Blt mg) : FnOk P w K mg base CX0 1 f fd ["_law_numbers_here", "_law_names_here", "_law_closed"] spWalk := by
  refine F.ok (k := 0) sc_l_walk (fun vs H Q E h => ?_) (fun cdv A outer s H vs Q E hr h => ?_)
  · obtain ⟨l, n, zs, ns, c, rfl, _⟩ := h
    rfl
  · obtain ⟨l, n, zs, ns, c, rfl, hl, hn, hz0, hz, n1, n40, q⟩ := h
    have hu := hu_of hr
    have hu8 := hu8_of hr
    refine ⟨_, (pss_cons (ps_set (i := 3) sc_l_walk.nd rfl (Or.inl rfl) (pe_callB len_q rfl T.len bt_len (pa_cons (pv 1) pa_nil)))
      (pss_cons (ps_set (i := 4) sc_l_walk.nd rfl (Or.inl rfl) (pe_lstN pa_nil))
      (pss_cons (ps_for PassesOwn.never rfl (pi_range1 rfl T.range (pa_cons (pe_callB len_q rfl T.len bt_len (pa_cons (pv 0) pa_nil)) pa_nil)) (pg_name (i := 5) sc_l_walk.nd rfl (Or.inl rfl))
      (pss_one (ps_if (PW.pt (pw_or (pt_cmpR op_lt (pe_op op_add (pv 5) pe_int) (pe_callB len_q rfl T.len bt_len (pa_cons (pv 0) pa_nil)) (nomark _)) (pw_or1 (pt_val (pv 2))))) (pss_cons (ps_set (i := 6) sc_l_walk.nd rfl (Or.inl rfl) (pe_ix ix_q (pv 0) (pe_op op_mod (pe_op op_add (pv 5) pe_int) (pe_callB len_q rfl T.len bt_len (pa_cons (pv 0) pa_nil))) (fun _ _ => rfl)))
        (pss_one (ps_appQ (pv 4) (pe_tupN (pa_cons (pe_ix ix_q (pv 1) (pe_op op_mod (pe_ix ix_q (pv 0) (pv 5) (fun _ _ => rfl)) (pv 3)) (fun _ _ => rfl)) (pa_cons (pe_ix ix_q (pv 1) (pe_op op_mod (pv 6) (pv 3)) (fun _ _ => rfl)) (pa_cons (pe_cmpR op_eq (pe_op op_mod (pe_op op_fdiv (pe_ix ix_q (pv 0) (pv 5) (fun _ _ => rfl)) (pv 3)) pe_int) pe_int (nomark _)) pa_nil))))))) pss_nil)))
      (pss_one (ps_ret (pv 4)))))), ?_⟩
    have hM : (((ns.map V.int).length : Nat) : Int) = ns.length := by rw [List.length_map]
    have hL : (((zs.map V.int).length : Nat) : Int) = zs.length := by rw [List.length_map]
    refine ⟨_, rfl, n, _, rfl, Sq.lst hn, ?_⟩
    rw [hM]
    refine ⟨(by show 0 ≤ sizeLine; decide), fun p H1 m1 => ?_⟩
    refine ⟨_, rfl, l, _, rfl, Sq.lst (m1.same _ _ hl), _, rfl, (by omega), (by omega), ?_⟩
    rw [hL, Int.toNat_natCast]
    refine for_range (fun i σ H2 => ∃ kv av, σ = [some (.ref l), some (.ref n), some (.bl c), some (.int (ns.length : Nat)), some (.ref p), kv, av] ∧ Same H H2 ∧ Prt H2 p (walkTo zs ns c i)) ⟨none, none, rfl, m1.same, Tl.nil m1.is⟩ ?_ ?_
    · rintro i σ H2 hi ⟨kv, av, rfl, s, g⟩
      have hl2 := s _ _ hl
      have hn2 := s _ _ hn
      have p1 : (0 : Int) < ns.length := by omega
      have p2 : (0 : Int) < zs.length := by omega
      have ei : (0 + (i : Int)).toNat = i := by omega
      rw [walkTo_succ]
      refine tOr_of (decide (i + 1 < zs.length)) c (fun Q' q' => ?_) (fun Q' q' => ⟨_, rfl, _, rfl, q'⟩) ?_
      · refine ⟨_, rfl, _, _, rfl, rfl, _, rfl, l, _, rfl, Sq.lst hl2, _, _, rfl, rfl, _, rfl, ?_⟩
        rw [hL, dec_iff (show 0 + (i : Int) + 1 < (zs.length : Int) ↔ i + 1 < zs.length by omega)]
        exact q'
      refine ite2 (fun cc => ?_) (fun cc => ?_)
      · rw [if_pos cc]
        have k0 := Int.emod_nonneg (0 + (i : Int) + 1) (show (zs.length : Int) ≠ 0 by omega)
        have k1 := Int.emod_lt_of_pos (0 + (i : Int) + 1) p2
        have ek : ((0 + (i : Int) + 1) % (zs.length : Int)).toNat = (i + 1) % zs.length := by
          have : (0 + (i : Int) + 1) % (zs.length : Int) = (((i + 1) % zs.length : Nat) : Int) := by
            rw [show 0 + (i : Int) + 1 = ((i + 1 : Nat) : Int) by omega]; exact (Int.natCast_emod _ _).symm
          rw [this]; omega
        refine ⟨_, rfl, _, rfl, _, _, rfl, rfl, _, rfl, l, _, rfl, Sq.lst hl2, _, _, rfl, rfl, (by rw [hL]; exact p2), l, _, _, _, rfl, rfl, Sq.lst hl2, (by rw [hL]; exact atI_int k0 k1), ?_⟩
        rw [ek]
        have a0 := Int.emod_nonneg (zs.getD i 0) (show (ns.length : Int) ≠ 0 by omega)
        have a1 := Int.emod_lt_of_pos (zs.getD i 0) p1
        have b0 := Int.emod_nonneg (zs.getD ((i + 1) % zs.length) 0) (show (ns.length : Int) ≠ 0 by omega)
        have b1 := Int.emod_lt_of_pos (zs.getD ((i + 1) % zs.length) 0) p1
        have ati : atI (zs.map V.int) (0 + (i : Int)) = some (.int (zs.getD i 0)) := by
          have := atI_int (zs := zs) (i := 0 + (i : Int)) (by omega) (by omega)
          rwa [ei] at this
        obtain ⟨vs, v1, v2⟩ := g.len
        refine ⟨_, rfl, p, _, rfl, v1, ?_⟩
        refine ⟨_, rfl, _, rfl, _, rfl, l, _, _, _, rfl, rfl, Sq.lst hl2, ati, _, rfl, _, _, rfl, rfl, p1, n, _, _, _, rfl, rfl, Sq.lst hn2, atI_int a0 a1, ?_⟩
        refine ⟨_, rfl, _, rfl, _, rfl, _, _, rfl, rfl, p1, n, _, _, _, rfl, rfl, Sq.lst hn2, atI_int b0 b1, ?_⟩
        refine ⟨_, rfl, _, rfl, l, _, _, _, rfl, rfl, Sq.lst hl2, ati, _, rfl, _, _, rfl, rfl, ⟨p1, by omega⟩, _, _, rfl, rfl, (by show (0 : Int) < 2; decide), rfl, (by show 3 ≤ sizeLine; decide), fun tp H3 n3 => ?_⟩
        have e3 : H3 tp = some (.tup (scP (walkAt zs ns i))) := by
          rw [n3.is]
          unfold walkAt
          rw [dec_iff (show V.int (zs.getD i 0 / (ns.length : Int) % 2) = V.int 1 ↔ zs.getD i 0 / (ns.length : Int) % 2 = 1 from ⟨fun z => by injection z, fun z => by rw [z]⟩)]
        obtain ⟨ws, w1, w2, w3⟩ := (g.same n3.same).snoc e3
        have hwv : ws = vs := by
          have := n3.same _ _ v1
          rw [w1] at this
          injection this with this
          injection this
        subst hwv
        refine ⟨_, w1, smallL (by rw [w2]; have := walkTo_le zs ns c i; omega), fun H4 c4 => ?_⟩
        exact ⟨_, _, rfl, c4.same (s.trans n3.same) m1.was, w3 H4 c4⟩
      · rw [if_neg cc, List.append_nil]
        exact ⟨_, _, rfl, s, g⟩
    · rintro σ H2 ⟨kv, av, rfl, s, g⟩
      exact ⟨_, rfl, q p H2 m1.was s g⟩
abbrev s_l_tile : Stmt := top 14
theorem sc_l_tile : FnScope ["_law_part"] ["_law_part"] (defScope s_l_tile) := ⟨rfl, rfl, rfl, by decide +kernel, rfl, by decide +kernel, by decide +kernel⟩
theorem ok_l_tile {f : Addr} {fd : FuncData} (F : Fun K "_law_tile" "_law_tile" s_l_tile f fd) (T : Blt mg) : FnOk P w K mg base CX0 1 f fd ["_law_part"] spTile := by
  refine F.ok (k := 0) sc_l_tile (fun vs H Q E h => ?_) (fun cdv A outer s H vs Q E hr h => ?_)
  · obtain ⟨p, t, rfl, _⟩ := h
    rfl
  · obtain ⟨p, t, rfl, hp, q⟩ := h
    have hu := hu_of hr
    have hu8 := hu8_of hr
    refine ⟨_, (pss_cons (ps_if (pt_val (pe_ix ix_q (pv 0) pe_int (fun _ _ => rfl))) (pss_one (ps_ret (pe_tupN (pa_cons (pe_ix ix_q (pv 0) pe_int (fun _ _ => rfl)) (pa_cons (pe_ix ix_q (pv 0) pe_int (fun _ _ => rfl)) pa_nil))))) pss_nil)
      (pss_one (ps_ret (pe_tupN (pa_cons (pe_ix ix_q (pv 0) pe_int (fun _ _ => rfl)) (pa_cons (pe_ix ix_q (pv 0) pe_int (fun _ _ => rfl)) pa_nil)))))), ?_⟩
    refine ⟨_, rfl, p, _, _, _, rfl, rfl, Sq.tup hp, rfl, _, rfl, ?_⟩
    refine ite2 (fun c => ?_) (fun c => ?_)
    · refine ⟨_, rfl, p, _, _, _, rfl, rfl, Sq.tup hp, rfl, _, rfl, p, _, _, _, rfl, rfl, Sq.tup hp, rfl, (by show 2 ≤ sizeLine; decide), fun r H' n => ?_⟩
      refine q r H' ?_
      unfold tileF
      rw [if_pos c]
      exact n
    · refine ⟨_, rfl, p, _, _, _, rfl, rfl, Sq.tup hp, rfl, _, rfl, p, _, _, _, rfl, rfl, Sq.tup hp, rfl, (by show 2 ≤ sizeLine; decide), fun r H' n => ?_⟩
      refine q r H' ?_
      unfold tileF
      rw [if_neg c]
      exact n
abbrev s_l_order : Stmt := top 15
theorem sc_l_order : FnScope ["_law_numbers_here", "_law_size", "_law_way", "_law_keys", "_law_k", "_law_key"] ["_law_numbers_here", "_law_size", "_law_way"] (defScope s_l_order) := ⟨rfl, rfl, rfl, by decide +kernel, rfl, by decide +kernel, by decide +kernel⟩
theorem cs_l_order_1_nd : (["_law_key", "_law_k"] : List Str).Nodup := by decide +kernel
theorem ok_l_order {f : Addr} {fd : FuncData} (F : Fun K "_law_order" "_law_order" s_l_order f fd) (T : Blt mg) : FnOk P w K mg base CX0 1 f fd ["_law_numbers_here", "_law_size", "_law_way"] spOrder := by
  refine F.ok (k := 0) sc_l_order (fun vs H Q E h => ?_) (fun cdv A outer s H vs Q E hr h => ?_)
  · obtain ⟨l, zs, n, w, rfl, _⟩ := h
    rfl
  · obtain ⟨l, zs, n, w, rfl, hl, n0, hn, hz, q⟩ := h
    have hu := hu_of hr
    have hu8 := hu8_of hr
    refine ⟨_, (pss_cons (ps_set (i := 3) sc_l_order.nd rfl (Or.inl rfl) (pe_lstN pa_nil))
      (pss_cons (ps_for PassesOwn.never rfl (pi_range1 rfl T.range (pa_cons (pv 1) pa_nil)) (pg_name (i := 4) sc_l_order.nd rfl (Or.inl rfl))
      (pss_cons (ps_set (i := 5) sc_l_order.nd rfl (Or.inl rfl) (pe_op op_mod (pe_op op_mul (pe_ix ix_q (pv 0) (pv 4) (fun _ _ => rfl)) pe_int) pe_int))
       (pss_mid (ps_if (pt_cmpR op_eq (pe_op op_mod (pv 2) pe_int) pe_int (nomark _)) (pss_one (ps_set (i := 5) sc_l_order.nd rfl (Or.inl rfl) (pe_op op_mod (pe_op op_add (pv 4) (pe_op op_fdiv (pv 2) pe_int)) (pv 1)))) pss_nil)
       (pss_mid (ps_if (pt_cmpR op_eq (pe_op op_mod (pv 2) pe_int) pe_int (nomark _)) (pss_one (ps_set (i := 5) sc_l_order.nd rfl (Or.inl rfl) (pe_un un_neg (pv 4)))) pss_nil)
       (pss_one (ps_appQ (pv 3) (pe_tupN (pa_cons (pv 5) (pa_cons (pv 4) pa_nil)))))))))
      (pss_one (ps_ret (pe_lc rfl (compEq (osc := defScope s_l_order) (N := ["_law_numbers_here", "_law_size", "_law_way", "_law_keys", "_law_k", "_law_key"]) (N' := ["_law_key", "_law_k"]) (ix := [none, none]) (by decide +kernel)) (pi_listQ (pe_callB sort_pairs rfl T.sorted bt_sorted (pa_cons (pv 3) pa_nil))) (fun _ _ _ _ => (pg_tupQ (n := 2) rfl (pgs_cons (pg_name (i := 0) cs_l_order_1_nd rfl (Or.inl rfl)) (pgs_cons (pg_name (i := 1) cs_l_order_1_nd rfl (Or.inl rfl)) pgs_nil)))) (fun _ _ _ _ => pts_nil) (fun _ _ _ _ => (pv 1))))))), ?_⟩
    refine ⟨(by show 0 ≤ sizeLine; decide), fun p H1 m1 => ?_⟩
    refine ⟨_, rfl, _, rfl, (by omega), (by omega), ?_⟩
    refine for_range (fun i σ H2 => ∃ kv yv, ∃ es : List (Int × Int), σ = [some (.ref l), some (.int n), some (.int w), some (.ref p), kv, yv] ∧ Same H H2 ∧ Tl scT H2 p es ∧ es.map (·.2) = (List.range i).map fun k : Nat => (k : Int)) ⟨none, none, [], rfl, m1.same, Tl.nil m1.is, rfl⟩ ?_ ?_
    · rintro i σ H2 hi ⟨kv, yv, es, rfl, s, g, ge⟩
      have hl2 := s _ _ hl
      have ati := atI_int (zs := zs) (i := 0 + (i : Int)) (by omega) (by omega)
      refine ⟨_, rfl, _, rfl, l, _, _, _, rfl, rfl, Sq.lst hl2, ati, _, _, rfl, rfl, .inr ⟨by decide, by decide⟩, _, _, rfl, rfl, (by show (0 : Int) < 2147483629; decide), ?_⟩
      refine ⟨fun σ H3 => H3 = H2 ∧ ∃ y : Int, σ = [some (.ref l), some (.int n), some (.int w), some (.ref p), some (.int (0 + (i : Int))), some (.int y)], ?_, ?_⟩
      · refine ⟨_, rfl, _, _, rfl, rfl, (by show (0 : Int) < 4; decide), rfl, _, rfl, ?_⟩
        refine ite2 (fun _ => ?_) (fun _ => ?_)
        · refine ⟨_, rfl, _, rfl, _, _, rfl, rfl, ⟨by decide, by decide⟩, _, _, rfl, rfl, _, rfl, _, _, rfl, rfl, (by show (0 : Int) < n; omega), ?_⟩
          exact ⟨rfl, _, rfl⟩
        · exact ⟨rfl, _, rfl⟩
      rintro σ H3 ⟨rfl, y, rfl⟩
      refine ⟨fun σ H3' => H3' = H3 ∧ ∃ y : Int, σ = [some (.ref l), some (.int n), some (.int w), some (.ref p), some (.int (0 + (i : Int))), some (.int y)], ?_, ?_⟩
      · refine ⟨_, rfl, _, _, rfl, rfl, (by show (0 : Int) < 4; decide), rfl, _, rfl, ?_⟩
        refine ite2 (fun _ => ?_) (fun _ => ?_)
        · exact ⟨_, rfl, _, rfl, rfl, _, rfl⟩
        · exact ⟨rfl, _, rfl⟩
      rintro σ H3' ⟨rfl, y', rfl⟩
      obtain ⟨vs, v1, v2⟩ := g.len
      refine ⟨_, rfl, p, _, rfl, v1, ?_⟩
      refine ⟨_, rfl, _, rfl, (by show 2 ≤ sizeLine; decide), fun tp H4 n4 => ?_⟩
      obtain ⟨ws, w1, w2, w3⟩ := (g.same n4.same).snoc (x := (y', 0 + (i : Int))) n4.is
      have hel : es.length = i := by have := congrArg List.length ge; simpa using this
      refine ⟨_, w1, smallL (by omega), fun H5 c5 => ?_⟩
      refine ⟨_, _, es ++ [(y', 0 + (i : Int))], rfl, c5.same (s.trans n4.same) m1.was, w3 H5 c5, ?_⟩
      rw [List.map_append, ge, List.range_succ, List.map_append]
      simp
    · rintro σ H2 ⟨kv, yv, es, rfl, s, g, ge⟩
      obtain ⟨ps, g1, g2, g3⟩ := id g
      have hel : es.length = n.toNat := by have := congrArg List.length ge; simpa using this
      have hzip : (ps.zip es).map (fun e => V.ref e.1) = ps.map V.ref := by
        rw [show (fun e : Addr × Int × Int => V.ref e.1) = V.ref ∘ Prod.fst from rfl, ← List.map_map, List.map_fst_zip (by omega)]
      have hzip2 : (ps.zip es).map (fun e => e.2.2) = (List.range n.toNat).map fun k : Nat => (k : Int) := by
        rw [show (fun e : Addr × Int × Int => e.2.2) = (fun t : Int × Int => t.2) ∘ Prod.snd from rfl, ← List.map_map, List.map_snd_zip (by omega), ge]
      have hmem : ∀ e ∈ ps.zip es, H2 e.1 = some (.tup [.int e.2.1, .int e.2.2]) := fun e he => by
        obtain ⟨j, hj⟩ := List.getElem?_of_mem he
        rw [List.getElem?_zip_eq_some] at hj
        exact g3 j e.1 e.2 hj.1 hj.2
      refine ⟨_, rfl, p, ps.zip es, rfl, .inl (by rw [hzip]; exact g1), fun e he => .inl (hmem e he), fun r fs H3 pf _ n3 => ?_⟩
      have hfl : fs.length ≤ 126 := by rw [pf.length_eq, List.length_zip]; omega
      have s3 := s.trans n3.same
      refine ⟨r, _, rfl, .inl n3.is, lc_list (xs := fs.map fun e => V.ref e.1) (fun i σ H4 ys => ∃ a b, σ = [a, b] ∧ Same H3 H4 ∧ ys = (fs.take i).map fun e => V.int e.2.2) ⟨none, none, rfl, Same.refl _, rfl⟩
        (fun i σ H4 ys hi ⟨_, _, _, s4, e⟩ => ⟨.inl (s4 _ _ n3.is), by rw [e, List.length_map, List.length_take]; omega⟩) (small (by rw [List.length_map]; omega)) ?_ ?_⟩
      · rintro i x σ H4 ys N hN hx ⟨a, b, rfl, s4, rfl⟩
        rw [List.getElem?_map] at hx
        cases ef : fs[i]? with
        | none => rw [ef] at hx; cases hx
        | some e =>
          rw [ef] at hx
          have hx' := Option.some.inj hx
          subst hx'
          have he : e ∈ ps.zip es := pf.mem_iff.mp (List.mem_of_getElem? ef)
          refine ⟨e.1, _, rfl, .inl (s4 _ _ (n3.same _ _ (hmem e he))), rfl, _, _, rfl, _, _, rfl, rfl, ?_⟩
          refine ⟨_, rfl, ?_⟩
          refine hN _ _ _ ⟨_, _, rfl, s4, ?_⟩
          rw [List.take_add_one, ef]
          simp
      · rintro σ H4 ys ⟨a, b, rfl, s4, rfl⟩ D H5 n5
        rw [List.length_map, List.take_of_length_le (Nat.le_refl _)] at n5
        have pm : (fs.map fun e => e.2.2).Perm ((List.range n.toNat).map fun k : Nat => (k : Int)) := hzip2 ▸ pf.map (fun e => e.2.2)
        obtain ⟨os, po, eo⟩ := perm_unmap pm (List.range n.toNat) rfl
        refine q D os H5 po (n5.free (s3.trans s4)) (s3.trans (s4.trans n5.same)) ?_
        rw [n5.is, show (fun e : Addr × Int × Int => V.int e.2.2) = V.int ∘ (fun e => e.2.2) from rfl, ← List.map_map, eo, List.map_map]
        rfl
abbrev s_l_tiles : Stmt := top 16
theorem sc_l_tiles : FnScope ["_law_parts", "_law_order_here"] ["_law_parts", "_law_order_here"] (defScope s_l_tiles) := ⟨rfl, rfl, rfl, by decide +kernel, rfl, by decide +kernel, by decide +kernel⟩
theorem cs_l_tiles_1_nd : (["_law_k", "_law_parts"] : List Str).Nodup := by decide +kernel
theorem ok_l_tiles {f : Addr} {fd : FuncData} (F : Fun K "_law_tiles" "_law_tiles" s_l_tiles f fd) (T : Blt mg) (c_l_tile : Callee P w K mg base 1 "_law_tile" ["_law_part"] spTile) : FnOk P w K mg base CX0 2 f fd ["_law_parts", "_law_order_here"] spTiles := by
  refine F.ok (k := 1) sc_l_tiles (fun vs H Q E h => ?_) (fun cdv A outer s H vs Q E hr h => ?_)
  · obtain ⟨p, o, ps, os, rfl, _⟩ := h
    rfl
  · obtain ⟨p, o, ps, os, rfl, hp, ho, hlt, h126, q⟩ := h
    have hu := hu_of hr
    have hu8 := hu8_of hr
    refine ⟨_, (pss_one (ps_ret (pe_lc rfl (compEq (osc := defScope s_l_tiles) (N := ["_law_parts", "_law_order_here"]) (N' := ["_law_k", "_law_parts"]) (ix := [none, some 0]) (by decide +kernel)) (pi_listQ (pv 1)) (fun _ _ _ _ => (pg_name (i := 0) cs_l_tiles_1_nd rfl (Or.inl rfl))) (fun _ _ _ _ => pts_nil) (fun _ _ _ _ => (pe_callee c_l_tile (hr.mono (by decide)) rfl (pa_cons (pe_ix ix_q (pv 1) (pv 0) (fun _ _ => rfl)) pa_nil)))))), ?_⟩
    refine ⟨_, rfl, o, _, rfl, .inl ho, lc_list (xs := os.map nI) (fun i σ H2 ys => ∃ v, σ = [v, some (.ref p)] ∧ Same H H2 ∧ Tg scT H2 ys ((os.take i).map fun k => tileF (ps.getD k (0, 0, false)))) ⟨none, rfl, Same.refl _, Tg.nil⟩
      (fun i σ H2 ys hi ⟨_, _, s, g⟩ => ⟨.inl (s _ _ ho), by rw [g.len, List.length_map, List.length_take]; omega⟩) (small (by rw [List.length_map]; omega)) ?_ ?_⟩
    · rintro i x σ H2 ys N hN hx ⟨v, rfl, s, g⟩
      rw [List.getElem?_map] at hx
      cases ek : os[i]? with
      | none => rw [ek] at hx; cases hx
      | some k =>
        rw [ek] at hx
        have hx' := Option.some.inj hx
        subst hx'
        have hk := hlt k (List.mem_of_getElem? ek)
        obtain ⟨qs, tp, t, e1, e2, e3, e4, e5⟩ := (hp.same s).atI (i := (k : Int)) (by omega) (by omega)
        have e4' : ps[k]? = some t := e4
        have et : ps.getD k (0, 0, false) = t := by rw [List.getD_eq_getElem?_getD, e4']; rfl
        refine ⟨_, rfl, _, rfl, p, _, _, _, rfl, rfl, Sq.lst e1, e3, tp, t, rfl, e5, fun r H3 n3 => ?_⟩
        refine hN _ _ _ ⟨_, rfl, s.trans n3.same, ?_⟩
        rw [List.take_add_one, ek, List.map_append]
        refine g.snoc n3.same ?_
        show H3 r = some (.tup (scT (tileF (ps.getD k (0, 0, false)))))
        rw [et]
        exact n3.is
    · rintro σ H2 ys ⟨v, rfl, s, g⟩ D H3 n3
      rw [List.length_map, List.take_of_length_le (Nat.le_refl _)] at g
      exact q D H3 (n3.free s) (s.trans n3.same) (g.tl n3)
abbrev s_l_laid : Stmt := top 17
theorem sc_l_laid : FnScope ["_law_parts", "_law_order_here", "_law_places", "_law_place", "_law_k"] ["_law_parts", "_law_order_here"] (defScope s_l_laid) := ⟨rfl, rfl, rfl, by decide +kernel, rfl, by decide +kernel, by decide +kernel⟩
theorem cs_l_laid_1_nd : (["_law_k", "_law_parts", "_law_places"] : List Str).Nodup := by decide +kernel
theorem ok_l_laid {f : Addr} {fd : FuncData} (F : Fun K "_law_laid" "_law_laid" s_l_laid f fd) (T : Blt mg) : FnOk P w K mg base CX0 1 f fd ["_law_parts", "_law_order_here"] spLaid := by
  refine F.ok (k := 0) sc_l_laid (fun vs H Q E h => ?_) (fun cdv A outer s H vs Q E hr h => ?_)
  · obtain ⟨p, o, ps, os, rfl, _⟩ := h
    rfl
  · obtain ⟨p, o, ps, os, rfl, hp, ho, hperm, h126, q⟩ := h
    have hu := hu_of hr
    have hu8 := hu8_of hr
    refine ⟨_, (pss_cons (ps_set (i := 2) sc_l_laid.nd rfl (Or.inr rfl) pe_dnewQ)
      (pss_cons (ps_for PassesOwn.never rfl (pi_enumQ rfl T.enumerate (pv 1)) (pg_tupQ (n := 2) rfl (pgs_cons (pg_name (i := 3) sc_l_laid.nd rfl (Or.inl rfl)) (pgs_cons (pg_name (i := 4) sc_l_laid.nd rfl (Or.inl rfl)) pgs_nil)))
      (pss_one (ps_dputQ hu (pv 2) (pv 4) (pv 3) rfl)))
      (pss_one (ps_ret (pe_lc rfl (compEq (osc := defScope s_l_laid) (N := ["_law_parts", "_law_order_here", "_law_places", "_law_place", "_law_k"]) (N' := ["_law_k", "_law_parts", "_law_places"]) (ix := [none, some 0, some 2]) (by decide +kernel)) (pi_range1 rfl T.range (pa_cons (pe_callB len_q rfl T.len bt_len (pa_cons (pv 0) pa_nil)) pa_nil)) (fun _ _ _ _ => (pg_name (i := 0) cs_l_laid_1_nd rfl (Or.inl rfl))) (fun _ _ _ _ => pts_nil) (fun _ _ _ _ => (pe_tupN (pa_cons (pe_dget hu (pv 2) (pv 0) (fun _ _ => rfl)) (pa_cons (pe_ix ix_q (pe_ix ix_q (pv 1) (pv 0) (fun _ _ => rfl)) pe_int (fun _ _ => rfl)) pa_nil))))))))), ?_⟩
    have hol : os.length = ps.length := by rw [hperm.length_eq]; simp
    refine fun dp H1 n1 => ?_
    refine ⟨_, rfl, o, _, rfl, .inl (n1.same _ _ ho), for_listE (xs := os.map nI) (fun i σ H2 => ∃ a b, ∃ kvs : List (Key × V), σ = [some (.ref p), some (.ref o), some (.ref dp), a, b] ∧ Same H H2 ∧ H2 dp = some (.dK kvs) ∧ kvs.length ≤ i ∧ ∀ k ∈ os.take i, ∃ j : Nat, os[j]? = some k ∧ valV kvs (Sum.inl (k : Int)) = some (.int (j : Int)))
      ⟨none, none, [], rfl, n1.same, n1.is, Nat.le_refl _, by simp⟩ (fun i σ H2 _ ⟨_, _, _, _, s, _⟩ => .inl (s _ _ ho)) ?_ ?_⟩
    · rintro i x σ H2 tp H3 hx ⟨a, b, kvs, rfl, s, hd, hk, hv⟩ n3
      rw [List.getElem?_map] at hx
      cases ek : os[i]? with
      | none => rw [ek] at hx; cases hx
      | some k =>
        rw [ek] at hx
        have hx' := Option.some.inj hx
        subst hx'
        have hi := lt_of_get ek
        refine ⟨tp, _, rfl, .inl n3.is, rfl, _, _, rfl, _, _, rfl, rfl, ?_⟩
        refine ⟨_, rfl, _, rfl, _, rfl, dp, kvs, Sum.inl (k : Int), rfl, n3.same _ _ hd, rfl, smallL (by omega), fun H4 c4 => ?_⟩
        refine ⟨_, _, _, rfl, c4.same (s.trans n3.same) n1.was, c4.is, Nat.le_trans (length_putK _ _ _) (by omega), fun k' hk' => ?_⟩
        rw [valV_put]
        by_cases e : (Sum.inl (k' : Int) : Key) = Sum.inl (k : Int)
        · rw [if_pos e]
          have e' : k' = k := by injection e with e; omega
          subst e'
          exact ⟨i, ek, rfl⟩
        · rw [if_neg e]
          rw [List.take_add_one, ek] at hk'
          rcases List.mem_append.mp hk' with m | m
          · exact hv k' m
          · have : k' = k := by simpa using m
            subst this
            exact absurd rfl e
    · rintro σ H2 ⟨a, b, kvs, rfl, s, hd, hk, hv⟩
      rw [List.length_map, List.take_of_length_le (Nat.le_refl _)] at hv
      obtain ⟨qs0, e10, e20⟩ := (hp.same s).len
      refine ⟨_, rfl, p, _, rfl, Sq.lst e10, _, rfl, (by omega), (by omega), ?_⟩
      rw [e20, Int.toNat_natCast]
      refine lc_range (fun i σ H3 ys => ∃ v, ∃ row : List (Int × Bool), σ = [v, some (.ref p), some (.ref dp)] ∧ Same H2 H3 ∧ Tg scS H3 ys row ∧ row.length = i ∧ ∀ k x, row[k]? = some x → ∃ j : Nat, os[j]? = some k ∧ x = ((j : Int), (ps.getD k (0, 0, false)).2.2)) ⟨none, [], rfl, Same.refl _, Tg.nil, rfl, by simp⟩
        (fun i σ H3 ys _ ⟨_, row, _, _, g, e, _⟩ => by rw [g.len]; omega) (small (by omega)) ?_ ?_
      · rintro i σ H3 ys N hN hi ⟨v, row, rfl, s3, g, er, hrow⟩
        have him : i ∈ os := hperm.mem_iff.mpr (List.mem_range.mpr hi)
        obtain ⟨j, ej, ev⟩ := hv i him
        obtain ⟨qs, tp, t, e1, e2, e3, e4, e5⟩ := ((hp.same s).same s3).atI (i := 0 + (i : Int)) (by omega) (by omega)
        have e4' : ps[i]? = some t := by rw [show (0 + (i : Int)).toNat = i by omega] at e4; exact e4
        have et : ps.getD i (0, 0, false) = t := by rw [List.getD_eq_getElem?_getD, e4']; rfl
        have ev' : valV kvs (Sum.inl (0 + (i : Int)) : Key) = some (.int (j : Int)) := by rw [Int.zero_add]; exact ev
        refine ⟨_, rfl, _, rfl, dp, _, rfl, ev' ▸ DGet.k (k := Sum.inl (0 + (i : Int))) (s3 _ _ hd), ?_⟩
        refine ⟨_, rfl, _, rfl, p, _, _, _, rfl, rfl, Sq.lst e1, e3, tp, _, _, _, rfl, rfl, Sq.tup e5, rfl, (by show 2 ≤ sizeLine; decide), fun r H4 n4 => ?_⟩
        refine hN _ _ _ ⟨_, row ++ [((j : Int), t.2.2)], rfl, s3.trans n4.same, g.snoc n4.same n4.is, by simp [er], fun k x hx => ?_⟩
        by_cases hk : k < row.length
        · rw [List.getElem?_append_left hk] at hx
          exact hrow k x hx
        · have : k = row.length := by have := lt_of_get hx; simp at this; omega
          subst this
          simp at hx
          subst hx
          rw [er]
          exact ⟨j, ej, by rw [et]⟩
      · rintro σ H3 ys ⟨v, row, rfl, s3, g, er, hrow⟩ D H4 n4
        exact q D row H4 ⟨er, hrow⟩ (n4.free (s.trans s3)) (s.trans (s3.trans n4.same)) (g.tl n4)
abbrev s_l_step : Stmt := top 18
theorem sc_l_step : FnScope ["_law_step_here"] ["_law_step_here"] (defScope s_l_step) := ⟨rfl, rfl, rfl, by decide +kernel, rfl, by decide +kernel, by decide +kernel⟩
theorem ok_l_step {f : Addr} {fd : FuncData} (F : Fun K "_law_step" "_law_step" s_l_step f fd) (T : Blt mg) (KT : Kit K) (c_l_whole : Callee P w K mg base 1 "_law_whole" ["_law_found"] spWhole) : FnOk P w K mg base CX0 2 f fd ["_law_step_here"] spStep := by
  refine F.ok (k := 1) sc_l_step (fun vs H Q E h => ?_) (fun cdv A outer s H vs Q E hr h => ?_)
  · obtain ⟨p, st, rfl, _⟩ := h
    rfl
  · obtain ⟨p, st, rfl, hp, q⟩ := h
    have hu := hu_of hr
    have hu8 := hu8_of hr
    refine ⟨_, (pss_cons (ps_if (PW.pt (pw_or (pt_not (pt_val (pe_isi T.isi T.tuple bt_tuple rfl rfl (pv 0)))) (pw_or1 (pt_cmpR op_ne (pe_callB len_q rfl T.len bt_len (pa_cons (pv 0) pa_nil)) pe_int (nomark _))))) (pss_one (ps_ret pe_bl)) pss_nil)
      (pss_one (ps_ret (pe_and (pe_callee c_l_whole (hr.mono (by decide)) rfl (pa_cons (pe_ix ix_q (pv 0) pe_int (fun _ _ => rfl)) pa_nil)) (pe_one (pe_isi T.isi T.bool bt_bool rfl rfl (pe_ix ix_q (pv 0) pe_int (fun _ _ => rfl)))))))), ?_⟩
    refine ⟨_, rfl, _, _, .tup hp, KT.tt, _, rfl, ?_⟩
    refine ⟨_, rfl, p, _, rfl, Sq.tup hp, rfl, _, rfl, ?_⟩
    refine ⟨_, rfl, p, _, _, _, rfl, rfl, Sq.tup hp, rfl, st.1, rfl, _, rfl, ?_⟩
    exact ⟨_, rfl, p, _, _, _, rfl, rfl, Sq.tup hp, rfl, _, _, .bl st.2, KT.bb, q⟩
abbrev s_l_lefts : Stmt := top 19
theorem sc_l_lefts : FnScope ["_law_tiles_here", "_law_ring"] ["_law_tiles_here", "_law_ring"] (defScope s_l_lefts) := ⟨rfl, rfl, rfl, by decide +kernel, rfl, by decide +kernel, by decide +kernel⟩
theorem cs_l_lefts_1_nd : (["_law_number", "_law_turned", "_law_tiles_here"] : List Str).Nodup := by decide +kernel
theorem ok_l_lefts {f : Addr} {fd : FuncData} (F : Fun K "_law_lefts" "_law_lefts" s_l_lefts f fd) (T : Blt mg) : FnOk P w K mg base CX0 1 f fd ["_law_tiles_here", "_law_ring"] spLefts := by
  refine F.ok (k := 0) sc_l_lefts (fun vs H Q E h => ?_) (fun cdv A outer s H vs Q E hr h => ?_)
  · obtain ⟨t, r, ts, row, rfl, _⟩ := h
    rfl
  · obtain ⟨t, r, ts, row, rfl, hT, hR, hin, hlen, q⟩ := h
    have hu := hu_of hr
    have hu8 := hu8_of hr
    refine ⟨_, (pss_one (ps_ret (pe_lc rfl (compEq (osc := defScope s_l_lefts) (N := ["_law_tiles_here", "_law_ring"]) (N' := ["_law_number", "_law_turned", "_law_tiles_here"]) (ix := [none, none, some 0]) (by decide +kernel)) (pi_listQ (pv 1)) (fun _ _ _ _ => (pg_tupQ (n := 2) rfl (pgs_cons (pg_name (i := 0) cs_l_lefts_1_nd rfl (Or.inl rfl)) (pgs_cons (pg_name (i := 1) cs_l_lefts_1_nd rfl (Or.inl rfl)) pgs_nil)))) (fun _ _ _ _ => pts_nil) (fun _ _ _ _ => (pe_ix ix_q (pe_ix ix_q (pv 2) (pv 0) (fun _ _ => rfl)) (pe_callTy call_int1 rfl T.int bt_int (pa_cons (pv 1) pa_nil)) (fun _ _ => rfl)))))), ?_⟩
    obtain ⟨vs, v0, g⟩ := hR.tg
    have v2 := g.len
    refine ⟨_, rfl, r, _, rfl, .inl v0, lc_listB (xs := vs) (fun i σ H2 ys => ∃ a b, σ = [a, b, some (.ref t)] ∧ Same H H2 ∧ ys = (leftsF ts (row.take i)).map V.int) ⟨none, none, rfl, Same.refl _, rfl⟩
      (fun i σ H2 ys hi ⟨_, _, _, s, e⟩ => ⟨.inl (s _ _ v0), by rw [e, List.length_map, lefts_len, List.length_take]; omega⟩) (small (by omega)) ?_ ?_⟩
    · rintro i x σ H2 ys N hN hx ⟨a, b, rfl, s, rfl⟩
      obtain ⟨sp, st, rfl, est, hsp⟩ := g.get hx
      have hst := hin st (List.mem_of_getElem? est)
      obtain ⟨ps, tp, tt, e1, e2, e3, e4, e5⟩ := (hT.same s).atI hst.1 hst.2
      have hf : faceAt ts st = faceF tt st.2 := by
        unfold faceAt
        rw [List.getD_eq_getElem?_getD, e4]
        rfl
      refine ⟨sp, _, rfl, .inl (s _ _ hsp), rfl, _, _, rfl, _, _, rfl, rfl, ?_⟩
      refine ⟨_, rfl, _, rfl, t, _, _, _, rfl, rfl, Sq.lst e1, e3, ?_⟩
      refine ⟨_, rfl, .inr ⟨_, rfl, ?_⟩⟩
      have hat : atI [V.int tt.1, V.int tt.2] (if st.2 = true then 1 else 0) = some (.int (faceAt ts st).1) := by
        rw [hf]
        unfold faceF
        by_cases c : st.2 = true
        · rw [if_pos c, if_pos c]; rfl
        · rw [if_neg c, if_neg c]; rfl
      refine ⟨tp, _, _, _, rfl, rfl, Sq.tup e5, hat, ?_⟩
      refine hN _ _ _ ⟨_, _, rfl, s, ?_⟩
      unfold leftsF
      rw [List.take_add_one, est]
      simp
    · rintro σ H2 ys ⟨a, b, rfl, s, rfl⟩ D H3 n3
      rw [v2, List.take_of_length_le (Nat.le_refl _)] at n3
      exact q D H3 (n3.free s) (s.trans n3.same) n3.is
abbrev s_l_mark : Stmt := top 20
theorem sc_l_mark : FnScope ["_law_lefts_here", "_law_cell", "_law_base"] ["_law_lefts_here", "_law_cell"] (defScope s_l_mark) := ⟨rfl, rfl, rfl, by decide +kernel, rfl, by decide +kernel, by decide +kernel⟩
theorem cs_l_mark_1_nd : (["_law_mark_here", "_law_lefts_here"] : List Str).Nodup := by decide +kernel
theorem ok_l_mark {f : Addr} {fd : FuncData} (F : Fun K "_law_mark" "_law_mark" s_l_mark f fd) (T : Blt mg) : FnOk P w K mg base CX0 1 f fd ["_law_lefts_here", "_law_cell"] spMark := by
  refine F.ok (k := 0) sc_l_mark (fun vs H Q E h => ?_) (fun cdv A outer s H vs Q E hr h => ?_)
  · obtain ⟨l, c, ns, rfl, _⟩ := h
    rfl
  · obtain ⟨l, c, ns, rfl, hl, hlen, q⟩ := h
    have hu := hu_of hr
    have hu8 := hu8_of hr
    refine ⟨_, (pss_mid (ps_if (PW.pt (pw_and (pt_cmpR op_gt (pe_op op_mod (pv 1) pe_int) pe_int (nomark _)) (pw_and1 (pt_cmpR (op_neNil hu8) (pv 0) (pe_lstN pa_nil) (nomark _))))) (pss_one (ps_ret (pe_ix ix_q (pv 0) (pe_op op_mod (pe_op op_fdiv (pv 1) pe_int) (pe_callB len_q rfl T.len bt_len (pa_cons (pv 0) pa_nil))) (fun _ _ => rfl)))) pss_nil)
      (pss_cons (ps_set (i := 2) sc_l_mark.nd rfl (Or.inl rfl) (pe_op op_mod (pe_op op_fdiv (pv 1) pe_int) (pe_op op_pow pe_int pe_int)))
      (pss_one (ps_ret (pe_ix ix_q (pe_lc rfl (compEq (osc := defScope s_l_mark) (N := ["_law_lefts_here", "_law_cell", "_law_base"]) (N' := ["_law_mark_here", "_law_lefts_here"]) (ix := [none, some 0]) (by decide +kernel)) (pi_range2L rfl T.range (pa_cons (pv 2) (pa_cons (pe_op op_add (pe_op op_add (pv 2) (pe_callB len_q rfl T.len bt_len (pa_cons (pv 0) pa_nil))) pe_int) pa_nil))) (fun _ _ _ _ => (pg_name (i := 0) cs_l_mark_1_nd rfl (Or.inl rfl))) (fun _ _ _ _ => (pts_one (pt_cmpR notIn_q (pv 0) (pv 1) (by with_unfolding_all rfl)))) (fun _ _ _ _ => (pv 0))) pe_int (fun _ _ => rfl)))))), ?_⟩
    refine ⟨fun σ H' => σ = [some (.ref l), some (.int c), none] ∧ Same H H', ?_, ?_⟩
    · refine ⟨_, rfl, _, _, rfl, rfl, (by show (0 : Int) < 4; decide), _, _, rfl, rfl, _, rfl, ?_⟩
      refine ite2 (fun _ => ?_) (fun _ => ⟨rfl, Same.refl _⟩)
      refine ⟨_, rfl, (by show 0 ≤ sizeLine; decide), fun z H1 n1 => ?_⟩
      have hl1 := n1.same _ _ hl
      refine ⟨l, z, _, rfl, rfl, .inl hl1, .inl n1.is, _, rfl, ?_⟩
      cases ns with
      | nil => exact ⟨rfl, n1.same⟩
      | cons n0 nr =>
        have hL : (0 : Int) < (((n0 :: nr).map V.int).length : Nat) := by simp
        have a0 := Int.emod_nonneg (c / 4) (show ((((n0 :: nr).map V.int).length : Nat) : Int) ≠ 0 by omega)
        have a1 := Int.emod_lt_of_pos (c / 4) hL
        refine ⟨_, rfl, _, rfl, _, _, rfl, rfl, ⟨by decide, by decide⟩, _, rfl, l, _, rfl, Sq.lst hl1, _, _, rfl, rfl, hL, ?_⟩
        refine ⟨l, _, _, _, rfl, rfl, Sq.lst hl1, atI_int (zs := n0 :: nr) a0 (Int.lt_of_lt_of_le a1 (by rw [List.length_map]; exact Int.le_refl _)), q _ H1 n1.same⟩
    · rintro σ H1 ⟨rfl, s1⟩
      have hl1 := s1 _ _ hl
      refine ⟨_, rfl, _, _, rfl, rfl, ⟨by decide, by decide⟩, _, _, rfl, rfl, ⟨by decide, by decide, by decide⟩, _, _, rfl, rfl, (by show (0 : Int) < 10 ^ Int.toNat 59; decide), ?_⟩
      refine ⟨_, rfl, _, rfl, _, rfl, l, _, rfl, Sq.lst hl1, _, _, rfl, rfl, _, _, rfl, rfl, c / 4 % 10 ^ Int.toNat 59, c / 4 % 10 ^ Int.toNat 59 + ((ns.map V.int).length : Nat) + 1, rfl, ?_⟩
      generalize c / 4 % 10 ^ Int.toNat 59 = b
      rw [List.length_map, show b + (ns.length : Nat) + 1 - b = ((ns.length + 1 : Nat) : Int) by omega, Int.toNat_natCast]
      refine lc_rangeB (fun i σ H2 ys => ∃ v, σ = [v, some (.ref l)] ∧ Same H1 H2 ∧ ys = (((List.range i).map fun k : Nat => b + (k : Int)).filter fun x => decide (x ∉ ns)).map V.int) ⟨none, rfl, Same.refl _, rfl⟩
        (fun i σ H2 ys hi ⟨_, _, _, e⟩ => ?_) (small1e4 (by omega)) ?_ ?_
      · rw [e, List.length_map]
        exact Nat.le_trans (List.length_filter_le _ _) (by simp)
      · rintro i σ H2 ys N hN hi ⟨v, rfl, s2, rfl⟩
        have key : ((List.range (i + 1)).map fun k : Nat => b + (k : Int)).filter (fun x => decide (x ∉ ns)) = ((List.range i).map fun k : Nat => b + (k : Int)).filter (fun x => decide (x ∉ ns)) ++ if decide (b + (i : Int) ∉ ns) = true then [b + (i : Int)] else [] := by
          rw [List.range_succ, List.map_append, List.filter_append]
          congr 1
          simp only [List.map_cons, List.map_nil, List.filter_cons, List.filter_nil]
        refine ⟨_, rfl, _, rfl, l, _, ns, rfl, rfl, .inl (s2 _ _ hl1), _, rfl, ?_⟩
        by_cases hm : b + (i : Int) ∈ ns
        · rw [decide_eq_true hm]
          refine hN _ _ _ ⟨_, rfl, s2, ?_⟩
          rw [key, if_neg (by simpa using hm), List.append_nil]
        · rw [decide_eq_false hm]
          refine ⟨_, rfl, hN _ _ _ ⟨_, rfl, s2, ?_⟩⟩
          rw [key, if_pos (decide_eq_true hm), List.map_append]
          rfl
      · rintro σ H2 ys ⟨v, rfl, s2, rfl⟩ D H3 n3
        obtain ⟨k, hk, hkn⟩ := pigeon ns b
        have hmem : b + (k : Int) ∈ ((List.range (ns.length + 1)).map fun k : Nat => b + (k : Int)).filter (fun x => decide (x ∉ ns)) :=
          List.mem_filter.mpr ⟨List.mem_map.mpr ⟨k, List.mem_range.mpr hk, rfl⟩, decide_eq_true hkn⟩
        generalize ((List.range (ns.length + 1)).map fun k : Nat => b + (k : Int)).filter (fun x => decide (x ∉ ns)) = fs at n3 hmem
        cases fs with
        | nil => exact absurd hmem (by simp)
        | cons f0 fr => exact ⟨D, _, _, _, rfl, rfl, Sq.lst n3.is, atI_nat (j := 0) rfl, q f0 H3 (s1.trans (s2.trans n3.same))⟩
abbrev s_l_refused : Stmt := top 21
theorem sc_l_refused : FnScope ["_law_tiles_here", "_law_ring", "_law_mark_here", "e"] ["_law_tiles_here", "_law_ring", "_law_mark_here"] (defScope s_l_refused) := ⟨rfl, rfl, rfl, by decide +kernel, rfl, by decide +kernel, by decide +kernel⟩
theorem ok_l_refused {f : Addr} {fd : FuncData} (F : Fun K "_law_refused" "_law_refused" s_l_refused f fd) (T : Blt mg) {a_NoMark : Addr} (h_NoMark : mg "NoMark" = some (.ref a_NoMark)) {a_NoTile : Addr} (h_NoTile : mg "NoTile" = some (.ref a_NoTile)) {a_TileError : Addr} (h_TileError : mg "TileError" = some (.ref a_TileError)) (hx_NoMark : XCls K a_NoMark) (XK : XKit K a_NoMark a_TileError a_NoTile) (cx_begun_at : CalleeX P w K mg base 3 "begun_at" ["tiles", "ring", "mark"] (spBegunX a_NoMark)) : FnOk P w K mg base CX0 4 f fd ["_law_tiles_here", "_law_ring", "_law_mark_here"] spRefused5 := by
  refine F.ok (k := 3) sc_l_refused (fun vs H Q E h => ?_) (fun cdv A outer s H vs Q E hr h => ?_)
  · obtain ⟨t, r, ts, row, m, rfl, _⟩ := h
    rfl
  · obtain ⟨t, r, ts, row, m, rfl, hT, hR, hin, hlen, hno, q⟩ := h
    have hu := hu_of hr
    have hu8 := hu8_of hr
    refine ⟨_, (pss_cons (ps_tryE (X := (cxOf CX0 P w K mg base ["_law_tiles_here", "_law_ring", "_law_mark_here", "e"] "_law_refused" (defScope s_l_refused) f cdv A outer s H E).nox) (i := 3) cx_begun_at (hr.mono (by decide)) rfl (pa_cons (pv 0) (pa_cons (pv 1) (pa_cons (pv 2) pa_nil))) h_TileError rfl rfl rfl rfl sc_l_refused.nd rfl rfl (by exact fun _ _ => (pss_one (ps_ret (pe_and (pe_isiB K rfl T.isi T.verr bt_ValueError rfl rfl (pv 3)) (pe_and (pe_isiO K rfl T.isi h_NoMark rfl rfl (pv 3)) (pe_one (pe_not (pe_isiO K rfl T.isi h_NoTile rfl rfl (pv 3))))))))))
      (pss_one (ps_ret pe_bl))), ?_⟩
    refine ⟨_, rfl, _, rfl, _, rfl, t, r, ts, row, m, rfl, hT, hR, hin, hlen, hno, fun H1 s1 => ⟨a_NoMark, rfl, XK.exm, fun y H3 n3 => ?_⟩⟩
    refine ⟨_, rfl, y, _, _, rfl, n3.is, hx_NoMark, XK.kv, _, rfl, ?_⟩
    refine ⟨_, rfl, y, _, _, rfl, n3.is, hx_NoMark, XK.ks, _, rfl, ?_⟩
    exact ⟨_, rfl, y, _, _, rfl, n3.is, hx_NoMark, XK.ko, _, rfl, q H3 (s1.trans n3.same)⟩
abbrev s_l_holds : Stmt := top 22
theorem sc_l_holds : FnScope ["_law_tiles_here", "_law_ring", "_law_mark_here", "_law_lefts_here", "_law_handed", "_law_at", "_law_due", "_law_found"] ["_law_tiles_here", "_law_ring", "_law_mark_here"] (defScope s_l_holds) := ⟨rfl, rfl, rfl, by decide +kernel, rfl, by decide +kernel, by decide +kernel⟩
theorem cs_l_holds_1_nd : (["_law_step_here"] : List Str).Nodup := by decide +kernel
theorem ok_l_holds {f : Addr} {fd : FuncData} (F : Fun K "_law_holds" "_law_holds" s_l_holds f fd) (T : Blt mg) (KT : Kit K) (c_l_lefts : Callee P w K mg base 1 "_law_lefts" ["_law_tiles_here", "_law_ring"] spLefts) (c_l_refused : Callee P w K mg base 4 "_law_refused" ["_law_tiles_here", "_law_ring", "_law_mark_here"] spRefused5) (c_begun_at : Callee P w K mg base 3 "begun_at" ["tiles", "ring", "mark"] spBegun) (c_l_step : Callee P w K mg base 2 "_law_step" ["_law_step_here"] spStep) : FnOk P w K mg base CX0 5 f fd ["_law_tiles_here", "_law_ring", "_law_mark_here"] spHolds := by
  refine F.ok (k := 4) sc_l_holds (fun vs H Q E h => ?_) (fun cdv A outer s H vs Q E hr h => ?_)
  · obtain ⟨t, r, ts, row, m, rfl, _⟩ := h
    rfl
  · obtain ⟨t, r, ts, row, m, rfl, hT, hR, hin, hlen, q⟩ := h
    have hu := hu_of hr
    have hu8 := hu8_of hr
    refine ⟨_, (pss_cons (ps_set (i := 3) sc_l_holds.nd rfl (Or.inl rfl) (pe_callee c_l_lefts (hr.mono (by decide)) rfl (pa_cons (pv 0) (pa_cons (pv 1) pa_nil))))
      (pss_cons (ps_set (i := 4) sc_l_holds.nd rfl (Or.inl rfl) (pe_lstN (pa_cons (pe_callTy list_q rfl T.list bt_list (pa_cons (pv 0) pa_nil)) (pa_cons (pe_callTy list_q rfl T.list bt_list (pa_cons (pv 1) pa_nil)) pa_nil))))
      (pss_cons (ps_if (pt_cmpR notIn_q (pv 2) (pv 3) (by with_unfolding_all rfl)) (pss_one (ps_ret (pe_and (pe_callee c_l_refused (hr.mono (by decide)) rfl (pa_cons (pe_ix ix_q (pv 4) pe_int (fun _ _ => rfl)) (pa_cons (pe_ix ix_q (pv 4) pe_int (fun _ _ => rfl)) (pa_cons (pv 2) pa_nil)))) (pe_one (pe_cmpR (op_eqT hu8) (pv 4) (pe_lstN (pa_cons (pv 0) (pa_cons (pv 1) pa_nil))) (nomark _)))))) pss_nil)
      (pss_cons (ps_set (i := 5) sc_l_holds.nd rfl (Or.inl rfl) (pe_index (pv 3) (pv 2)))
      (pss_cons (ps_set (i := 6) sc_l_holds.nd rfl (Or.inl rfl) (pe_op cat_q (pe_slice sl_q (pv 1) (po_some (pv 5)) po_none) (pe_slice sl_q (pv 1) po_none (po_some (pv 5)))))
      (pss_cons (ps_set (i := 7) sc_l_holds.nd rfl (Or.inl rfl) (pe_callee c_begun_at (hr.mono (by decide)) rfl (pa_cons (pe_ix ix_q (pv 4) pe_int (fun _ _ => rfl)) (pa_cons (pe_ix ix_q (pv 4) pe_int (fun _ _ => rfl)) (pa_cons (pv 2) pa_nil)))))
      (pss_cons (ps_if (PW.pt (pw_or (pt_not (pt_val (pe_isi T.isi T.list bt_list rfl rfl (pv 7)))) (pw_or1 (pt_cmpR (op_neNil hu8) (pe_lc rfl (compEq (osc := defScope s_l_holds) (N := ["_law_tiles_here", "_law_ring", "_law_mark_here", "_law_lefts_here", "_law_handed", "_law_at", "_law_due", "_law_found"]) (N' := ["_law_step_here"]) (ix := [none]) (by decide +kernel)) (pi_listQ (pv 7)) (fun _ _ _ _ => (pg_name (i := 0) cs_l_holds_1_nd rfl (Or.inl rfl))) (fun _ _ _ _ => (pts_one (pt_not (pt_val (pe_callee c_l_step (hr.mono (by decide)) rfl (pa_cons (pv 0) pa_nil)))))) (fun _ _ _ _ => (pv 0))) (pe_lstN pa_nil) (nomark _))))) (pss_one (ps_ret pe_bl)) pss_nil)
      (pss_cons (ps_if (pt_cmpR (op_neT hu8) (pv 7) (pv 6) (nomark _)) (pss_one (ps_ret pe_bl)) pss_nil)
      (pss_cons (ps_appQ (pv 7) (pe_tupN (pa_cons pe_int (pa_cons pe_bl pa_nil))))
      (pss_one (ps_ret (pe_cmpR (op_eqT hu8) (pv 4) (pe_lstN (pa_cons (pv 0) (pa_cons (pv 1) pa_nil))) (nomark _))))))))))))), ?_⟩
    refine ⟨_, rfl, _, rfl, t, r, ts, row, rfl, hT, hR, hin, hlen, fun ll H1 _ s1 hll => ?_⟩
    have hT1 := hT.same s1
    have hR1 := hR.same s1
    obtain ⟨tw0, tw1, tw2⟩ := hT1.len
    obtain ⟨rw0, rw1, rw2⟩ := hR1.len
    refine ⟨_, rfl, t, _, rfl, Sq.lst tw1, fun ct H2 n2 => ?_⟩
    refine ⟨_, rfl, r, _, rfl, Sq.lst (n2.same _ _ rw1), fun cr H3 n3 => ?_⟩
    refine ⟨(by show 2 ≤ sizeLine; decide), fun hd H4 n4 => ?_⟩
    have htc : Til H4 ct ts := ((hT1.copy n2.same fun vs e => by rw [tw1] at e; cases e; exact n2.is).same n3.same).same n4.same
    have hrc : Row H4 cr row := ((hR1.same n2.same).copy n3.same fun vs e => by rw [n2.same _ _ rw1] at e; cases e; exact n3.is).same n4.same
    have s14 : Same H1 H4 := n2.same.trans (n3.same.trans n4.same)
    have s4 := s1.trans s14
    have hll4 := s14 _ _ hll
    have fin : ∀ H5, Same H4 H5 → ∀ nl H6, New H5 nl (.lst [.ref t, .ref r]) H6 → EqR H6 6 (.ref hd) (.ref nl) := fun H5 s5 nl H6 n6 => by
      have s6 := s5.trans n6.same
      refine EqR.list (s6 _ _ n4.is) n6.is rfl (fun i x y e1 e2 => ?_)
      match i, e1, e2 with
      | 0, e1, e2 =>
        cases e1; cases e2
        exact ((htc.same s6).eqT ((hT.same s4).same s6) flT (n := 4)).toT
      | 1, e1, e2 =>
        cases e1; cases e2
        exact ((hrc.same s6).eqT ((hR.same s4).same s6) flS (n := 4)).toT
      | i + 2, e1, e2 => cases e1
    refine ⟨_, rfl, _, rfl, ll, m, _, rfl, rfl, .inl hll4, _, rfl, ?_⟩
    by_cases hm : m ∈ leftsF ts row
    rotate_left
    · rw [decide_eq_false hm]
      refine ⟨_, rfl, hd, _, _, _, rfl, rfl, Sq.lst n4.is, rfl, _, rfl, hd, _, _, _, rfl, rfl, Sq.lst n4.is, rfl, _, rfl, ct, cr, ts, row, m, rfl, htc, hrc, hin, hlen, hm, fun H5 s5 => ⟨_, rfl, ?_⟩⟩
      exact ⟨_, rfl, _, rfl, _, rfl, (by show 2 ≤ sizeLine; decide), fun nl H6 n6 => ⟨fin H5 s5 nl H6 n6, q H6 (s4.trans (s5.trans n6.same))⟩⟩
    rw [decide_eq_true hm]
    obtain ⟨j, hj, hjno⟩ := first_ix hm
    refine ⟨_, rfl, ll, _, rfl, hll4, _, rfl, m, j, rfl, hll4, hj, hjno, ?_⟩
    have hR4 := hR.same s4
    obtain ⟨vr, vr1, vr2⟩ := hR4.len
    refine ⟨_, rfl, _, rfl, _, rfl, r, _, rfl, .inl vr1, fun a1 H5 n5 => ?_⟩
    refine ⟨_, rfl, _, rfl, _, rfl, r, _, rfl, .inl (n5.same _ _ vr1), fun a2 H6 n6 => ?_⟩
    rw [cutV_lo (by omega), Int.toNat_natCast] at n5
    rw [cutV_hi (by omega), Int.toNat_natCast] at n6
    refine ⟨a1, a2, _, _, rfl, rfl, n6.same _ _ n5.is, n6.is, small1e4 (by rw [List.length_drop, List.length_take]; omega), fun ld H7 n7 => ?_⟩
    have hdue : Row H7 ld (row.drop j ++ row.take j) := hR4.rot vr1 n5 n6 n7
    have s47 : Same H4 H7 := n5.same.trans (n6.same.trans n7.same)
    have hd7 := s47 _ _ n4.is
    refine ⟨_, rfl, hd, _, _, _, rfl, rfl, Sq.lst hd7, rfl, _, rfl, hd, _, _, _, rfl, rfl, Sq.lst hd7, rfl, _, rfl, ct, cr, ts, row, m, j, rfl, htc.same s47, hrc.same s47, hin, hlen, hj, hjno, fun lf H8 hlf s8 hf => ?_⟩
    obtain ⟨fv, f1, fg⟩ := hf.tg
    have f2 := fg.len
    have f3 : fv.length ≤ 2000 := by rw [f2, List.length_append, List.length_drop, List.length_take]; omega
    refine ⟨_, rfl, _, _, .lst f1, KT.ll, _, rfl, ?_⟩
    refine ⟨_, rfl, lf, _, rfl, .inl f1, lc_listB (xs := fv) (fun i σ H9 ys => ∃ v, σ = [v] ∧ Same H8 H9 ∧ ys = []) ⟨none, rfl, Same.refl _, rfl⟩
      (fun i σ H9 ys hi ⟨_, _, s, e⟩ => ⟨.inl (s _ _ f1), by rw [e]; exact Nat.zero_le _⟩) (small1e4 (by omega)) ?_ ?_⟩
    · rintro i x σ H9 ys N hN hx ⟨v, rfl, s, rfl⟩
      obtain ⟨sp, st, rfl, est, hsp⟩ := fg.get hx
      exact ⟨_, rfl, sp, st, rfl, s _ _ hsp, _, rfl, hN _ _ _ ⟨_, rfl, s, rfl⟩⟩
    rintro σ H9 ys ⟨v, rfl, s9, rfl⟩ D H10 n10
    refine ⟨(by show 0 ≤ sizeLine; decide), fun z H11 n11 => ?_⟩
    refine ⟨D, z, _, rfl, rfl, .inl (n11.same _ _ n10.is), .inl n11.is, _, rfl, ?_⟩
    have s811 := s9.trans (n10.same.trans n11.same)
    have s711 := s8.trans s811
    refine ⟨_, rfl, _, rfl, (hf.same s811).eqT (hdue.same s711) flS (n := 5), _, rfl, ?_⟩
    have f11 := s811 _ _ f1
    refine ⟨_, rfl, lf, _, rfl, f11, (by show 2 ≤ sizeLine; decide), fun tp H12 n12 => ?_⟩
    refine ⟨_, n12.same _ _ f11, small1e4L (by omega), fun H13 c13 => ?_⟩
    have s13 : Same H7 H13 := c13.same (s711.trans n12.same) hlf
    exact ⟨_, rfl, _, rfl, _, rfl, (by show 2 ≤ sizeLine; decide), fun nl H14 n14 => ⟨fin H13 (s47.trans s13) nl H14 n14, q H14 (s4.trans ((s47.trans s13).trans n14.same))⟩⟩
abbrev s_law : Stmt := top 23
theorem sc_law : FnScope ["_law_script", "_law_names_here", "_law_aside", "_law_numbers_here", "_law_parts", "_law_order_here", "_law_tiles_here", "_law_ring", "_law_lefts_here", "_law_mark_here", "_law_at"] ["_law_script"] (defScope s_law) := ⟨rfl, rfl, rfl, by decide +kernel, rfl, by decide +kernel, by decide +kernel⟩
theorem ok_law {f : Addr} {fd : FuncData} (F : Fun K "law" "law" s_law f fd) (T : Blt mg) (c_l_names : Callee P w K mg base 1 "_law_names" ["_law_cell", "_law_far"] spNames) (c_l_cell_at : Callee P w K mg base 1 "_law_cell_at" ["_law_script", "_law_k"] (spCell K)) (c_l_numbers : Callee P w K mg base 1 "_law_numbers" ["_law_cells", "_law_more", "_law_most"] spNumbers) (c_l_walk : Callee P w K mg base 1 "_law_walk" ["_law_numbers_here", "_law_names_here", "_law_closed"] spWalk) (c_l_order : Callee P w K mg base 1 "_law_order" ["_law_numbers_here", "_law_size", "_law_way"] spOrder) (c_l_tiles : Callee P w K mg base 2 "_law_tiles" ["_law_parts", "_law_order_here"] spTiles) (c_l_laid : Callee P w K mg base 1 "_law_laid" ["_law_parts", "_law_order_here"] spLaid) (c_l_lefts : Callee P w K mg base 1 "_law_lefts" ["_law_tiles_here", "_law_ring"] spLefts) (c_l_mark : Callee P w K mg base 1 "_law_mark" ["_law_lefts_here", "_law_cell"] spMark) (c_l_holds : Callee P w K mg base 5 "_law_holds" ["_law_tiles_here", "_law_ring", "_law_mark_here"] spHolds) : FnOk P w K mg base CX0 6 f fd ["_law_script"] (spLaw K) := by
  refine F.ok (k := 5) sc_law (fun vs H Q E h => ?_) (fun cdv A outer s H vs Q E hr h => ?_)
  · obtain ⟨a, ns, rfl, _⟩ := h
    rfl
  · obtain ⟨a, ns, rfl, hS, h63, k⟩ := h
    have hu := hu_of hr
    have hu8 := hu8_of hr
    refine ⟨_, (pss_cons (ps_set (i := 1) sc_law.nd rfl (Or.inl rfl) (pe_callee c_l_names (hr.mono (by decide)) rfl (pa_cons (pe_callee c_l_cell_at (hr.mono (by decide)) rfl (pa_cons (pv 0) (pa_cons pe_int pa_nil))) (pa_cons (pe_callee c_l_cell_at (hr.mono (by decide)) rfl (pa_cons (pv 0) (pa_cons pe_int pa_nil))) pa_nil))))
      (pss_cons (ps_set (i := 2) sc_law.nd rfl (Or.inl rfl) (pe_callee c_l_cell_at (hr.mono (by decide)) rfl (pa_cons (pv 0) (pa_cons pe_int pa_nil))))
      (pss_cons (ps_set (i := 3) sc_law.nd rfl (Or.inl rfl) (pe_callee c_l_numbers (hr.mono (by decide)) rfl (pa_cons (pe_slice sl_list (pv 0) (po_some pe_int) po_none) (pa_cons (pe_cmpR op_eq (pe_op op_mod (pv 2) pe_int) pe_int (nomark _)) (pa_cons pe_int pa_nil)))))
      (pss_cons (ps_set (i := 4) sc_law.nd rfl (Or.inl rfl) (pe_callee c_l_walk (hr.mono (by decide)) rfl (pa_cons (pv 3) (pa_cons (pv 1) (pa_cons pe_bl pa_nil)))))
      (pss_cons (ps_set (i := 5) sc_law.nd rfl (Or.inl rfl) (pe_callee c_l_order (hr.mono (by decide)) rfl (pa_cons (pv 3) (pa_cons (pe_callB len_q rfl T.len bt_len (pa_cons (pv 4) pa_nil)) (pa_cons (pe_op op_fdiv (pv 2) pe_int) pa_nil)))))
      (pss_cons (ps_set (i := 6) sc_law.nd rfl (Or.inl rfl) (pe_callee c_l_tiles (hr.mono (by decide)) rfl (pa_cons (pv 4) (pa_cons (pv 5) pa_nil))))
      (pss_cons (ps_set (i := 7) sc_law.nd rfl (Or.inl rfl) (pe_callee c_l_laid (hr.mono (by decide)) rfl (pa_cons (pv 4) (pa_cons (pv 5) pa_nil))))
      (pss_cons (ps_set (i := 8) sc_law.nd rfl (Or.inl rfl) (pe_callee c_l_lefts (hr.mono (by decide)) rfl (pa_cons (pv 6) (pa_cons (pv 7) pa_nil))))
      (pss_cons (ps_set (i := 9) sc_law.nd rfl (Or.inl rfl) (pe_callee c_l_mark (hr.mono (by decide)) rfl (pa_cons (pv 8) (pa_cons (pe_callee c_l_cell_at (hr.mono (by decide)) rfl (pa_cons (pv 0) (pa_cons pe_int pa_nil))) pa_nil))))
      (pss_cons (ps_if (pt_not (pt_val (pe_callee c_l_holds (hr.mono (by decide)) rfl (pa_cons (pv 6) (pa_cons (pv 7) (pa_cons (pv 9) pa_nil)))))) (pss_one (ps_ret pe_bl)) pss_nil)
      (pss_mid (ps_if (pt_cmpR in_q (pv 9) (pv 8) (by with_unfolding_all rfl)) (pss_cons (ps_set (i := 10) sc_law.nd rfl (Or.inl rfl) (pe_index (pv 8) (pv 9)))
       (pss_one (ps_set (i := 7) sc_law.nd rfl (Or.inl rfl) (pe_op cat_q (pe_slice sl_q (pv 7) (po_some (pv 10)) po_none) (pe_slice sl_q (pv 7) po_none (po_some (pv 10))))))) pss_nil)
      (pss_one (ps_ret (pe_callee c_l_holds (hr.mono (by decide)) rfl (pa_cons (pv 6) (pa_cons (pv 7) (pa_cons (pe_callee c_l_mark (hr.mono (by decide)) rfl (pa_cons (pv 8) (pa_cons (pe_op op_fdiv (pv 2) pe_int) pa_nil))) pa_nil))))))))))))))))), ?_⟩
    refine ⟨_, rfl, a, ns, 0, rfl, hS, by decide, _, rfl, a, ns, 1, rfl, hS, by decide, _, _, rfl, fun ln zn H1 z1 z40 _ s1 hn => ?_⟩
    refine ⟨_, rfl, a, ns, 2, rfl, s1.seq hS, by decide, ?_⟩
    generalize ns.getD (Int.toNat 2) 0 = av
    refine ⟨_, rfl, _, rfl, a, _, rfl, s1.seq hS, fun cp hcp => ?_⟩
    have n2 := New.upd (o := .lst (cutV (ns.map V.int) (some 4) none)) hcp
    generalize upd H1 cp (.lst (cutV (ns.map V.int) (some 4) none)) = H2 at n2 ⊢
    rw [cutV_lo (by decide), map_drop_int] at n2
    have s2 := s1.trans n2.same
    refine ⟨_, rfl, _, _, rfl, rfl, (by show (0 : Int) < 8; decide), rfl, cp, _, _, _, rfl, n2.is, by decide, (by rw [List.length_drop]; omega), fun lz zz H3 zm z126 z0 _ s3' hz => ?_⟩
    have s3 := s2.trans s3'
    have hn3 := s3' _ _ (n2.same _ _ hn)
    refine ⟨_, rfl, _, rfl, lz, ln, zz, zn, _, rfl, hz, hn3, z0, z126, z1, z40, fun lp H4 _ s4' hp => ?_⟩
    have s4 := s3.trans s4'
    generalize hps : walkF zz zn _ = ps at hp
    have hpl : ps.length ≤ zz.length := by rw [← hps]; exact walkTo_le _ _ _ _
    obtain ⟨pv0, pv1, pv2⟩ := hp.len
    refine ⟨_, rfl, _, rfl, lp, _, rfl, Sq.lst pv1, _, rfl, _, _, rfl, rfl, ⟨by decide, by decide⟩, lz, zz, _, _, rfl, s4' _ _ hz, (by omega), (by rw [pv2]; omega), z126, fun lo os H5 po _ s5' ho => ?_⟩
    rw [pv2, Int.toNat_natCast] at po
    have s5 := s4.trans s5'
    have hp5 := hp.same s5'
    have hol : os.length = ps.length := by rw [po.length_eq]; simp
    refine ⟨_, rfl, _, rfl, lp, lo, ps, os, rfl, hp5, ho, (fun x hx => List.mem_range.mp (po.mem_iff.mp hx)), (by omega), fun lt H6 _ s6' ht => ?_⟩
    have s6 := s5.trans s6'
    have htl : (os.map (fun k => tileF (ps.getD k (0, 0, false)))).length = os.length := List.length_map _
    generalize hts : os.map (fun k => tileF (ps.getD k (0, 0, false))) = ts at ht htl
    refine ⟨_, rfl, _, rfl, lp, lo, ps, os, rfl, hp5.same s6', s6' _ _ ho, po, (by omega), fun lr row H7 hla _ s7' hr7 => ?_⟩
    have s7 := s6.trans s7'
    have ht7 := ht.same s7'
    have hrl : row.length ≤ 1000 := by have := hla.1; omega
    have hall : allIn ts row := fun st hst => by
      obtain ⟨kk, hk⟩ := List.mem_iff_getElem?.mp hst
      obtain ⟨i, hi, ex⟩ := hla.2 kk st hk
      have hil := lt_of_get hi
      rw [ex]
      exact ⟨by show (0 : Int) ≤ i; omega, by show (i : Int) < ts.length; omega⟩
    refine ⟨_, rfl, _, rfl, lt, lr, ts, row, rfl, ht7, hr7, hall, hrl, fun ll H8 _ s8' hll => ?_⟩
    have s8 := s7.trans s8'
    have hlfl : (leftsF ts row).length ≤ 1000 := by rw [lefts_len]; exact hrl
    refine ⟨_, rfl, _, rfl, a, ns, 3, rfl, s8.seq hS, by decide, ll, _, _, rfl, hll, hlfl, fun m H9 s9' => ?_⟩
    have ht9 := (ht7.same s8').same s9'
    have hr9 := (hr7.same s8').same s9'
    refine ⟨_, rfl, _, rfl, _, rfl, lt, lr, ts, row, m, rfl, ht9, hr9, hall, hrl, fun H10 s10' => ⟨_, rfl, ?_⟩⟩
    have ht10 := ht9.same s10'
    have hr10 := hr9.same s10'
    have hll10 := s10' _ _ (s9' _ _ hll)
    refine ⟨fun σ H' => ∃ (lr' : Addr) (row' : List (Int × Bool)) (xv : Option V), σ = [some (.ref a), some (.ref ln), some (.int av), some (.ref lz), some (.ref lp), some (.ref lo), some (.ref lt), some (.ref lr'), some (.ref ll), some (.int m), xv] ∧ Same H10 H' ∧ Row H' lr' row' ∧ allIn ts row' ∧ row'.length ≤ 1000, ?_, ?_⟩
    · refine ⟨_, rfl, _, rfl, ll, m, _, rfl, rfl, .inl hll10, _, rfl, ?_⟩
      by_cases hm : m ∈ leftsF ts row
      rotate_left
      · rw [decide_eq_false hm]
        exact ⟨lr, row, none, rfl, Same.refl _, hr10, hall, hrl⟩
      rw [decide_eq_true hm]
      obtain ⟨j, hj, hjno⟩ := first_ix hm
      refine ⟨_, rfl, ll, _, rfl, hll10, _, rfl, m, j, rfl, hll10, hj, hjno, ?_⟩
      obtain ⟨vr, vr1, vr2⟩ := hr10.len
      refine ⟨_, rfl, _, rfl, _, rfl, lr, _, rfl, .inl vr1, fun a1 H11 n11 => ?_⟩
      refine ⟨_, rfl, _, rfl, _, rfl, lr, _, rfl, .inl (n11.same _ _ vr1), fun a2 H12 n12 => ?_⟩
      rw [cutV_lo (by omega), Int.toNat_natCast] at n11
      rw [cutV_hi (by omega), Int.toNat_natCast] at n12
      refine ⟨a1, a2, _, _, rfl, rfl, n12.same _ _ n11.is, n12.is, small1e4 (by rw [List.length_drop, List.length_take]; omega), fun ld H13 n13 => ?_⟩
      exact ⟨ld, row.drop j ++ row.take j, _, rfl, n11.same.trans (n12.same.trans n13.same), hr10.rot vr1 n11 n12 n13, hall.rot j, by rw [List.length_append, List.length_drop, List.length_take]; omega⟩
    · rintro σ H11 ⟨lr', row', xv, rfl, s11, hr', hall', hl'⟩
      refine ⟨_, rfl, _, rfl, _, rfl, _, rfl, _, _, rfl, rfl, ⟨by decide, by decide⟩, ll, _, _, rfl, s11 _ _ hll10, hlfl, fun m2 H12 s12 => ?_⟩
      exact ⟨lt, lr', ts, row', m2, rfl, (ht10.same s11).same s12, hr'.same s12, hall', hl', fun H13 s13 => k H13⟩
end
theorem all_mk {l : PySem.W.OpenLaw} {w : World} {K : PySem.W.Frag} {h : Heap} {mg : Str → Option Value} {fa : Addr} (X : K.In h) (G : h.Ns mainGlobals mg) (hfa : mg "law" = some (.ref fa)) {f1 : Addr} {od1 an1 : Option Addr} {sl1 : Array (Option Value)} {oc1 kV1 dc1 pm1 cd1 ct1 : Value} {f2 : Addr} {od2 an2 : Option Addr} {sl2 : Array (Option Value)} {oc2 kV2 dc2 pm2 cd2 ct2 : Value} {f3 : Addr} {od3 an3 : Option Addr} {sl3 : Array (Option Value)} {oc3 kV3 dc3 pm3 cd3 ct3 : Value} {f4 : Addr} {od4 an4 : Option Addr} {sl4 : Array (Option Value)} {oc4 kV4 dc4 pm4 cd4 ct4 : Value} {f5 : Addr} {od5 an5 : Option Addr} {sl5 : Array (Option Value)} {oc5 kV5 dc5 pm5 cd5 ct5 : Value} {f6 : Addr} {od6 an6 : Option Addr} {sl6 : Array (Option Value)} {oc6 kV6 dc6 pm6 cd6 ct6 : Value} {f7 : Addr} {od7 an7 : Option Addr} {sl7 : Array (Option Value)} {oc7 kV7 dc7 pm7 cd7 ct7 : Value} {f8 : Addr} {od8 an8 : Option Addr} {sl8 : Array (Option Value)} {oc8 kV8 dc8 pm8 cd8 ct8 : Value} {f9 : Addr} {od9 an9 : Option Addr} {sl9 : Array (Option Value)} {oc9 kV9 dc9 pm9 cd9 ct9 : Value} {f10 : Addr} {od10 an10 : Option Addr} {sl10 : Array (Option Value)} {oc10 kV10 dc10 pm10 cd10 ct10 : Value} {f11 : Addr} {od11 an11 : Option Addr} {sl11 : Array (Option Value)} {oc11 kV11 dc11 pm11 cd11 ct11 : Value} {f12 : Addr} {od12 an12 : Option Addr} {sl12 : Array (Option Value)} {oc12 kV12 dc12 pm12 cd12 ct12 : Value} {f13 : Addr} {od13 an13 : Option Addr} {sl13 : Array (Option Value)} {oc13 kV13 dc13 pm13 cd13 ct13 : Value} {f14 : Addr} {od14 an14 : Option Addr} {sl14 : Array (Option Value)} {oc14 kV14 dc14 pm14 cd14 ct14 : Value} {f15 : Addr} {od15 an15 : Option Addr} {sl15 : Array (Option Value)} {oc15 kV15 dc15 pm15 cd15 ct15 : Value} {f16 : Addr} {od16 an16 : Option Addr} {sl16 : Array (Option Value)} {oc16 kV16 dc16 pm16 cd16 ct16 : Value} {f17 : Addr} {od17 an17 : Option Addr} {sl17 : Array (Option Value)} {oc17 kV17 dc17 pm17 cd17 ct17 : Value} {f18 : Addr} {od18 an18 : Option Addr} {sl18 : Array (Option Value)} {oc18 kV18 dc18 pm18 cd18 ct18 : Value} {a_NoMark : Addr} {a_NoTile : Addr} {a_TileError : Addr}
    (a1 : PySem.W.nsIn K mainGlobals "has_tile" = some (some (.ref f1))) (l1 : K.lookup f1 = some ⟨oc1, od1, .func (PySem.W.fnOf "has_tile" "has_tile" (defArgs s_has_tile) (defBody s_has_tile) (defScope s_has_tile) .none kV1 dc1 pm1 an1 cd1 ct1), sl1⟩) (c1 : PySem.W.codeIn K cd1 "has_tile" = true) (k1 : PySem.W.keepIn K (.ref f1) = true)
    (a2 : PySem.W.nsIn K mainGlobals "faces" = some (some (.ref f2))) (l2 : K.lookup f2 = some ⟨oc2, od2, .func (PySem.W.fnOf "faces" "faces" (defArgs s_faces) (defBody s_faces) (defScope s_faces) .none kV2 dc2 pm2 an2 cd2 ct2), sl2⟩) (c2 : PySem.W.codeIn K cd2 "faces" = true) (k2 : PySem.W.keepIn K (.ref f2) = true)
    (a3 : PySem.W.nsIn K mainGlobals "begun_at" = some (some (.ref f3))) (l3 : K.lookup f3 = some ⟨oc3, od3, .func (PySem.W.fnOf "begun_at" "begun_at" (defArgs s_begun_at) (defBody s_begun_at) (defScope s_begun_at) .none kV3 dc3 pm3 an3 cd3 ct3), sl3⟩) (c3 : PySem.W.codeIn K cd3 "begun_at" = true) (k3 : PySem.W.keepIn K (.ref f3) = true)
    (a4 : PySem.W.nsIn K mainGlobals "_law_cell_at" = some (some (.ref f4))) (l4 : K.lookup f4 = some ⟨oc4, od4, .func (PySem.W.fnOf "_law_cell_at" "_law_cell_at" (defArgs s_l_cell_at) (defBody s_l_cell_at) (defScope s_l_cell_at) .none kV4 dc4 pm4 an4 cd4 ct4), sl4⟩) (c4 : PySem.W.codeIn K cd4 "_law_cell_at" = true) (k4 : PySem.W.keepIn K (.ref f4) = true)
    (a5 : PySem.W.nsIn K mainGlobals "_law_whole" = some (some (.ref f5))) (l5 : K.lookup f5 = some ⟨oc5, od5, .func (PySem.W.fnOf "_law_whole" "_law_whole" (defArgs s_l_whole) (defBody s_l_whole) (defScope s_l_whole) .none kV5 dc5 pm5 an5 cd5 ct5), sl5⟩) (c5 : PySem.W.codeIn K cd5 "_law_whole" = true) (k5 : PySem.W.keepIn K (.ref f5) = true)
    (a6 : PySem.W.nsIn K mainGlobals "_law_names" = some (some (.ref f6))) (l6 : K.lookup f6 = some ⟨oc6, od6, .func (PySem.W.fnOf "_law_names" "_law_names" (defArgs s_l_names) (defBody s_l_names) (defScope s_l_names) .none kV6 dc6 pm6 an6 cd6 ct6), sl6⟩) (c6 : PySem.W.codeIn K cd6 "_law_names" = true) (k6 : PySem.W.keepIn K (.ref f6) = true)
    (a7 : PySem.W.nsIn K mainGlobals "_law_numbers" = some (some (.ref f7))) (l7 : K.lookup f7 = some ⟨oc7, od7, .func (PySem.W.fnOf "_law_numbers" "_law_numbers" (defArgs s_l_numbers) (defBody s_l_numbers) (defScope s_l_numbers) .none kV7 dc7 pm7 an7 cd7 ct7), sl7⟩) (c7 : PySem.W.codeIn K cd7 "_law_numbers" = true) (k7 : PySem.W.keepIn K (.ref f7) = true)
    (a8 : PySem.W.nsIn K mainGlobals "_law_walk" = some (some (.ref f8))) (l8 : K.lookup f8 = some ⟨oc8, od8, .func (PySem.W.fnOf "_law_walk" "_law_walk" (defArgs s_l_walk) (defBody s_l_walk) (defScope s_l_walk) .none kV8 dc8 pm8 an8 cd8 ct8), sl8⟩) (c8 : PySem.W.codeIn K cd8 "_law_walk" = true) (k8 : PySem.W.keepIn K (.ref f8) = true)
    (a9 : PySem.W.nsIn K mainGlobals "_law_tile" = some (some (.ref f9))) (l9 : K.lookup f9 = some ⟨oc9, od9, .func (PySem.W.fnOf "_law_tile" "_law_tile" (defArgs s_l_tile) (defBody s_l_tile) (defScope s_l_tile) .none kV9 dc9 pm9 an9 cd9 ct9), sl9⟩) (c9 : PySem.W.codeIn K cd9 "_law_tile" = true) (k9 : PySem.W.keepIn K (.ref f9) = true)
    (a10 : PySem.W.nsIn K mainGlobals "_law_order" = some (some (.ref f10))) (l10 : K.lookup f10 = some ⟨oc10, od10, .func (PySem.W.fnOf "_law_order" "_law_order" (defArgs s_l_order) (defBody s_l_order) (defScope s_l_order) .none kV10 dc10 pm10 an10 cd10 ct10), sl10⟩) (c10 : PySem.W.codeIn K cd10 "_law_order" = true) (k10 : PySem.W.keepIn K (.ref f10) = true)
    (a11 : PySem.W.nsIn K mainGlobals "_law_tiles" = some (some (.ref f11))) (l11 : K.lookup f11 = some ⟨oc11, od11, .func (PySem.W.fnOf "_law_tiles" "_law_tiles" (defArgs s_l_tiles) (defBody s_l_tiles) (defScope s_l_tiles) .none kV11 dc11 pm11 an11 cd11 ct11), sl11⟩) (c11 : PySem.W.codeIn K cd11 "_law_tiles" = true) (k11 : PySem.W.keepIn K (.ref f11) = true)
    (a12 : PySem.W.nsIn K mainGlobals "_law_laid" = some (some (.ref f12))) (l12 : K.lookup f12 = some ⟨oc12, od12, .func (PySem.W.fnOf "_law_laid" "_law_laid" (defArgs s_l_laid) (defBody s_l_laid) (defScope s_l_laid) .none kV12 dc12 pm12 an12 cd12 ct12), sl12⟩) (c12 : PySem.W.codeIn K cd12 "_law_laid" = true) (k12 : PySem.W.keepIn K (.ref f12) = true)
    (a13 : PySem.W.nsIn K mainGlobals "_law_step" = some (some (.ref f13))) (l13 : K.lookup f13 = some ⟨oc13, od13, .func (PySem.W.fnOf "_law_step" "_law_step" (defArgs s_l_step) (defBody s_l_step) (defScope s_l_step) .none kV13 dc13 pm13 an13 cd13 ct13), sl13⟩) (c13 : PySem.W.codeIn K cd13 "_law_step" = true) (k13 : PySem.W.keepIn K (.ref f13) = true)
    (a14 : PySem.W.nsIn K mainGlobals "_law_lefts" = some (some (.ref f14))) (l14 : K.lookup f14 = some ⟨oc14, od14, .func (PySem.W.fnOf "_law_lefts" "_law_lefts" (defArgs s_l_lefts) (defBody s_l_lefts) (defScope s_l_lefts) .none kV14 dc14 pm14 an14 cd14 ct14), sl14⟩) (c14 : PySem.W.codeIn K cd14 "_law_lefts" = true) (k14 : PySem.W.keepIn K (.ref f14) = true)
    (a15 : PySem.W.nsIn K mainGlobals "_law_mark" = some (some (.ref f15))) (l15 : K.lookup f15 = some ⟨oc15, od15, .func (PySem.W.fnOf "_law_mark" "_law_mark" (defArgs s_l_mark) (defBody s_l_mark) (defScope s_l_mark) .none kV15 dc15 pm15 an15 cd15 ct15), sl15⟩) (c15 : PySem.W.codeIn K cd15 "_law_mark" = true) (k15 : PySem.W.keepIn K (.ref f15) = true)
    (a16 : PySem.W.nsIn K mainGlobals "_law_refused" = some (some (.ref f16))) (l16 : K.lookup f16 = some ⟨oc16, od16, .func (PySem.W.fnOf "_law_refused" "_law_refused" (defArgs s_l_refused) (defBody s_l_refused) (defScope s_l_refused) .none kV16 dc16 pm16 an16 cd16 ct16), sl16⟩) (c16 : PySem.W.codeIn K cd16 "_law_refused" = true) (k16 : PySem.W.keepIn K (.ref f16) = true)
    (a17 : PySem.W.nsIn K mainGlobals "_law_holds" = some (some (.ref f17))) (l17 : K.lookup f17 = some ⟨oc17, od17, .func (PySem.W.fnOf "_law_holds" "_law_holds" (defArgs s_l_holds) (defBody s_l_holds) (defScope s_l_holds) .none kV17 dc17 pm17 an17 cd17 ct17), sl17⟩) (c17 : PySem.W.codeIn K cd17 "_law_holds" = true) (k17 : PySem.W.keepIn K (.ref f17) = true)
    (a18 : PySem.W.nsIn K mainGlobals "law" = some (some (.ref f18))) (l18 : K.lookup f18 = some ⟨oc18, od18, .func (PySem.W.fnOf "law" "law" (defArgs s_law) (defBody s_law) (defScope s_law) .none kV18 dc18 pm18 an18 cd18 ct18), sl18⟩) (c18 : PySem.W.codeIn K cd18 "law" = true) (k18 : PySem.W.keepIn K (.ref f18) = true)
    (n_NoMark : PySem.W.nsIn K mainGlobals "NoMark" = some (some (.ref a_NoMark)))
    (n_NoTile : PySem.W.nsIn K mainGlobals "NoTile" = some (some (.ref a_NoTile)))
    (n_TileError : PySem.W.nsIn K mainGlobals "TileError" = some (some (.ref a_TileError)))
    (x1_NoMark : PySem.W.excIn K a_NoMark bmV "ValueError.__new__" = true) (x2_NoMark : PySem.W.findIn K (.ref a_NoMark) "__getattribute__" = some (some (.builtin "BaseException.__getattribute__"))) (x6_NoMark : PySem.W.findIn K (.ref a_NoMark) "__getattr__" = some none) (x3_NoMark : PySem.W.hasDictIn K a_NoMark = true) (x4_NoMark : PySem.W.findObj K a_NoMark none "__class__" = some (.bind (.builtin "getset_descriptor.__get__") (.builtin "object.__class__"))) (x5_NoMark : PySem.W.mroIn K a_NoMark (.type "object") = some true) (x7_NoMark : PySem.W.mroIn K a_NoMark (.type "BaseException") = some true)
    (y1_NoMark : PySem.W.exmOne K (.ref a_NoMark) (.ref a_TileError) = some true) (y2_NoMark : PySem.W.kitOne K (.ref a_NoMark) (.type "ValueError") = some true) (y3_NoMark : PySem.W.kitOne K (.ref a_NoMark) (.ref a_NoMark) = some true) (y4_NoMark : PySem.W.kitOne K (.ref a_NoMark) (.ref a_NoTile) = some false)
    (z_len : PySem.W.nsIn K mainGlobals "len" = some none)
    (z_list : PySem.W.nsIn K mainGlobals "list" = some none)
    (z_int : PySem.W.nsIn K mainGlobals "int" = some none)
    (z_bool : PySem.W.nsIn K mainGlobals "bool" = some none)
    (z_tuple : PySem.W.nsIn K mainGlobals "tuple" = some none)
    (z_str : PySem.W.nsIn K mainGlobals "str" = some none)
    (z_sum : PySem.W.nsIn K mainGlobals "sum" = some none)
    (z_sorted : PySem.W.nsIn K mainGlobals "sorted" = some none)
    (z_max : PySem.W.nsIn K mainGlobals "max" = some none)
    (z_isinstance : PySem.W.nsIn K mainGlobals "isinstance" = some none)
    (z_enumerate : PySem.W.nsIn K mainGlobals "enumerate" = some none)
    (z_set : PySem.W.nsIn K mainGlobals "set" = some none)
    (z_range : PySem.W.nsIn K mainGlobals "range" = some none)
    (z_reversed : PySem.W.nsIn K mainGlobals "reversed" = some none)
    (z_zip : PySem.W.nsIn K mainGlobals "zip" = some none)
    (z_ValueError : PySem.W.nsIn K mainGlobals "ValueError" = some none)
    (q_ii : PySem.W.kitOne K (.type "int") (.type "int") = some true)
    (q_ib : PySem.W.kitOne K (.type "int") (.type "bool") = some false)
    (q_bb : PySem.W.kitOne K (.type "bool") (.type "bool") = some true)
    (q_ll : PySem.W.kitOne K (.type "list") (.type "list") = some true)
    (q_tt : PySem.W.kitOne K (.type "tuple") (.type "tuple") = some true)
    (q_ss : PySem.W.kitOne K (.type "str") (.type "str") = some true) :
    ∃ fd : FuncData, (∀ (s : Shared) (v : Value), BindsTo s fd ⟨[v], []⟩ [("_law_script", v)]) ∧ ∀ base : Heap, K.In base → base.Ns mainGlobals mg → FnOk l.prog w K mg base CX0 6 fa fd ["_law_script"] (spLaw K) := by
  have e := hfa.symm.trans (PySem.W.mg_of X G a18)
  cases e
  have T : Blt mg := ⟨PySem.W.mg_none_of X G z_len, PySem.W.mg_none_of X G z_list, PySem.W.mg_none_of X G z_int, PySem.W.mg_none_of X G z_bool, PySem.W.mg_none_of X G z_tuple, PySem.W.mg_none_of X G z_str, PySem.W.mg_none_of X G z_sum, PySem.W.mg_none_of X G z_sorted, PySem.W.mg_none_of X G z_max, PySem.W.mg_none_of X G z_isinstance, PySem.W.mg_none_of X G z_enumerate, PySem.W.mg_none_of X G z_set, PySem.W.mg_none_of X G z_range, PySem.W.mg_none_of X G z_reversed, PySem.W.mg_none_of X G z_zip, PySem.W.mg_none_of X G z_ValueError⟩
  have KT : Kit K := ⟨q_ii, q_ib, q_bb, q_ll, q_tt, q_ss⟩
  have h_NoMark := PySem.W.mg_of X G n_NoMark
  have h_NoTile := PySem.W.mg_of X G n_NoTile
  have h_TileError := PySem.W.mg_of X G n_TileError
  have hx_NoMark : XCls K a_NoMark := ⟨x1_NoMark, x2_NoMark, x6_NoMark, x3_NoMark, x4_NoMark, x5_NoMark, x7_NoMark⟩
  have XK_NoMark : XKit K a_NoMark a_TileError a_NoTile := ⟨y1_NoMark, y2_NoMark, y3_NoMark, y4_NoMark⟩
  have F1 := fun_mk (st := s_has_tile) l1 c1 k1
  have b1 := F1.binds (ps := ["tiles", "number"]) fun _ _ _ _ _ _ us hl => match us, hl with | [_, _], _ => rfl
  have F2 := fun_mk (st := s_faces) l2 c2 k2
  have b2 := F2.binds (ps := ["tiles", "step"]) fun _ _ _ _ _ _ us hl => match us, hl with | [_, _], _ => rfl
  have F3 := fun_mk (st := s_begun_at) l3 c3 k3
  have b3 := F3.binds (ps := ["tiles", "ring", "mark"]) fun _ _ _ _ _ _ us hl => match us, hl with | [_, _, _], _ => rfl
  have F4 := fun_mk (st := s_l_cell_at) l4 c4 k4
  have b4 := F4.binds (ps := ["_law_script", "_law_k"]) fun _ _ _ _ _ _ us hl => match us, hl with | [_, _], _ => rfl
  have F5 := fun_mk (st := s_l_whole) l5 c5 k5
  have b5 := F5.binds (ps := ["_law_found"]) fun _ _ _ _ _ _ us hl => match us, hl with | [_], _ => rfl
  have F6 := fun_mk (st := s_l_names) l6 c6 k6
  have b6 := F6.binds (ps := ["_law_cell", "_law_far"]) fun _ _ _ _ _ _ us hl => match us, hl with | [_, _], _ => rfl
  have F7 := fun_mk (st := s_l_numbers) l7 c7 k7
  have b7 := F7.binds (ps := ["_law_cells", "_law_more", "_law_most"]) fun _ _ _ _ _ _ us hl => match us, hl with | [_, _, _], _ => rfl
  have F8 := fun_mk (st := s_l_walk) l8 c8 k8
  have b8 := F8.binds (ps := ["_law_numbers_here", "_law_names_here", "_law_closed"]) fun _ _ _ _ _ _ us hl => match us, hl with | [_, _, _], _ => rfl
  have F9 := fun_mk (st := s_l_tile) l9 c9 k9
  have b9 := F9.binds (ps := ["_law_part"]) fun _ _ _ _ _ _ us hl => match us, hl with | [_], _ => rfl
  have F10 := fun_mk (st := s_l_order) l10 c10 k10
  have b10 := F10.binds (ps := ["_law_numbers_here", "_law_size", "_law_way"]) fun _ _ _ _ _ _ us hl => match us, hl with | [_, _, _], _ => rfl
  have F11 := fun_mk (st := s_l_tiles) l11 c11 k11
  have b11 := F11.binds (ps := ["_law_parts", "_law_order_here"]) fun _ _ _ _ _ _ us hl => match us, hl with | [_, _], _ => rfl
  have F12 := fun_mk (st := s_l_laid) l12 c12 k12
  have b12 := F12.binds (ps := ["_law_parts", "_law_order_here"]) fun _ _ _ _ _ _ us hl => match us, hl with | [_, _], _ => rfl
  have F13 := fun_mk (st := s_l_step) l13 c13 k13
  have b13 := F13.binds (ps := ["_law_step_here"]) fun _ _ _ _ _ _ us hl => match us, hl with | [_], _ => rfl
  have F14 := fun_mk (st := s_l_lefts) l14 c14 k14
  have b14 := F14.binds (ps := ["_law_tiles_here", "_law_ring"]) fun _ _ _ _ _ _ us hl => match us, hl with | [_, _], _ => rfl
  have F15 := fun_mk (st := s_l_mark) l15 c15 k15
  have b15 := F15.binds (ps := ["_law_lefts_here", "_law_cell"]) fun _ _ _ _ _ _ us hl => match us, hl with | [_, _], _ => rfl
  have F16 := fun_mk (st := s_l_refused) l16 c16 k16
  have b16 := F16.binds (ps := ["_law_tiles_here", "_law_ring", "_law_mark_here"]) fun _ _ _ _ _ _ us hl => match us, hl with | [_, _, _], _ => rfl
  have F17 := fun_mk (st := s_l_holds) l17 c17 k17
  have b17 := F17.binds (ps := ["_law_tiles_here", "_law_ring", "_law_mark_here"]) fun _ _ _ _ _ _ us hl => match us, hl with | [_, _, _], _ => rfl
  have F18 := fun_mk (st := s_law) l18 c18 k18
  refine ⟨PySem.W.fnOf "law" "law" (defArgs s_law) (defBody s_law) (defScope s_law) .none kV18 dc18 pm18 an18 cd18 ct18, fun s v => .of_eq rfl, fun base _ _ => ?_⟩
  have c_has_tile : Callee l.prog w K mg base 1 "has_tile" ["tiles", "number"] spHas := ⟨_, _, ok_has_tile F1 T, PySem.W.mg_of X G a1, k1, b1⟩
  have c_faces : Callee l.prog w K mg base 2 "faces" ["tiles", "step"] spFaces := ⟨_, _, ok_faces F2 T c_has_tile, PySem.W.mg_of X G a2, k2, b2⟩
  have c_begun_at : Callee l.prog w K mg base 3 "begun_at" ["tiles", "ring", "mark"] spBegun := ⟨_, _, ok_begun_at F3 T c_faces, PySem.W.mg_of X G a3, k3, b3⟩
  have cx_begun_at : CalleeX l.prog w K mg base 3 "begun_at" ["tiles", "ring", "mark"] (spBegunX a_NoMark) := ⟨_, _, okX_begun_at F3 T h_NoMark hx_NoMark c_faces, PySem.W.mg_of X G a3, k3, b3⟩
  have c_l_cell_at : Callee l.prog w K mg base 1 "_law_cell_at" ["_law_script", "_law_k"] (spCell K) := ⟨_, _, ok_l_cell_at F4 T, PySem.W.mg_of X G a4, k4, b4⟩
  have c_l_whole : Callee l.prog w K mg base 1 "_law_whole" ["_law_found"] spWhole := ⟨_, _, ok_l_whole F5 T KT, PySem.W.mg_of X G a5, k5, b5⟩
  have c_l_names : Callee l.prog w K mg base 1 "_law_names" ["_law_cell", "_law_far"] spNames := ⟨_, _, ok_l_names F6 T, PySem.W.mg_of X G a6, k6, b6⟩
  have c_l_numbers : Callee l.prog w K mg base 1 "_law_numbers" ["_law_cells", "_law_more", "_law_most"] spNumbers := ⟨_, _, ok_l_numbers F7 T, PySem.W.mg_of X G a7, k7, b7⟩
  have c_l_walk : Callee l.prog w K mg base 1 "_law_walk" ["_law_numbers_here", "_law_names_here", "_law_closed"] spWalk := ⟨_, _, ok_l_walk F8 T, PySem.W.mg_of X G a8, k8, b8⟩
  have c_l_tile : Callee l.prog w K mg base 1 "_law_tile" ["_law_part"] spTile := ⟨_, _, ok_l_tile F9 T, PySem.W.mg_of X G a9, k9, b9⟩
  have c_l_order : Callee l.prog w K mg base 1 "_law_order" ["_law_numbers_here", "_law_size", "_law_way"] spOrder := ⟨_, _, ok_l_order F10 T, PySem.W.mg_of X G a10, k10, b10⟩
  have c_l_tiles : Callee l.prog w K mg base 2 "_law_tiles" ["_law_parts", "_law_order_here"] spTiles := ⟨_, _, ok_l_tiles F11 T c_l_tile, PySem.W.mg_of X G a11, k11, b11⟩
  have c_l_laid : Callee l.prog w K mg base 1 "_law_laid" ["_law_parts", "_law_order_here"] spLaid := ⟨_, _, ok_l_laid F12 T, PySem.W.mg_of X G a12, k12, b12⟩
  have c_l_step : Callee l.prog w K mg base 2 "_law_step" ["_law_step_here"] spStep := ⟨_, _, ok_l_step F13 T KT c_l_whole, PySem.W.mg_of X G a13, k13, b13⟩
  have c_l_lefts : Callee l.prog w K mg base 1 "_law_lefts" ["_law_tiles_here", "_law_ring"] spLefts := ⟨_, _, ok_l_lefts F14 T, PySem.W.mg_of X G a14, k14, b14⟩
  have c_l_mark : Callee l.prog w K mg base 1 "_law_mark" ["_law_lefts_here", "_law_cell"] spMark := ⟨_, _, ok_l_mark F15 T, PySem.W.mg_of X G a15, k15, b15⟩
  have c_l_refused : Callee l.prog w K mg base 4 "_law_refused" ["_law_tiles_here", "_law_ring", "_law_mark_here"] spRefused5 := ⟨_, _, ok_l_refused F16 T h_NoMark h_NoTile h_TileError hx_NoMark XK_NoMark cx_begun_at, PySem.W.mg_of X G a16, k16, b16⟩
  have c_l_holds : Callee l.prog w K mg base 5 "_law_holds" ["_law_tiles_here", "_law_ring", "_law_mark_here"] spHolds := ⟨_, _, ok_l_holds F17 T KT c_l_lefts c_l_refused c_begun_at c_l_step, PySem.W.mg_of X G a17, k17, b17⟩
  exact ok_law F18 T c_l_names c_l_cell_at c_l_numbers c_l_walk c_l_order c_l_tiles c_l_laid c_l_lefts c_l_mark c_l_holds
theorem walk {l : PySem.W.OpenLaw} {q : Program} {loose : List Str} {XP : (Str → Option Value) → Heap → Prop} {YP : World → Heap → Prop} {d : DefRec} {K : Params → PySem.W.Frag} (hn : l.most = some 63) (hdf : d.params.defaults = [])
    (hY : ∀ (w : World) (h : Heap), YP w h → (K w.params).In h)
    (F : ∀ (w : World) (mg : Str → Option Value) (fa : Addr) (h : Heap), (K w.params).In h → h.Ns mainGlobals mg → mg d.name = some (.ref fa) →
      ∃ fd : FuncData, (∀ (s : Shared) (u : Value), BindsTo s fd ⟨[u], []⟩ [("_law_script", u)]) ∧ ∀ base : Heap, (K w.params).In base → base.Ns mainGlobals mg → FnOk l.prog w (K w.params) mg base CX0 6 fa fd ["_law_script"] (spLaw (K w.params))) :
    PySem.W.WalkO q loose XP YP l.row.toRowW d [] (fun f vs => PySem.call f vs) :=
  L2.walk_of (n := 63) (k := 6) (x := "_law_script") (CX := fun _ => CX0) (sp := fun w => spLaw (K w.params)) hn (by decide) hdf ⟨rfl, by decide, by decide⟩ hY F (fun _ _ a ns hl _ hS => ⟨a, ns, rfl, hS, hl, fun _ => rfl⟩) fun _ _ _ _ _ z => z
end Tk05
open PySem PySem.W PyProof.Rows
set_option maxRecDepth 100000 in
set_option maxHeartbeats 0 in
theorem PySem.Challenge.cw_tilechain_k05_a_ring_begun_elsewhere_holds : PySem.Challenge.rw_tilechain_k05_a_ring_begun_elsewhere.Holds := by
  w_on; o_law; k_head; (case hw => w_witness2)
  k_fill
  refine Tk05.walk (l := PySem.Challenge.rw_tilechain_k05_a_ring_begun_elsewhere) rfl rfl (fun w h Y => PySem.W.kIn_of Y) ?F
  case F =>
    intro w mg fa h KX G hmg
    refine' Tk05.all_mk KX G hmg ?a1 ?l1 ?c1 ?k1 ?a2 ?l2 ?c2 ?k2 ?a3 ?l3 ?c3 ?k3 ?a4 ?l4 ?c4 ?k4 ?a5 ?l5 ?c5 ?k5 ?a6 ?l6 ?c6 ?k6 ?a7 ?l7 ?c7 ?k7 ?a8 ?l8 ?c8 ?k8 ?a9 ?l9 ?c9 ?k9 ?a10 ?l10 ?c10 ?k10 ?a11 ?l11 ?c11 ?k11 ?a12 ?l12 ?c12 ?k12 ?a13 ?l13 ?c13 ?k13 ?a14 ?l14 ?c14 ?k14 ?a15 ?l15 ?c15 ?k15 ?a16 ?l16 ?c16 ?k16 ?a17 ?l17 ?c17 ?k17 ?a18 ?l18 ?c18 ?k18 ?n_NoMark ?n_NoTile ?n_TileError ?x1_NoMark ?x2_NoMark ?x6_NoMark ?x3_NoMark ?x4_NoMark ?x5_NoMark ?x7_NoMark ?y1_NoMark ?y2_NoMark ?y3_NoMark ?y4_NoMark ?z_len ?z_list ?z_int ?z_bool ?z_tuple ?z_str ?z_sum ?z_sorted ?z_max ?z_isinstance ?z_enumerate ?z_set ?z_range ?z_reversed ?z_zip ?z_ValueError ?q_ii ?q_ib ?q_bb ?q_ll ?q_tt ?q_ss
    (case a1 => k_is)
    (case l1 => k_is)
    (case c1 => k_is)
    (case k1 => k_is)
    (case a2 => k_is)
    (case l2 => k_is)
    (case c2 => k_is)
    (case k2 => k_is)
    (case a3 => k_is)
    (case l3 => k_is)
    (case c3 => k_is)
    (case k3 => k_is)
    (case a4 => k_is)
    (case l4 => k_is)
    (case c4 => k_is)
    (case k4 => k_is)
    (case a5 => k_is)
    (case l5 => k_is)
    (case c5 => k_is)
    (case k5 => k_is)
    (case a6 => k_is)
    (case l6 => k_is)
    (case c6 => k_is)
    (case k6 => k_is)
    (case a7 => k_is)
    (case l7 => k_is)
    (case c7 => k_is)
    (case k7 => k_is)
    (case a8 => k_is)
    (case l8 => k_is)
    (case c8 => k_is)
    (case k8 => k_is)
    (case a9 => k_is)
    (case l9 => k_is)
    (case c9 => k_is)
    (case k9 => k_is)
    (case a10 => k_is)
    (case l10 => k_is)
    (case c10 => k_is)
    (case k10 => k_is)
    (case a11 => k_is)
    (case l11 => k_is)
    (case c11 => k_is)
    (case k11 => k_is)
    (case a12 => k_is)
    (case l12 => k_is)
    (case c12 => k_is)
    (case k12 => k_is)
    (case a13 => k_is)
    (case l13 => k_is)
    (case c13 => k_is)
    (case k13 => k_is)
    (case a14 => k_is)
    (case l14 => k_is)
    (case c14 => k_is)
    (case k14 => k_is)
    (case a15 => k_is)
    (case l15 => k_is)
    (case c15 => k_is)
    (case k15 => k_is)
    (case a16 => k_is)
    (case l16 => k_is)
    (case c16 => k_is)
    (case k16 => k_is)
    (case a17 => k_is)
    (case l17 => k_is)
    (case c17 => k_is)
    (case k17 => k_is)
    (case a18 => k_is)
    (case l18 => k_is)
    (case c18 => k_is)
    (case k18 => k_is)
    (case n_NoMark => k_is)
    (case n_NoTile => k_is)
    (case n_TileError => k_is)
    (case x1_NoMark => kernel_rfl)
    (case x2_NoMark => k_is)
    (case x6_NoMark => k_is)
    (case x3_NoMark => k_is)
    (case x4_NoMark => kernel_rfl)
    (case x5_NoMark => k_is)
    (case x7_NoMark => k_is)
    (case y1_NoMark => kernel_rfl)
    (case y2_NoMark => kit_is)
    (case y3_NoMark => kit_is)
    (case y4_NoMark => kit_is)
    (case z_len => k_is)
    (case z_list => k_is)
    (case z_int => k_is)
    (case z_bool => k_is)
    (case z_tuple => k_is)
    (case z_str => k_is)
    (case z_sum => k_is)
    (case z_sorted => k_is)
    (case z_max => k_is)
    (case z_isinstance => k_is)
    (case z_enumerate => k_is)
    (case z_set => k_is)
    (case z_range => k_is)
    (case z_reversed => k_is)
    (case z_zip => k_is)
    (case z_ValueError => k_is)
    (case q_ii => kit_is)
    (case q_ib => kit_is)
    (case q_bb => kit_is)
    (case q_ll => kit_is)
    (case q_tt => kit_is)
    (case q_ss => kit_is)
